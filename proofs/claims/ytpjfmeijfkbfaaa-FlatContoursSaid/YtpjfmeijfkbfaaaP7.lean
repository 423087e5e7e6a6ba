/- Texts of the proof, put together: Gf7T6, Gf7S. -/
import Derived.Test.YtpjfmeijfkbfaaaP4
import Derived.Test.YtpjfmeijfkbfaaaP6
/- What is left to show of each function, written out; the kernel reckons it. -/
namespace Go.Proofs.G5f
open Go Go.Abs Go.Proofs
set_option maxRecDepth 100000
set_option linter.unusedVariables false
def copyFr : List D → Option (List D) := fun ds => match ds with | [.sl n es cs] => some [.sl n es cs] | [.nil] => some [.sl 0 2 []] | _ => none
def copySt : List D → Option (List D) := fun ds => match ds with | [.sl n es cs] => some [.sl n es cs] | [.nil] => some [.sl 0 3 []] | _ => none
def preU (C : Ct) : FuncId → Option Handler := fun g => if g == 135 then some (stateH (witAll 3 56 27)) else if g == 15 then some (fixH C copyInts) else if g == 33 then some (fixH C copyFr) else if g == 49 then some (fixH C copyFr) else if g == 52 then some (fixH C copySt) else if g == 103 then some (fixH C copyS) else if g == 85 then some (stateH (eachB 128 56)) else if g == 97 then some (stateH (firstP 98 3)) else if g == 104 then some (stateH (eachW 129 97)) else if g == 107 then some (fixH C copyS) else if [12, 13, 67, 71, 68, 66, 118, 72, 18, 17, 70, 76, 14, 16, 19, 36, 22, 23, 96, 109, 130, 108, 106, 59, 60, 61, 20, 21, 74, 73, 27, 83, 84, 82, 26, 87, 34, 35, 37, 32, 48, 50, 51, 53, 54, 55, 56, 57, 101, 102, 99, 100, 58].contains g then some (saidH Try.prog C) else none
abbrev hU (C : Ct) : Handler := handlerX Try.prog (preU C) 12 6
def gCk (C : Ct) (L : AtLoop) (x0 : Int) (x1 : Int) (k : List D → Prop) : Prop := wpFn Try.prog (hU C) L 0 83 #[.agg #[.int .i64 x0, .int .i64 x1]] (heapOf []) (dataK k)
theorem gCk_text (C : Ct) (L : AtLoop) (x0 : Int) (x1 : Int) (k : List D → Prop) : gCk C L x0 x1 k =
 (bcase (decide (x1 ≤ 0))
 (k [(D.val (vI (3 : Int)))])
 (∃ n1 : Int,
 ((Says C 118 [(D.val (vI x0)), (D.val (vI x1))] [(D.val (vI n1))]) ∧
 (bcase (n1 != 1)
 (k [(D.val (vI (3 : Int)))])
 (((((Go.Value.slice (Option.some (Go.Addr.mk 1001 0 Option.none)) 2 2) = (Go.Value.slice (Option.some (Go.Addr.mk 1001 0 Option.none)) 2 2)) ∧
 ((Option.some (AObj.cells [(vI x0), (vI x1)] 3 false 1)) = (Option.some (AObj.cells [(vI x0), (vI x1)] 3 false 1)))) ∧
 (((vI x1) = (vI x1)) ∧
 (((Go.Value.pointer (Option.some (Go.Addr.mk 1000 1 Option.none))) = (Go.Value.pointer (Option.some (Go.Addr.mk 1000 1 Option.none)))) ∧
 (((vI x0) = (vI x0)) ∧
 (((Go.Value.pointer (Option.some (Go.Addr.mk 1000 0 Option.none))) = (Go.Value.pointer (Option.some (Go.Addr.mk 1000 0 Option.none)))) ∧
 True))))) ∧
 (((((Go.Value.slice (Option.some (Go.Addr.mk 1001 0 Option.none)) 2 2) = (Go.Value.slice (Option.some (Go.Addr.mk 1001 0 Option.none)) 2 2)) ∧
 ((Option.some (AObj.cells [(vI x0), (vI x1)] 3 false 1)) = (Option.some (AObj.cells [(vI x0), (vI x1)] 3 false 1)))) ∧
 (((vI x1) = (vI x1)) ∧
 (((Go.Value.pointer (Option.some (Go.Addr.mk 1000 1 Option.none))) = (Go.Value.pointer (Option.some (Go.Addr.mk 1000 1 Option.none)))) ∧
 (((vI x0) = (vI x0)) ∧
 (((Go.Value.pointer (Option.some (Go.Addr.mk 1000 0 Option.none))) = (Go.Value.pointer (Option.some (Go.Addr.mk 1000 0 Option.none)))) ∧
 True))))) ∧
 (∃ r1 : Int,
 ((Says witC 0 [(D.val (vI (-(999999999 + 1) : Int))), (D.val (vI (1000000000 : Int))), (D.val (vI (2 : Int))), (D.sl 2 1 [(vI x0), (vI x1)])] [(D.val (vI r1))]) ∧
 ((((vI x1) = (vI x1)) ∧
 (((Go.Value.pointer (Option.some (Go.Addr.mk 1000 1 Option.none))) = (Go.Value.pointer (Option.some (Go.Addr.mk 1000 1 Option.none)))) ∧
 (((vI x0) = (vI x0)) ∧
 (((Go.Value.pointer (Option.some (Go.Addr.mk 1000 0 Option.none))) = (Go.Value.pointer (Option.some (Go.Addr.mk 1000 0 Option.none)))) ∧
 True)))) ∧
 (True ∧
 (k [(D.val (vI r1))]))))))))))) := by kernel_rfl
def gKl (C : Ct) (L : AtLoop) (x0 : Int) (x1 : Int) (x2 : Int) (x3 : Int) (k : List D → Prop) : Prop := wpFn Try.prog (hU C) L 0 84 #[.agg #[.int .i64 x0, .int .i64 x1, .int .i64 x2, .int .i64 x3]] (heapOf []) (dataK k)
theorem gKl_text (C : Ct) (L : AtLoop) (x0 : Int) (x1 : Int) (x2 : Int) (x3 : Int) (k : List D → Prop) : gKl C L x0 x1 x2 x3 k =
 (((((Go.Value.slice (Option.some (Go.Addr.mk 1002 0 Option.none)) 2 2) = (Go.Value.slice (Option.some (Go.Addr.mk 1002 0 Option.none)) 2 2)) ∧
 ((Option.some (AObj.cells [(vI x0), (vI x1), (vI x2), (vI x3)] 56 false 2)) = (Option.some (AObj.cells [(vI x0), (vI x1), (vI x2), (vI x3)] 56 false 2)))) ∧
 (((Go.Value.agg [(vI x2), (vI x3)].toArray) = (Go.Value.agg [(vI x2), (vI x3)].toArray)) ∧
 (((Go.Value.pointer (Option.some (Go.Addr.mk 1000 2 Option.none))) = (Go.Value.pointer (Option.some (Go.Addr.mk 1000 2 Option.none)))) ∧
 (((Go.Value.agg [(vI x0), (vI x1)].toArray) = (Go.Value.agg [(vI x0), (vI x1)].toArray)) ∧
 (((Go.Value.pointer (Option.some (Go.Addr.mk 1000 0 Option.none))) = (Go.Value.pointer (Option.some (Go.Addr.mk 1000 0 Option.none)))) ∧
 ((((Go.Value.slice (Option.some (Go.Addr.mk 1001 0 Option.none)) 4 4) = (Go.Value.slice (Option.some (Go.Addr.mk 1001 0 Option.none)) 4 4)) ∧
 ((Option.some (AObj.cells [(vI x0), (vI x1), (vI x2), (vI x3)] 3 false 1)) = (Option.some (AObj.cells [(vI x0), (vI x1), (vI x2), (vI x3)] 3 false 1)))) ∧
 (((vI x3) = (vI x3)) ∧
 (((Go.Value.pointer (Option.some (Go.Addr.mk 1000 3 Option.none))) = (Go.Value.pointer (Option.some (Go.Addr.mk 1000 3 Option.none)))) ∧
 (((Go.Value.pointer (Option.some (Go.Addr.mk 1000 2 Option.none))) = (Go.Value.pointer (Option.some (Go.Addr.mk 1000 2 Option.none)))) ∧
 (((vI x2) = (vI x2)) ∧
 (((Go.Value.pointer (Option.some (Go.Addr.mk 1000 2 Option.none))) = (Go.Value.pointer (Option.some (Go.Addr.mk 1000 2 Option.none)))) ∧
 (((Go.Value.pointer (Option.some (Go.Addr.mk 1000 2 Option.none))) = (Go.Value.pointer (Option.some (Go.Addr.mk 1000 2 Option.none)))) ∧
 (((vI x1) = (vI x1)) ∧
 (((Go.Value.pointer (Option.some (Go.Addr.mk 1000 1 Option.none))) = (Go.Value.pointer (Option.some (Go.Addr.mk 1000 1 Option.none)))) ∧
 (((Go.Value.pointer (Option.some (Go.Addr.mk 1000 0 Option.none))) = (Go.Value.pointer (Option.some (Go.Addr.mk 1000 0 Option.none)))) ∧
 (((vI x0) = (vI x0)) ∧
 (((Go.Value.pointer (Option.some (Go.Addr.mk 1000 0 Option.none))) = (Go.Value.pointer (Option.some (Go.Addr.mk 1000 0 Option.none)))) ∧
 (((Go.Value.pointer (Option.some (Go.Addr.mk 1000 0 Option.none))) = (Go.Value.pointer (Option.some (Go.Addr.mk 1000 0 Option.none)))) ∧
 True)))))))))))))))))) ∧
 (((((Go.Value.slice (Option.some (Go.Addr.mk 1002 0 Option.none)) 2 2) = (Go.Value.slice (Option.some (Go.Addr.mk 1002 0 Option.none)) 2 2)) ∧
 ((Option.some (AObj.cells [(vI x0), (vI x1), (vI x2), (vI x3)] 56 false 2)) = (Option.some (AObj.cells [(vI x0), (vI x1), (vI x2), (vI x3)] 56 false 2)))) ∧
 (((Go.Value.agg [(vI x2), (vI x3)].toArray) = (Go.Value.agg [(vI x2), (vI x3)].toArray)) ∧
 (((Go.Value.pointer (Option.some (Go.Addr.mk 1000 2 Option.none))) = (Go.Value.pointer (Option.some (Go.Addr.mk 1000 2 Option.none)))) ∧
 (((Go.Value.agg [(vI x0), (vI x1)].toArray) = (Go.Value.agg [(vI x0), (vI x1)].toArray)) ∧
 (((Go.Value.pointer (Option.some (Go.Addr.mk 1000 0 Option.none))) = (Go.Value.pointer (Option.some (Go.Addr.mk 1000 0 Option.none)))) ∧
 ((((Go.Value.slice (Option.some (Go.Addr.mk 1001 0 Option.none)) 4 4) = (Go.Value.slice (Option.some (Go.Addr.mk 1001 0 Option.none)) 4 4)) ∧
 ((Option.some (AObj.cells [(vI x0), (vI x1), (vI x2), (vI x3)] 3 false 1)) = (Option.some (AObj.cells [(vI x0), (vI x1), (vI x2), (vI x3)] 3 false 1)))) ∧
 (((vI x3) = (vI x3)) ∧
 (((Go.Value.pointer (Option.some (Go.Addr.mk 1000 3 Option.none))) = (Go.Value.pointer (Option.some (Go.Addr.mk 1000 3 Option.none)))) ∧
 (((Go.Value.pointer (Option.some (Go.Addr.mk 1000 2 Option.none))) = (Go.Value.pointer (Option.some (Go.Addr.mk 1000 2 Option.none)))) ∧
 (((vI x2) = (vI x2)) ∧
 (((Go.Value.pointer (Option.some (Go.Addr.mk 1000 2 Option.none))) = (Go.Value.pointer (Option.some (Go.Addr.mk 1000 2 Option.none)))) ∧
 (((Go.Value.pointer (Option.some (Go.Addr.mk 1000 2 Option.none))) = (Go.Value.pointer (Option.some (Go.Addr.mk 1000 2 Option.none)))) ∧
 (((vI x1) = (vI x1)) ∧
 (((Go.Value.pointer (Option.some (Go.Addr.mk 1000 1 Option.none))) = (Go.Value.pointer (Option.some (Go.Addr.mk 1000 1 Option.none)))) ∧
 (((Go.Value.pointer (Option.some (Go.Addr.mk 1000 0 Option.none))) = (Go.Value.pointer (Option.some (Go.Addr.mk 1000 0 Option.none)))) ∧
 (((vI x0) = (vI x0)) ∧
 (((Go.Value.pointer (Option.some (Go.Addr.mk 1000 0 Option.none))) = (Go.Value.pointer (Option.some (Go.Addr.mk 1000 0 Option.none)))) ∧
 (((Go.Value.pointer (Option.some (Go.Addr.mk 1000 0 Option.none))) = (Go.Value.pointer (Option.some (Go.Addr.mk 1000 0 Option.none)))) ∧
 True)))))))))))))))))) ∧
 (∃ r1 : Int,
 ((Says witC 0 [(D.val (vI (0 : Int))), (D.val (vI (10000 : Int))), (D.val (vI (2 : Int))), (D.sl 4 1 [(vI x0), (vI x1), (vI x2), (vI x3)])] [(D.val (vI r1))]) ∧
 (((((Go.Value.slice (Option.some (Go.Addr.mk 1002 0 Option.none)) 2 2) = (Go.Value.slice (Option.some (Go.Addr.mk 1002 0 Option.none)) 2 2)) ∧
 ((Option.some (AObj.cells [(vI x0), (vI x1), (vI x2), (vI x3)] 56 false 2)) = (Option.some (AObj.cells [(vI x0), (vI x1), (vI x2), (vI x3)] 56 false 2)))) ∧
 (((Go.Value.agg [(vI x2), (vI x3)].toArray) = (Go.Value.agg [(vI x2), (vI x3)].toArray)) ∧
 (((Go.Value.pointer (Option.some (Go.Addr.mk 1000 2 Option.none))) = (Go.Value.pointer (Option.some (Go.Addr.mk 1000 2 Option.none)))) ∧
 (((Go.Value.agg [(vI x0), (vI x1)].toArray) = (Go.Value.agg [(vI x0), (vI x1)].toArray)) ∧
 (((Go.Value.pointer (Option.some (Go.Addr.mk 1000 0 Option.none))) = (Go.Value.pointer (Option.some (Go.Addr.mk 1000 0 Option.none)))) ∧
 (((vI x3) = (vI x3)) ∧
 (((Go.Value.pointer (Option.some (Go.Addr.mk 1000 3 Option.none))) = (Go.Value.pointer (Option.some (Go.Addr.mk 1000 3 Option.none)))) ∧
 (((Go.Value.pointer (Option.some (Go.Addr.mk 1000 2 Option.none))) = (Go.Value.pointer (Option.some (Go.Addr.mk 1000 2 Option.none)))) ∧
 (((vI x2) = (vI x2)) ∧
 (((Go.Value.pointer (Option.some (Go.Addr.mk 1000 2 Option.none))) = (Go.Value.pointer (Option.some (Go.Addr.mk 1000 2 Option.none)))) ∧
 (((Go.Value.pointer (Option.some (Go.Addr.mk 1000 2 Option.none))) = (Go.Value.pointer (Option.some (Go.Addr.mk 1000 2 Option.none)))) ∧
 (((vI x1) = (vI x1)) ∧
 (((Go.Value.pointer (Option.some (Go.Addr.mk 1000 1 Option.none))) = (Go.Value.pointer (Option.some (Go.Addr.mk 1000 1 Option.none)))) ∧
 (((Go.Value.pointer (Option.some (Go.Addr.mk 1000 0 Option.none))) = (Go.Value.pointer (Option.some (Go.Addr.mk 1000 0 Option.none)))) ∧
 (((vI x0) = (vI x0)) ∧
 (((Go.Value.pointer (Option.some (Go.Addr.mk 1000 0 Option.none))) = (Go.Value.pointer (Option.some (Go.Addr.mk 1000 0 Option.none)))) ∧
 (((Go.Value.pointer (Option.some (Go.Addr.mk 1000 0 Option.none))) = (Go.Value.pointer (Option.some (Go.Addr.mk 1000 0 Option.none)))) ∧
 True))))))))))))))))) ∧
 (bcase (decide (x0 > x1))
 (((((Go.Value.slice (Option.some (Go.Addr.mk 1006 0 Option.none)) 2 2) = (Go.Value.slice (Option.some (Go.Addr.mk 1006 0 Option.none)) 2 2)) ∧
 ((Option.some (AObj.cells [(vI r1), (vI (9 : Int))] 27 false 1)) = (Option.some (AObj.cells [(vI r1), (vI (9 : Int))] 27 false 1)))) ∧
 (((Go.Value.agg [(vI x2), (vI x3)].toArray) = (Go.Value.agg [(vI x2), (vI x3)].toArray)) ∧
 (((Go.Value.pointer (Option.some (Go.Addr.mk 1000 2 Option.none))) = (Go.Value.pointer (Option.some (Go.Addr.mk 1000 2 Option.none)))) ∧
 (((Go.Value.agg [(vI x0), (vI x1)].toArray) = (Go.Value.agg [(vI x0), (vI x1)].toArray)) ∧
 (((Go.Value.pointer (Option.some (Go.Addr.mk 1000 0 Option.none))) = (Go.Value.pointer (Option.some (Go.Addr.mk 1000 0 Option.none)))) ∧
 (((vI x3) = (vI x3)) ∧
 (((Go.Value.pointer (Option.some (Go.Addr.mk 1000 3 Option.none))) = (Go.Value.pointer (Option.some (Go.Addr.mk 1000 3 Option.none)))) ∧
 (((Go.Value.pointer (Option.some (Go.Addr.mk 1000 2 Option.none))) = (Go.Value.pointer (Option.some (Go.Addr.mk 1000 2 Option.none)))) ∧
 (((vI x2) = (vI x2)) ∧
 (((Go.Value.pointer (Option.some (Go.Addr.mk 1000 2 Option.none))) = (Go.Value.pointer (Option.some (Go.Addr.mk 1000 2 Option.none)))) ∧
 (((Go.Value.pointer (Option.some (Go.Addr.mk 1000 2 Option.none))) = (Go.Value.pointer (Option.some (Go.Addr.mk 1000 2 Option.none)))) ∧
 (((vI x1) = (vI x1)) ∧
 (((Go.Value.pointer (Option.some (Go.Addr.mk 1000 1 Option.none))) = (Go.Value.pointer (Option.some (Go.Addr.mk 1000 1 Option.none)))) ∧
 (((Go.Value.pointer (Option.some (Go.Addr.mk 1000 0 Option.none))) = (Go.Value.pointer (Option.some (Go.Addr.mk 1000 0 Option.none)))) ∧
 (((vI x0) = (vI x0)) ∧
 (((Go.Value.pointer (Option.some (Go.Addr.mk 1000 0 Option.none))) = (Go.Value.pointer (Option.some (Go.Addr.mk 1000 0 Option.none)))) ∧
 (((Go.Value.pointer (Option.some (Go.Addr.mk 1000 0 Option.none))) = (Go.Value.pointer (Option.some (Go.Addr.mk 1000 0 Option.none)))) ∧
 True))))))))))))))))) ∧
 (∃ n1 : Int,
 ((Says C 67 [(D.sl 2 1 [(vI r1), (vI (9 : Int))])] [(D.val (vI n1))]) ∧
 ((((Go.Value.agg [(vI x2), (vI x3)].toArray) = (Go.Value.agg [(vI x2), (vI x3)].toArray)) ∧
 (((Go.Value.pointer (Option.some (Go.Addr.mk 1000 2 Option.none))) = (Go.Value.pointer (Option.some (Go.Addr.mk 1000 2 Option.none)))) ∧
 (((Go.Value.agg [(vI x0), (vI x1)].toArray) = (Go.Value.agg [(vI x0), (vI x1)].toArray)) ∧
 (((Go.Value.pointer (Option.some (Go.Addr.mk 1000 0 Option.none))) = (Go.Value.pointer (Option.some (Go.Addr.mk 1000 0 Option.none)))) ∧
 (((vI x3) = (vI x3)) ∧
 (((Go.Value.pointer (Option.some (Go.Addr.mk 1000 3 Option.none))) = (Go.Value.pointer (Option.some (Go.Addr.mk 1000 3 Option.none)))) ∧
 (((Go.Value.pointer (Option.some (Go.Addr.mk 1000 2 Option.none))) = (Go.Value.pointer (Option.some (Go.Addr.mk 1000 2 Option.none)))) ∧
 (((vI x2) = (vI x2)) ∧
 (((Go.Value.pointer (Option.some (Go.Addr.mk 1000 2 Option.none))) = (Go.Value.pointer (Option.some (Go.Addr.mk 1000 2 Option.none)))) ∧
 (((Go.Value.pointer (Option.some (Go.Addr.mk 1000 2 Option.none))) = (Go.Value.pointer (Option.some (Go.Addr.mk 1000 2 Option.none)))) ∧
 (((vI x1) = (vI x1)) ∧
 (((Go.Value.pointer (Option.some (Go.Addr.mk 1000 1 Option.none))) = (Go.Value.pointer (Option.some (Go.Addr.mk 1000 1 Option.none)))) ∧
 (((Go.Value.pointer (Option.some (Go.Addr.mk 1000 0 Option.none))) = (Go.Value.pointer (Option.some (Go.Addr.mk 1000 0 Option.none)))) ∧
 (((vI x0) = (vI x0)) ∧
 (((Go.Value.pointer (Option.some (Go.Addr.mk 1000 0 Option.none))) = (Go.Value.pointer (Option.some (Go.Addr.mk 1000 0 Option.none)))) ∧
 (((Go.Value.pointer (Option.some (Go.Addr.mk 1000 0 Option.none))) = (Go.Value.pointer (Option.some (Go.Addr.mk 1000 0 Option.none)))) ∧
 True)))))))))))))))) ∧
 (True ∧
 (k [(D.val (vI n1))]))))))
 (bcase (decide (x2 > x3))
 (((((Go.Value.slice (Option.some (Go.Addr.mk 1007 0 Option.none)) 2 2) = (Go.Value.slice (Option.some (Go.Addr.mk 1007 0 Option.none)) 2 2)) ∧
 ((Option.some (AObj.cells [(vI r1), (vI (9 : Int))] 27 false 1)) = (Option.some (AObj.cells [(vI r1), (vI (9 : Int))] 27 false 1)))) ∧
 (((Go.Value.agg [(vI x2), (vI x3)].toArray) = (Go.Value.agg [(vI x2), (vI x3)].toArray)) ∧
 (((Go.Value.pointer (Option.some (Go.Addr.mk 1000 2 Option.none))) = (Go.Value.pointer (Option.some (Go.Addr.mk 1000 2 Option.none)))) ∧
 (((Go.Value.agg [(vI x0), (vI x1)].toArray) = (Go.Value.agg [(vI x0), (vI x1)].toArray)) ∧
 (((Go.Value.pointer (Option.some (Go.Addr.mk 1000 0 Option.none))) = (Go.Value.pointer (Option.some (Go.Addr.mk 1000 0 Option.none)))) ∧
 (((vI x3) = (vI x3)) ∧
 (((Go.Value.pointer (Option.some (Go.Addr.mk 1000 3 Option.none))) = (Go.Value.pointer (Option.some (Go.Addr.mk 1000 3 Option.none)))) ∧
 (((Go.Value.pointer (Option.some (Go.Addr.mk 1000 2 Option.none))) = (Go.Value.pointer (Option.some (Go.Addr.mk 1000 2 Option.none)))) ∧
 (((vI x2) = (vI x2)) ∧
 (((Go.Value.pointer (Option.some (Go.Addr.mk 1000 2 Option.none))) = (Go.Value.pointer (Option.some (Go.Addr.mk 1000 2 Option.none)))) ∧
 (((Go.Value.pointer (Option.some (Go.Addr.mk 1000 2 Option.none))) = (Go.Value.pointer (Option.some (Go.Addr.mk 1000 2 Option.none)))) ∧
 (((vI x1) = (vI x1)) ∧
 (((Go.Value.pointer (Option.some (Go.Addr.mk 1000 1 Option.none))) = (Go.Value.pointer (Option.some (Go.Addr.mk 1000 1 Option.none)))) ∧
 (((Go.Value.pointer (Option.some (Go.Addr.mk 1000 0 Option.none))) = (Go.Value.pointer (Option.some (Go.Addr.mk 1000 0 Option.none)))) ∧
 (((vI x0) = (vI x0)) ∧
 (((Go.Value.pointer (Option.some (Go.Addr.mk 1000 0 Option.none))) = (Go.Value.pointer (Option.some (Go.Addr.mk 1000 0 Option.none)))) ∧
 (((Go.Value.pointer (Option.some (Go.Addr.mk 1000 0 Option.none))) = (Go.Value.pointer (Option.some (Go.Addr.mk 1000 0 Option.none)))) ∧
 True))))))))))))))))) ∧
 (∃ n1 : Int,
 ((Says C 67 [(D.sl 2 1 [(vI r1), (vI (9 : Int))])] [(D.val (vI n1))]) ∧
 ((((Go.Value.agg [(vI x2), (vI x3)].toArray) = (Go.Value.agg [(vI x2), (vI x3)].toArray)) ∧
 (((Go.Value.pointer (Option.some (Go.Addr.mk 1000 2 Option.none))) = (Go.Value.pointer (Option.some (Go.Addr.mk 1000 2 Option.none)))) ∧
 (((Go.Value.agg [(vI x0), (vI x1)].toArray) = (Go.Value.agg [(vI x0), (vI x1)].toArray)) ∧
 (((Go.Value.pointer (Option.some (Go.Addr.mk 1000 0 Option.none))) = (Go.Value.pointer (Option.some (Go.Addr.mk 1000 0 Option.none)))) ∧
 (((vI x3) = (vI x3)) ∧
 (((Go.Value.pointer (Option.some (Go.Addr.mk 1000 3 Option.none))) = (Go.Value.pointer (Option.some (Go.Addr.mk 1000 3 Option.none)))) ∧
 (((Go.Value.pointer (Option.some (Go.Addr.mk 1000 2 Option.none))) = (Go.Value.pointer (Option.some (Go.Addr.mk 1000 2 Option.none)))) ∧
 (((vI x2) = (vI x2)) ∧
 (((Go.Value.pointer (Option.some (Go.Addr.mk 1000 2 Option.none))) = (Go.Value.pointer (Option.some (Go.Addr.mk 1000 2 Option.none)))) ∧
 (((Go.Value.pointer (Option.some (Go.Addr.mk 1000 2 Option.none))) = (Go.Value.pointer (Option.some (Go.Addr.mk 1000 2 Option.none)))) ∧
 (((vI x1) = (vI x1)) ∧
 (((Go.Value.pointer (Option.some (Go.Addr.mk 1000 1 Option.none))) = (Go.Value.pointer (Option.some (Go.Addr.mk 1000 1 Option.none)))) ∧
 (((Go.Value.pointer (Option.some (Go.Addr.mk 1000 0 Option.none))) = (Go.Value.pointer (Option.some (Go.Addr.mk 1000 0 Option.none)))) ∧
 (((vI x0) = (vI x0)) ∧
 (((Go.Value.pointer (Option.some (Go.Addr.mk 1000 0 Option.none))) = (Go.Value.pointer (Option.some (Go.Addr.mk 1000 0 Option.none)))) ∧
 (((Go.Value.pointer (Option.some (Go.Addr.mk 1000 0 Option.none))) = (Go.Value.pointer (Option.some (Go.Addr.mk 1000 0 Option.none)))) ∧
 True)))))))))))))))) ∧
 (True ∧
 (k [(D.val (vI n1))]))))))
 (((((Go.Value.slice (Option.some (Go.Addr.mk 1007 0 Option.none)) 2 2) = (Go.Value.slice (Option.some (Go.Addr.mk 1007 0 Option.none)) 2 2)) ∧
 ((Option.some (AObj.cells [(vI r1), (vI (0 : Int))] 27 false 1)) = (Option.some (AObj.cells [(vI r1), (vI (0 : Int))] 27 false 1)))) ∧
 (((Go.Value.agg [(vI x2), (vI x3)].toArray) = (Go.Value.agg [(vI x2), (vI x3)].toArray)) ∧
 (((Go.Value.pointer (Option.some (Go.Addr.mk 1000 2 Option.none))) = (Go.Value.pointer (Option.some (Go.Addr.mk 1000 2 Option.none)))) ∧
 (((Go.Value.agg [(vI x0), (vI x1)].toArray) = (Go.Value.agg [(vI x0), (vI x1)].toArray)) ∧
 (((Go.Value.pointer (Option.some (Go.Addr.mk 1000 0 Option.none))) = (Go.Value.pointer (Option.some (Go.Addr.mk 1000 0 Option.none)))) ∧
 (((vI x3) = (vI x3)) ∧
 (((Go.Value.pointer (Option.some (Go.Addr.mk 1000 3 Option.none))) = (Go.Value.pointer (Option.some (Go.Addr.mk 1000 3 Option.none)))) ∧
 (((Go.Value.pointer (Option.some (Go.Addr.mk 1000 2 Option.none))) = (Go.Value.pointer (Option.some (Go.Addr.mk 1000 2 Option.none)))) ∧
 (((vI x2) = (vI x2)) ∧
 (((Go.Value.pointer (Option.some (Go.Addr.mk 1000 2 Option.none))) = (Go.Value.pointer (Option.some (Go.Addr.mk 1000 2 Option.none)))) ∧
 (((Go.Value.pointer (Option.some (Go.Addr.mk 1000 2 Option.none))) = (Go.Value.pointer (Option.some (Go.Addr.mk 1000 2 Option.none)))) ∧
 (((vI x1) = (vI x1)) ∧
 (((Go.Value.pointer (Option.some (Go.Addr.mk 1000 1 Option.none))) = (Go.Value.pointer (Option.some (Go.Addr.mk 1000 1 Option.none)))) ∧
 (((Go.Value.pointer (Option.some (Go.Addr.mk 1000 0 Option.none))) = (Go.Value.pointer (Option.some (Go.Addr.mk 1000 0 Option.none)))) ∧
 (((vI x0) = (vI x0)) ∧
 (((Go.Value.pointer (Option.some (Go.Addr.mk 1000 0 Option.none))) = (Go.Value.pointer (Option.some (Go.Addr.mk 1000 0 Option.none)))) ∧
 (((Go.Value.pointer (Option.some (Go.Addr.mk 1000 0 Option.none))) = (Go.Value.pointer (Option.some (Go.Addr.mk 1000 0 Option.none)))) ∧
 True))))))))))))))))) ∧
 (∃ n1 : Int,
 ((Says C 67 [(D.sl 2 1 [(vI r1), (vI (0 : Int))])] [(D.val (vI n1))]) ∧
 ((((Go.Value.agg [(vI x2), (vI x3)].toArray) = (Go.Value.agg [(vI x2), (vI x3)].toArray)) ∧
 (((Go.Value.pointer (Option.some (Go.Addr.mk 1000 2 Option.none))) = (Go.Value.pointer (Option.some (Go.Addr.mk 1000 2 Option.none)))) ∧
 (((Go.Value.agg [(vI x0), (vI x1)].toArray) = (Go.Value.agg [(vI x0), (vI x1)].toArray)) ∧
 (((Go.Value.pointer (Option.some (Go.Addr.mk 1000 0 Option.none))) = (Go.Value.pointer (Option.some (Go.Addr.mk 1000 0 Option.none)))) ∧
 (((vI x3) = (vI x3)) ∧
 (((Go.Value.pointer (Option.some (Go.Addr.mk 1000 3 Option.none))) = (Go.Value.pointer (Option.some (Go.Addr.mk 1000 3 Option.none)))) ∧
 (((Go.Value.pointer (Option.some (Go.Addr.mk 1000 2 Option.none))) = (Go.Value.pointer (Option.some (Go.Addr.mk 1000 2 Option.none)))) ∧
 (((vI x2) = (vI x2)) ∧
 (((Go.Value.pointer (Option.some (Go.Addr.mk 1000 2 Option.none))) = (Go.Value.pointer (Option.some (Go.Addr.mk 1000 2 Option.none)))) ∧
 (((Go.Value.pointer (Option.some (Go.Addr.mk 1000 2 Option.none))) = (Go.Value.pointer (Option.some (Go.Addr.mk 1000 2 Option.none)))) ∧
 (((vI x1) = (vI x1)) ∧
 (((Go.Value.pointer (Option.some (Go.Addr.mk 1000 1 Option.none))) = (Go.Value.pointer (Option.some (Go.Addr.mk 1000 1 Option.none)))) ∧
 (((Go.Value.pointer (Option.some (Go.Addr.mk 1000 0 Option.none))) = (Go.Value.pointer (Option.some (Go.Addr.mk 1000 0 Option.none)))) ∧
 (((vI x0) = (vI x0)) ∧
 (((Go.Value.pointer (Option.some (Go.Addr.mk 1000 0 Option.none))) = (Go.Value.pointer (Option.some (Go.Addr.mk 1000 0 Option.none)))) ∧
 (((Go.Value.pointer (Option.some (Go.Addr.mk 1000 0 Option.none))) = (Go.Value.pointer (Option.some (Go.Addr.mk 1000 0 Option.none)))) ∧
 True)))))))))))))))) ∧
 (True ∧
 (k [(D.val (vI n1))]))))))))))))) := by kernel_rfl
def gFw (C : Ct) (L : AtLoop) (n0 : Nat) (c0 : Nat) (l0 : List Value) (k : List D → Prop) : Prop := wpFn Try.prog (hU C) L 0 82 #[.slice (some ⟨500, 0, none⟩) n0 c0, .func (.func 83) #[] #[]] (heapOf [(500, .sym l0 false 2)]) (dataK k)
theorem gFw_text (C : Ct) (L : AtLoop) (n0 : Nat) (c0 : Nat) (l0 : List Go.Value) (k : List D → Prop) : gFw C L n0 c0 l0 k =
 (L 0 [(Prod.mk 1 (Go.Value.func (Go.Fn.func 83) [].toArray [].toArray)), (Prod.mk 9 (Go.Value.slice (Option.some (Go.Addr.mk 500 0 Option.none)) (n0) (c0))), (Prod.mk 10 (vI ((↑n0 : Int)))), (Prod.mk 11 (vI (0 : Int)))] [(Prod.mk 500 (AObj.sym (l0) false 2))]) := by kernel_rfl
abbrev zFw1 (n0 : Nat) (c1 : Nat) (x2 : Int) (x3 : Int) (l4 : List Value) : Slots × Blocks := ([(1, (Value.func (.func 83) #[] #[])), (9, (Value.slice (some ⟨500, 0, none⟩) n0 c1)), (10, (Value.int .i64 x2)), (11, (Value.int .i64 x3))], [(500, (AObj.sym l4 false 2))])
def rFw1 (C : Ct) (L : AtLoop) (n0 : Nat) (c1 : Nat) (x2 : Int) (x3 : Int) (l4 : List Value) (B : Bx) (X : Xx) (k : List D → Prop) : Prop := wpRound Try.prog (hU C) L 82 0 [(1, (Value.func (.func 83) #[] #[])), (9, (Value.slice (some ⟨500, 0, none⟩) n0 c1)), (10, (Value.int .i64 x2)), (11, (Value.int .i64 x3))] [(500, (AObj.sym l4 false 2))] B X (dataK k)
theorem rFw1_text (C : Ct) (L : AtLoop) (n0 : Nat) (c1 : Nat) (x2 : Int) (x3 : Int) (l4 : List Go.Value) (B : Bx) (X : Xx) (k : List D → Prop) : rFw1 C L n0 c1 x2 x3 l4 B X k =
 (bcase (decide (x3 < x2))
 (bcase (decide (0 ≤ x3))
 (bcase (decide (x3 < (↑n0 : Int)))
 (∃ n1 : Int,
 (∃ n2 : Int,
 ((At (l4) (0 + Int.toNat x3 * 2) 2 [(vI n1), (vI n2)]) ∧
 (∃ n3 : Int,
 ((Says C 83 [(D.agg [(D.val (vI n1)), (D.val (vI n2))])] [(D.val (vI n3))]) ∧
 (bcase (n3 != 0)
 (k [(D.val (vI x3)), (D.val (vI n3))])
 (B [(Prod.mk 1 (Go.Value.func (Go.Fn.func 83) [].toArray [].toArray)), (Prod.mk 9 (Go.Value.slice (Option.some (Go.Addr.mk 500 0 Option.none)) (n0) (c1))), (Prod.mk 10 (vI x2)), (Prod.mk 11 (vI (IntKind.wrap .i64 (x3 + 1))))] [(Prod.mk 500 (AObj.sym (l4) false 2))])))))))
 False)
 False)
 (X 0 [] [])) := by kernel_rfl
def nFw2 (C : Ct) (L : AtLoop) (k : List D → Prop) : Prop := wpNext Try.prog (hU C) L 82 0 .normal [] [] (dataK k)
theorem nFw2_text (C : Ct) (L : AtLoop) (k : List D → Prop) : nFw2 C L k =
 (k [(D.val (vI (0 : Int))), (D.val (vI (0 : Int)))]) := by kernel_rfl
def gRK (C : Ct) (L : AtLoop) (n0 : Nat) (c0 : Nat) (l0 : List Value) (k : List D → Prop) : Prop := wpFn Try.prog (hU C) L 0 35 #[.slice (some ⟨500, 0, none⟩) n0 c0] (heapOf [(500, .sym l0 false 2)]) (dataK k)
theorem gRK_text (C : Ct) (L : AtLoop) (n0 : Nat) (c0 : Nat) (l0 : List Go.Value) (k : List D → Prop) : gRK C L n0 c0 l0 k =
 (bcase (decide ((↑n0 : Int) < 3))
 (k [(D.val (vI (10 : Int)))])
 (bcase (decide ((↑n0 : Int) > 9))
 (k [(D.val (vI (8 : Int)))])
 (L 0 [(Prod.mk 0 (Go.Value.slice (Option.some (Go.Addr.mk 500 0 Option.none)) (n0) (c0))), (Prod.mk 3 (vI (0 : Int)))] [(Prod.mk 500 (AObj.sym (l0) false 2))]))) := by kernel_rfl
abbrev zRK1 (n0 : Nat) (c1 : Nat) (x2 : Int) (l3 : List Value) : Slots × Blocks := ([(0, (Value.slice (some ⟨500, 0, none⟩) n0 c1)), (3, (Value.int .i64 x2))], [(500, (AObj.sym l3 false 2))])
def rRK1 (C : Ct) (L : AtLoop) (n0 : Nat) (c1 : Nat) (x2 : Int) (l3 : List Value) (B : Bx) (X : Xx) (k : List D → Prop) : Prop := wpRound Try.prog (hU C) L 35 0 [(0, (Value.slice (some ⟨500, 0, none⟩) n0 c1)), (3, (Value.int .i64 x2))] [(500, (AObj.sym l3 false 2))] B X (dataK k)
theorem rRK1_text (C : Ct) (L : AtLoop) (n0 : Nat) (c1 : Nat) (x2 : Int) (l3 : List Go.Value) (B : Bx) (X : Xx) (k : List D → Prop) : rRK1 C L n0 c1 x2 l3 B X k =
 (bcase (decide (x2 < (↑n0 : Int)))
 (bcase (decide (0 ≤ x2))
 (bcase (decide (x2 < (↑n0 : Int)))
 (∃ n1 : Int,
 (∃ n2 : Int,
 ((At (l3) (0 + Int.toNat x2 * 2) 2 [(vI n1), (vI n2)]) ∧
 (((Says C 26 [(D.agg [(D.val (vI n1)), (D.val (vI n2))])] [(D.val (Value.bool true))]) ∧
 (bcase (decide (0 ≤ x2))
 (bcase (decide (x2 < (↑n0 : Int)))
 (∃ n3 : Int,
 (∃ n4 : Int,
 ((At (l3) (0 + Int.toNat x2 * 2) 2 [(vI n3), (vI n4)]) ∧
 (((Says C 27 [(D.agg [(D.val (vI n3)), (D.val (vI n4))])] [(D.val (Value.bool true))]) ∧
 (B [(Prod.mk 0 (Go.Value.slice (Option.some (Go.Addr.mk 500 0 Option.none)) (n0) (c1))), (Prod.mk 3 (vI (IntKind.wrap .i64 (x2 + 1))))] [(Prod.mk 500 (AObj.sym (l3) false 2))])) ∨
 ((Says C 27 [(D.agg [(D.val (vI n3)), (D.val (vI n4))])] [(D.val (Value.bool false))]) ∧
 (k [(D.val (vI (2 : Int)))]))))))
 False)
 False)) ∨
 ((Says C 26 [(D.agg [(D.val (vI n1)), (D.val (vI n2))])] [(D.val (Value.bool false))]) ∧
 (k [(D.val (vI (3 : Int)))]))))))
 False)
 False)
 (X 0 [] [])) := by kernel_rfl
def nRK2 (C : Ct) (L : AtLoop) (k : List D → Prop) : Prop := wpNext Try.prog (hU C) L 35 0 .normal [] [] (dataK k)
theorem nRK2_text (C : Ct) (L : AtLoop) (k : List D → Prop) : nRK2 C L k =
 (k [(D.val (vI (0 : Int)))]) := by kernel_rfl
def gRKn (C : Ct) (L : AtLoop) (k : List D → Prop) : Prop := wpFn Try.prog (hU C) L 0 35 #[.slice none 0 0] (heapOf []) (dataK k)
theorem gRKn_text (C : Ct) (L : AtLoop) (k : List D → Prop) : gRKn C L k =
 (k [(D.val (vI (10 : Int)))]) := by kernel_rfl
def gIL (C : Ct) (L : AtLoop) (x0 : Int) (x1 : Int) (k : List D → Prop) : Prop := wpFn Try.prog (hU C) L 0 26 #[.agg #[.int .i64 x0, .int .i64 x1]] (heapOf []) (dataK k)
theorem gIL_text (C : Ct) (L : AtLoop) (x0 : Int) (x1 : Int) (k : List D → Prop) : gIL C L x0 x1 k =
 (bcase (decide (x1 > 0))
 (∃ n1 : Int,
 ((Says C 76 [(D.val (vI x0)), (D.val (vI x1))] [(D.val (vI n1))]) ∧
 (bcase (n1 == 1)
 (k [(D.val (Value.bool true))])
 (k [(D.val (Value.bool false))]))))
 (k [(D.val (Value.bool false))])) := by kernel_rfl
def gCp (C : Ct) (L : AtLoop) (x0 : Int) (x1 : Int) (x2 : Int) (x3 : Int) (k : List D → Prop) : Prop := wpFn Try.prog (hU C) L 0 87 #[.int .i64 x0, .int .i64 x1, .int .i64 x2, .int .i64 x3] (heapOf []) (dataK k)
theorem gCp_text (C : Ct) (L : AtLoop) (x0 : Int) (x1 : Int) (x2 : Int) (x3 : Int) (k : List D → Prop) : gCp C L x0 x1 x2 x3 k =
 (L 0 [(Prod.mk 0 (vI x0)), (Prod.mk 1 (vI x1)), (Prod.mk 2 (vI x2)), (Prod.mk 3 (vI x3))] []) := by kernel_rfl
abbrev zCp1 (x0 : Int) (x1 : Int) (x2 : Int) (x3 : Int) : Slots × Blocks := ([(0, (Value.int .i64 x0)), (1, (Value.int .i64 x1)), (2, (Value.int .i64 x2)), (3, (Value.int .i64 x3))], [])
def rCp1 (C : Ct) (L : AtLoop) (x0 : Int) (x1 : Int) (x2 : Int) (x3 : Int) (B : Bx) (X : Xx) (k : List D → Prop) : Prop := wpRound Try.prog (hU C) L 87 0 [(0, (Value.int .i64 x0)), (1, (Value.int .i64 x1)), (2, (Value.int .i64 x2)), (3, (Value.int .i64 x3))] [] B X (dataK k)
theorem rCp1_text (C : Ct) (L : AtLoop) (x0 : Int) (x1 : Int) (x2 : Int) (x3 : Int) (B : Bx) (X : Xx) (k : List D → Prop) : rCp1 C L x0 x1 x2 x3 B X k =
 (∃ n1 : Int,
 ((Says C 109 [(D.val (vI x0)), (D.val (vI x1))] [(D.val (vI n1))]) ∧
 (∃ n2 : Int,
 ((Says C 109 [(D.val (vI x2)), (D.val (vI x3))] [(D.val (vI n2))]) ∧
 (bcase (decide (n1 < n2))
 (k [(D.val (vI (-(0 + 1) : Int)))])
 (bcase (decide (n1 > n2))
 (k [(D.val (vI (1 : Int)))])
 (bcase (IntKind.wrap .i64 (x0 - IntKind.wrap .i64 (n1 * x1)) == 0)
 (bcase (IntKind.wrap .i64 (x2 - IntKind.wrap .i64 (n2 * x3)) == 0)
 (k [(D.val (vI (0 : Int)))])
 (bcase (IntKind.wrap .i64 (x0 - IntKind.wrap .i64 (n1 * x1)) == 0)
 (k [(D.val (vI (-(0 + 1) : Int)))])
 (bcase (IntKind.wrap .i64 (x2 - IntKind.wrap .i64 (n2 * x3)) == 0)
 (k [(D.val (vI (1 : Int)))])
 (B [(Prod.mk 0 (vI x3)), (Prod.mk 1 (vI (IntKind.wrap .i64 (x2 - IntKind.wrap .i64 (n2 * x3))))), (Prod.mk 2 (vI x1)), (Prod.mk 3 (vI (IntKind.wrap .i64 (x0 - IntKind.wrap .i64 (n1 * x1)))))] []))))
 (bcase (IntKind.wrap .i64 (x0 - IntKind.wrap .i64 (n1 * x1)) == 0)
 (k [(D.val (vI (-(0 + 1) : Int)))])
 (bcase (IntKind.wrap .i64 (x2 - IntKind.wrap .i64 (n2 * x3)) == 0)
 (k [(D.val (vI (1 : Int)))])
 (B [(Prod.mk 0 (vI x3)), (Prod.mk 1 (vI (IntKind.wrap .i64 (x2 - IntKind.wrap .i64 (n2 * x3))))), (Prod.mk 2 (vI x1)), (Prod.mk 3 (vI (IntKind.wrap .i64 (x0 - IntKind.wrap .i64 (n1 * x1)))))] [])))))))))) := by kernel_rfl
def gRB (C : Ct) (L : AtLoop) (x0 : Int) (x1 : Int) (x2 : Int) (x3 : Int) (n4 : Nat) (c4 : Nat) (l4 : List Value) (k : List D → Prop) : Prop := wpFn Try.prog (hU C) L 0 37 #[.agg #[.int .i64 x0, .int .i64 x1, .int .i64 x2, .int .i64 x3], .slice (some ⟨500, 0, none⟩) n4 c4] (heapOf [(500, .sym l4 false 2)]) (dataK k)
theorem gRB_text (C : Ct) (L : AtLoop) (x0 : Int) (x1 : Int) (x2 : Int) (x3 : Int) (n4 : Nat) (c4 : Nat) (l4 : List Go.Value) (k : List D → Prop) : gRB C L x0 x1 x2 x3 n4 c4 l4 k =
 (L 0 [(Prod.mk 1 (Go.Value.slice (Option.some (Go.Addr.mk 500 0 Option.none)) (n4) (c4))), (Prod.mk 2 (Go.Value.pointer (Option.some (Go.Addr.mk 1000 0 Option.none)))), (Prod.mk 5 (Go.Value.slice Option.none 0 0)), (Prod.mk 6 (vI (0 : Int)))] [(Prod.mk 500 (AObj.sym (l4) false 2)), (Prod.mk 1000 (AObj.cells [(vI x0), (vI x1), (vI x2), (vI x3)] 58 false 1))]) := by kernel_rfl
abbrev zRB1 (n0 : Nat) (c1 : Nat) (x2 : Int) (l3 : List Value) (x4 : Int) (x5 : Int) (x6 : Int) (x7 : Int) : Slots × Blocks := ([(1, (Value.slice (some ⟨500, 0, none⟩) n0 c1)), (2, (Value.pointer (some ⟨1000, 0, none⟩))), (5, (Value.slice none 0 0)), (6, (Value.int .i64 x2))], [(500, (AObj.sym l3 false 2)), (1000, (AObj.cells [(Value.int .i64 x4), (Value.int .i64 x5), (Value.int .i64 x6), (Value.int .i64 x7)] 58 false 1))])
def rRB1 (C : Ct) (L : AtLoop) (n0 : Nat) (c1 : Nat) (x2 : Int) (l3 : List Value) (x4 : Int) (x5 : Int) (x6 : Int) (x7 : Int) (B : Bx) (X : Xx) (k : List D → Prop) : Prop := wpRound Try.prog (hU C) L 37 0 [(1, (Value.slice (some ⟨500, 0, none⟩) n0 c1)), (2, (Value.pointer (some ⟨1000, 0, none⟩))), (5, (Value.slice none 0 0)), (6, (Value.int .i64 x2))] [(500, (AObj.sym l3 false 2)), (1000, (AObj.cells [(Value.int .i64 x4), (Value.int .i64 x5), (Value.int .i64 x6), (Value.int .i64 x7)] 58 false 1))] B X (dataK k)
theorem rRB1_text (C : Ct) (L : AtLoop) (n0 : Nat) (c1 : Nat) (x2 : Int) (l3 : List Go.Value) (x4 : Int) (x5 : Int) (x6 : Int) (x7 : Int) (B : Bx) (X : Xx) (k : List D → Prop) : rRB1 C L n0 c1 x2 l3 x4 x5 x6 x7 B X k =
 (bcase (decide (x2 < (↑n0 : Int)))
 (bcase (x2 == 0)
 (bcase (decide (0 ≤ x2))
 (bcase (decide (x2 < (↑n0 : Int)))
 (∃ n1 : Int,
 ((At (l3) (0 + Int.toNat x2 * 2) 1 [(vI n1)]) ∧
 (bcase (decide (0 ≤ x2))
 (bcase (decide (x2 < (↑n0 : Int)))
 (∃ n2 : Int,
 ((At (l3) (Go.Addr.off { block := 500, off := 0 + Int.toNat x2 * 2 } + 1) 1 [(vI n2)]) ∧
 (((∃ n3 : Int,
 ((At (l3) (Go.Addr.off { block := 500, off := 0 + Int.toNat x2 * 2 } + 1) 1 [(vI n3)]) ∧
 ((vI n3) = (vI n2)))) ∧
 (((Go.Value.pointer (Option.some (Go.Addr.mk 500 (Go.Addr.off { block := 500, off := 0 + Int.toNat x2 * 2 } + 1) Option.none))) = (Go.Value.pointer (Option.some (Go.Addr.mk 500 (Go.Addr.off { block := 500, off := 0 + Int.toNat x2 * 2 } + 1) Option.none)))) ∧
 ((bcase (decide (0 ≤ x2))
 (bcase (decide (x2 < (↑n0 : Int)))
 ((Go.Value.pointer (Option.some (Go.Addr.mk 500 (0 + Int.toNat x2 * 2) Option.none))) = (Go.Value.pointer (Option.some (Go.Addr.mk 500 (0 + Int.toNat x2 * 2) Option.none))))
 False)
 False) ∧
 (((vI x2) = (vI x2)) ∧
 (((Go.Value.slice (Option.some (Go.Addr.mk 500 0 Option.none)) (n0) (c1)) = (Go.Value.slice (Option.some (Go.Addr.mk 500 0 Option.none)) (n0) (c1))) ∧
 (((vI (IntKind.wrap .i64 (n1 * 1000000))) = (vI (IntKind.wrap .i64 (n1 * 1000000)))) ∧
 ((∃ n3 : Int,
 ((At (l3) (0 + Int.toNat x2 * 2) 1 [(vI n3)]) ∧
 ((vI n3) = (vI n1)))) ∧
 (((Go.Value.pointer (Option.some (Go.Addr.mk 500 (0 + Int.toNat x2 * 2) Option.none))) = (Go.Value.pointer (Option.some (Go.Addr.mk 500 (0 + Int.toNat x2 * 2) Option.none)))) ∧
 ((bcase (decide (0 ≤ x2))
 (bcase (decide (x2 < (↑n0 : Int)))
 ((Go.Value.pointer (Option.some (Go.Addr.mk 500 (0 + Int.toNat x2 * 2) Option.none))) = (Go.Value.pointer (Option.some (Go.Addr.mk 500 (0 + Int.toNat x2 * 2) Option.none))))
 False)
 False) ∧
 (((vI x2) = (vI x2)) ∧
 (((Go.Value.slice (Option.some (Go.Addr.mk 500 0 Option.none)) (n0) (c1)) = (Go.Value.slice (Option.some (Go.Addr.mk 500 0 Option.none)) (n0) (c1))) ∧
 True))))))))))) ∧
 (((∃ n3 : Int,
 ((At (l3) (Go.Addr.off { block := 500, off := 0 + Int.toNat x2 * 2 } + 1) 1 [(vI n3)]) ∧
 ((vI n3) = (vI n2)))) ∧
 (((Go.Value.pointer (Option.some (Go.Addr.mk 500 (Go.Addr.off { block := 500, off := 0 + Int.toNat x2 * 2 } + 1) Option.none))) = (Go.Value.pointer (Option.some (Go.Addr.mk 500 (Go.Addr.off { block := 500, off := 0 + Int.toNat x2 * 2 } + 1) Option.none)))) ∧
 ((bcase (decide (0 ≤ x2))
 (bcase (decide (x2 < (↑n0 : Int)))
 ((Go.Value.pointer (Option.some (Go.Addr.mk 500 (0 + Int.toNat x2 * 2) Option.none))) = (Go.Value.pointer (Option.some (Go.Addr.mk 500 (0 + Int.toNat x2 * 2) Option.none))))
 False)
 False) ∧
 (((vI x2) = (vI x2)) ∧
 (((Go.Value.slice (Option.some (Go.Addr.mk 500 0 Option.none)) (n0) (c1)) = (Go.Value.slice (Option.some (Go.Addr.mk 500 0 Option.none)) (n0) (c1))) ∧
 True))))) ∧
 (True ∧
 (∃ n3 : Int,
 ((Says C 87 [(D.val (vI (IntKind.wrap .i64 (n1 * 1000000)))), (D.val (vI n2)), (D.val (vI x5)), (D.val (vI (1 : Int)))] [(D.val (vI n3))]) ∧
 (bcase (decide (n3 > 0))
 (B [(Prod.mk 1 (Go.Value.slice (Option.some (Go.Addr.mk 500 0 Option.none)) (n0) (c1))), (Prod.mk 2 (Go.Value.pointer (Option.some (Go.Addr.mk 1000 0 Option.none)))), (Prod.mk 5 (Go.Value.slice (Option.some (Go.Addr.mk 1001 0 Option.none)) 1 1)), (Prod.mk 6 (vI (IntKind.wrap .i64 (x2 + 1))))] [(Prod.mk 500 (AObj.sym (l3) false 2)), (Prod.mk 1000 (AObj.cells [(vI x4), (vI x5), (vI x6), (vI x7)] 58 false 1)), (Prod.mk 1001 (AObj.sym [(vI (2 : Int))] true 1))])
 (∃ n4 : Int,
 ((Says C 87 [(D.val (vI (IntKind.wrap .i64 (n1 * 1000000)))), (D.val (vI n2)), (D.val (vI x4)), (D.val (vI (1 : Int)))] [(D.val (vI n4))]) ∧
 (bcase (decide (n4 ≤ 0))
 (B [(Prod.mk 1 (Go.Value.slice (Option.some (Go.Addr.mk 500 0 Option.none)) (n0) (c1))), (Prod.mk 2 (Go.Value.pointer (Option.some (Go.Addr.mk 1000 0 Option.none)))), (Prod.mk 5 (Go.Value.slice (Option.some (Go.Addr.mk 1001 0 Option.none)) 1 1)), (Prod.mk 6 (vI (IntKind.wrap .i64 (x2 + 1))))] [(Prod.mk 500 (AObj.sym (l3) false 2)), (Prod.mk 1000 (AObj.cells [(vI x4), (vI x5), (vI x6), (vI x7)] 58 false 1)), (Prod.mk 1001 (AObj.sym [(vI (0 : Int))] true 1))])
 (B [(Prod.mk 1 (Go.Value.slice (Option.some (Go.Addr.mk 500 0 Option.none)) (n0) (c1))), (Prod.mk 2 (Go.Value.pointer (Option.some (Go.Addr.mk 1000 0 Option.none)))), (Prod.mk 5 (Go.Value.slice (Option.some (Go.Addr.mk 1001 0 Option.none)) 1 1)), (Prod.mk 6 (vI (IntKind.wrap .i64 (x2 + 1))))] [(Prod.mk 500 (AObj.sym (l3) false 2)), (Prod.mk 1000 (AObj.cells [(vI x4), (vI x5), (vI x6), (vI x7)] 58 false 1)), (Prod.mk 1001 (AObj.sym [(vI (1 : Int))] true 1))]))))))))))))
 False)
 False)))
 False)
 False)
 (bcase (x2 == IntKind.wrap .i64 ((↑n0 : Int) - 1))
 (bcase (decide (0 ≤ x2))
 (bcase (decide (x2 < (↑n0 : Int)))
 (∃ n1 : Int,
 ((At (l3) (0 + Int.toNat x2 * 2) 1 [(vI n1)]) ∧
 (bcase (decide (0 ≤ x2))
 (bcase (decide (x2 < (↑n0 : Int)))
 (∃ n2 : Int,
 ((At (l3) (Go.Addr.off { block := 500, off := 0 + Int.toNat x2 * 2 } + 1) 1 [(vI n2)]) ∧
 (((∃ n3 : Int,
 ((At (l3) (Go.Addr.off { block := 500, off := 0 + Int.toNat x2 * 2 } + 1) 1 [(vI n3)]) ∧
 ((vI n3) = (vI n2)))) ∧
 (((Go.Value.pointer (Option.some (Go.Addr.mk 500 (Go.Addr.off { block := 500, off := 0 + Int.toNat x2 * 2 } + 1) Option.none))) = (Go.Value.pointer (Option.some (Go.Addr.mk 500 (Go.Addr.off { block := 500, off := 0 + Int.toNat x2 * 2 } + 1) Option.none)))) ∧
 ((bcase (decide (0 ≤ x2))
 (bcase (decide (x2 < (↑n0 : Int)))
 ((Go.Value.pointer (Option.some (Go.Addr.mk 500 (0 + Int.toNat x2 * 2) Option.none))) = (Go.Value.pointer (Option.some (Go.Addr.mk 500 (0 + Int.toNat x2 * 2) Option.none))))
 False)
 False) ∧
 (((vI x2) = (vI x2)) ∧
 (((Go.Value.slice (Option.some (Go.Addr.mk 500 0 Option.none)) (n0) (c1)) = (Go.Value.slice (Option.some (Go.Addr.mk 500 0 Option.none)) (n0) (c1))) ∧
 (((vI (IntKind.wrap .i64 (n1 * 1000000))) = (vI (IntKind.wrap .i64 (n1 * 1000000)))) ∧
 ((∃ n3 : Int,
 ((At (l3) (0 + Int.toNat x2 * 2) 1 [(vI n3)]) ∧
 ((vI n3) = (vI n1)))) ∧
 (((Go.Value.pointer (Option.some (Go.Addr.mk 500 (0 + Int.toNat x2 * 2) Option.none))) = (Go.Value.pointer (Option.some (Go.Addr.mk 500 (0 + Int.toNat x2 * 2) Option.none)))) ∧
 ((bcase (decide (0 ≤ x2))
 (bcase (decide (x2 < (↑n0 : Int)))
 ((Go.Value.pointer (Option.some (Go.Addr.mk 500 (0 + Int.toNat x2 * 2) Option.none))) = (Go.Value.pointer (Option.some (Go.Addr.mk 500 (0 + Int.toNat x2 * 2) Option.none))))
 False)
 False) ∧
 (((vI x2) = (vI x2)) ∧
 (((Go.Value.slice (Option.some (Go.Addr.mk 500 0 Option.none)) (n0) (c1)) = (Go.Value.slice (Option.some (Go.Addr.mk 500 0 Option.none)) (n0) (c1))) ∧
 True))))))))))) ∧
 (((∃ n3 : Int,
 ((At (l3) (Go.Addr.off { block := 500, off := 0 + Int.toNat x2 * 2 } + 1) 1 [(vI n3)]) ∧
 ((vI n3) = (vI n2)))) ∧
 (((Go.Value.pointer (Option.some (Go.Addr.mk 500 (Go.Addr.off { block := 500, off := 0 + Int.toNat x2 * 2 } + 1) Option.none))) = (Go.Value.pointer (Option.some (Go.Addr.mk 500 (Go.Addr.off { block := 500, off := 0 + Int.toNat x2 * 2 } + 1) Option.none)))) ∧
 ((bcase (decide (0 ≤ x2))
 (bcase (decide (x2 < (↑n0 : Int)))
 ((Go.Value.pointer (Option.some (Go.Addr.mk 500 (0 + Int.toNat x2 * 2) Option.none))) = (Go.Value.pointer (Option.some (Go.Addr.mk 500 (0 + Int.toNat x2 * 2) Option.none))))
 False)
 False) ∧
 (((vI x2) = (vI x2)) ∧
 (((Go.Value.slice (Option.some (Go.Addr.mk 500 0 Option.none)) (n0) (c1)) = (Go.Value.slice (Option.some (Go.Addr.mk 500 0 Option.none)) (n0) (c1))) ∧
 True))))) ∧
 (True ∧
 (∃ n3 : Int,
 ((Says C 87 [(D.val (vI (IntKind.wrap .i64 (n1 * 1000000)))), (D.val (vI n2)), (D.val (vI x5)), (D.val (vI (1 : Int)))] [(D.val (vI n3))]) ∧
 (bcase (decide (n3 > 0))
 (B [(Prod.mk 1 (Go.Value.slice (Option.some (Go.Addr.mk 500 0 Option.none)) (n0) (c1))), (Prod.mk 2 (Go.Value.pointer (Option.some (Go.Addr.mk 1000 0 Option.none)))), (Prod.mk 5 (Go.Value.slice (Option.some (Go.Addr.mk 1001 0 Option.none)) 1 1)), (Prod.mk 6 (vI (IntKind.wrap .i64 (x2 + 1))))] [(Prod.mk 500 (AObj.sym (l3) false 2)), (Prod.mk 1000 (AObj.cells [(vI x4), (vI x5), (vI x6), (vI x7)] 58 false 1)), (Prod.mk 1001 (AObj.sym [(vI (2 : Int))] true 1))])
 (∃ n4 : Int,
 ((Says C 87 [(D.val (vI (IntKind.wrap .i64 (n1 * 1000000)))), (D.val (vI n2)), (D.val (vI x4)), (D.val (vI (1 : Int)))] [(D.val (vI n4))]) ∧
 (bcase (decide (n4 ≤ 0))
 (B [(Prod.mk 1 (Go.Value.slice (Option.some (Go.Addr.mk 500 0 Option.none)) (n0) (c1))), (Prod.mk 2 (Go.Value.pointer (Option.some (Go.Addr.mk 1000 0 Option.none)))), (Prod.mk 5 (Go.Value.slice (Option.some (Go.Addr.mk 1001 0 Option.none)) 1 1)), (Prod.mk 6 (vI (IntKind.wrap .i64 (x2 + 1))))] [(Prod.mk 500 (AObj.sym (l3) false 2)), (Prod.mk 1000 (AObj.cells [(vI x4), (vI x5), (vI x6), (vI x7)] 58 false 1)), (Prod.mk 1001 (AObj.sym [(vI (0 : Int))] true 1))])
 (B [(Prod.mk 1 (Go.Value.slice (Option.some (Go.Addr.mk 500 0 Option.none)) (n0) (c1))), (Prod.mk 2 (Go.Value.pointer (Option.some (Go.Addr.mk 1000 0 Option.none)))), (Prod.mk 5 (Go.Value.slice (Option.some (Go.Addr.mk 1001 0 Option.none)) 1 1)), (Prod.mk 6 (vI (IntKind.wrap .i64 (x2 + 1))))] [(Prod.mk 500 (AObj.sym (l3) false 2)), (Prod.mk 1000 (AObj.cells [(vI x4), (vI x5), (vI x6), (vI x7)] 58 false 1)), (Prod.mk 1001 (AObj.sym [(vI (1 : Int))] true 1))]))))))))))))
 False)
 False)))
 False)
 False)
 (bcase (decide (0 ≤ x2))
 (bcase (decide (x2 < (↑n0 : Int)))
 (∃ n1 : Int,
 ((At (l3) (0 + Int.toNat x2 * 2) 1 [(vI n1)]) ∧
 (bcase (decide (0 ≤ x2))
 (bcase (decide (x2 < (↑n0 : Int)))
 (∃ n2 : Int,
 ((At (l3) (Go.Addr.off { block := 500, off := 0 + Int.toNat x2 * 2 } + 1) 1 [(vI n2)]) ∧
 (((∃ n3 : Int,
 ((At (l3) (Go.Addr.off { block := 500, off := 0 + Int.toNat x2 * 2 } + 1) 1 [(vI n3)]) ∧
 ((vI n3) = (vI n2)))) ∧
 (((Go.Value.pointer (Option.some (Go.Addr.mk 500 (Go.Addr.off { block := 500, off := 0 + Int.toNat x2 * 2 } + 1) Option.none))) = (Go.Value.pointer (Option.some (Go.Addr.mk 500 (Go.Addr.off { block := 500, off := 0 + Int.toNat x2 * 2 } + 1) Option.none)))) ∧
 ((bcase (decide (0 ≤ x2))
 (bcase (decide (x2 < (↑n0 : Int)))
 ((Go.Value.pointer (Option.some (Go.Addr.mk 500 (0 + Int.toNat x2 * 2) Option.none))) = (Go.Value.pointer (Option.some (Go.Addr.mk 500 (0 + Int.toNat x2 * 2) Option.none))))
 False)
 False) ∧
 (((vI x2) = (vI x2)) ∧
 (((Go.Value.slice (Option.some (Go.Addr.mk 500 0 Option.none)) (n0) (c1)) = (Go.Value.slice (Option.some (Go.Addr.mk 500 0 Option.none)) (n0) (c1))) ∧
 (((vI (IntKind.wrap .i64 (n1 * 1000000))) = (vI (IntKind.wrap .i64 (n1 * 1000000)))) ∧
 ((∃ n3 : Int,
 ((At (l3) (0 + Int.toNat x2 * 2) 1 [(vI n3)]) ∧
 ((vI n3) = (vI n1)))) ∧
 (((Go.Value.pointer (Option.some (Go.Addr.mk 500 (0 + Int.toNat x2 * 2) Option.none))) = (Go.Value.pointer (Option.some (Go.Addr.mk 500 (0 + Int.toNat x2 * 2) Option.none)))) ∧
 ((bcase (decide (0 ≤ x2))
 (bcase (decide (x2 < (↑n0 : Int)))
 ((Go.Value.pointer (Option.some (Go.Addr.mk 500 (0 + Int.toNat x2 * 2) Option.none))) = (Go.Value.pointer (Option.some (Go.Addr.mk 500 (0 + Int.toNat x2 * 2) Option.none))))
 False)
 False) ∧
 (((vI x2) = (vI x2)) ∧
 (((Go.Value.slice (Option.some (Go.Addr.mk 500 0 Option.none)) (n0) (c1)) = (Go.Value.slice (Option.some (Go.Addr.mk 500 0 Option.none)) (n0) (c1))) ∧
 True))))))))))) ∧
 (((∃ n3 : Int,
 ((At (l3) (Go.Addr.off { block := 500, off := 0 + Int.toNat x2 * 2 } + 1) 1 [(vI n3)]) ∧
 ((vI n3) = (vI n2)))) ∧
 (((Go.Value.pointer (Option.some (Go.Addr.mk 500 (Go.Addr.off { block := 500, off := 0 + Int.toNat x2 * 2 } + 1) Option.none))) = (Go.Value.pointer (Option.some (Go.Addr.mk 500 (Go.Addr.off { block := 500, off := 0 + Int.toNat x2 * 2 } + 1) Option.none)))) ∧
 ((bcase (decide (0 ≤ x2))
 (bcase (decide (x2 < (↑n0 : Int)))
 ((Go.Value.pointer (Option.some (Go.Addr.mk 500 (0 + Int.toNat x2 * 2) Option.none))) = (Go.Value.pointer (Option.some (Go.Addr.mk 500 (0 + Int.toNat x2 * 2) Option.none))))
 False)
 False) ∧
 (((vI x2) = (vI x2)) ∧
 (((Go.Value.slice (Option.some (Go.Addr.mk 500 0 Option.none)) (n0) (c1)) = (Go.Value.slice (Option.some (Go.Addr.mk 500 0 Option.none)) (n0) (c1))) ∧
 True))))) ∧
 (True ∧
 (∃ n3 : Int,
 ((Says C 87 [(D.val (vI (IntKind.wrap .i64 (n1 * 1000000)))), (D.val (vI n2)), (D.val (vI x7)), (D.val (vI (1 : Int)))] [(D.val (vI n3))]) ∧
 (bcase (decide (n3 > 0))
 (B [(Prod.mk 1 (Go.Value.slice (Option.some (Go.Addr.mk 500 0 Option.none)) (n0) (c1))), (Prod.mk 2 (Go.Value.pointer (Option.some (Go.Addr.mk 1000 0 Option.none)))), (Prod.mk 5 (Go.Value.slice (Option.some (Go.Addr.mk 1001 0 Option.none)) 1 1)), (Prod.mk 6 (vI (IntKind.wrap .i64 (x2 + 1))))] [(Prod.mk 500 (AObj.sym (l3) false 2)), (Prod.mk 1000 (AObj.cells [(vI x4), (vI x5), (vI x6), (vI x7)] 58 false 1)), (Prod.mk 1001 (AObj.sym [(vI (2 : Int))] true 1))])
 (∃ n4 : Int,
 ((Says C 87 [(D.val (vI (IntKind.wrap .i64 (n1 * 1000000)))), (D.val (vI n2)), (D.val (vI x6)), (D.val (vI (1 : Int)))] [(D.val (vI n4))]) ∧
 (bcase (decide (n4 ≤ 0))
 (B [(Prod.mk 1 (Go.Value.slice (Option.some (Go.Addr.mk 500 0 Option.none)) (n0) (c1))), (Prod.mk 2 (Go.Value.pointer (Option.some (Go.Addr.mk 1000 0 Option.none)))), (Prod.mk 5 (Go.Value.slice (Option.some (Go.Addr.mk 1001 0 Option.none)) 1 1)), (Prod.mk 6 (vI (IntKind.wrap .i64 (x2 + 1))))] [(Prod.mk 500 (AObj.sym (l3) false 2)), (Prod.mk 1000 (AObj.cells [(vI x4), (vI x5), (vI x6), (vI x7)] 58 false 1)), (Prod.mk 1001 (AObj.sym [(vI (0 : Int))] true 1))])
 (B [(Prod.mk 1 (Go.Value.slice (Option.some (Go.Addr.mk 500 0 Option.none)) (n0) (c1))), (Prod.mk 2 (Go.Value.pointer (Option.some (Go.Addr.mk 1000 0 Option.none)))), (Prod.mk 5 (Go.Value.slice (Option.some (Go.Addr.mk 1001 0 Option.none)) 1 1)), (Prod.mk 6 (vI (IntKind.wrap .i64 (x2 + 1))))] [(Prod.mk 500 (AObj.sym (l3) false 2)), (Prod.mk 1000 (AObj.cells [(vI x4), (vI x5), (vI x6), (vI x7)] 58 false 1)), (Prod.mk 1001 (AObj.sym [(vI (1 : Int))] true 1))]))))))))))))
 False)
 False)))
 False)
 False)))
 (X 0 [(Prod.mk 5 (Go.Value.slice Option.none 0 0))] [])) := by kernel_rfl
abbrev zRB2 (n0 : Nat) (c1 : Nat) (n2 : Nat) (x3 : Int) (l4 : List Value) (x5 : Int) (x6 : Int) (x7 : Int) (x8 : Int) (l9 : List Value) : Slots × Blocks := ([(1, (Value.slice (some ⟨500, 0, none⟩) n0 c1)), (2, (Value.pointer (some ⟨1000, 0, none⟩))), (5, (Value.slice (some ⟨1001, 0, none⟩) n2 n2)), (6, (Value.int .i64 x3))], [(500, (AObj.sym l4 false 2)), (1000, (AObj.cells [(Value.int .i64 x5), (Value.int .i64 x6), (Value.int .i64 x7), (Value.int .i64 x8)] 58 false 1)), (1001, (AObj.sym l9 true 1))])
def rRB2 (C : Ct) (L : AtLoop) (n0 : Nat) (c1 : Nat) (n2 : Nat) (x3 : Int) (l4 : List Value) (x5 : Int) (x6 : Int) (x7 : Int) (x8 : Int) (l9 : List Value) (B : Bx) (X : Xx) (k : List D → Prop) : Prop := wpRound Try.prog (hU C) L 37 0 [(1, (Value.slice (some ⟨500, 0, none⟩) n0 c1)), (2, (Value.pointer (some ⟨1000, 0, none⟩))), (5, (Value.slice (some ⟨1001, 0, none⟩) n2 n2)), (6, (Value.int .i64 x3))] [(500, (AObj.sym l4 false 2)), (1000, (AObj.cells [(Value.int .i64 x5), (Value.int .i64 x6), (Value.int .i64 x7), (Value.int .i64 x8)] 58 false 1)), (1001, (AObj.sym l9 true 1))] B X (dataK k)
theorem rRB2_text (C : Ct) (L : AtLoop) (n0 : Nat) (c1 : Nat) (n2 : Nat) (x3 : Int) (l4 : List Go.Value) (x5 : Int) (x6 : Int) (x7 : Int) (x8 : Int) (l9 : List Go.Value) (B : Bx) (X : Xx) (k : List D → Prop) : rRB2 C L n0 c1 n2 x3 l4 x5 x6 x7 x8 l9 B X k =
 (bcase (decide (x3 < (↑n0 : Int)))
 (bcase (x3 == 0)
 (bcase (decide (0 ≤ x3))
 (bcase (decide (x3 < (↑n0 : Int)))
 (∃ n1 : Int,
 ((At (l4) (0 + Int.toNat x3 * 2) 1 [(vI n1)]) ∧
 (bcase (decide (0 ≤ x3))
 (bcase (decide (x3 < (↑n0 : Int)))
 (∃ n3 : Int,
 ((At (l4) (Go.Addr.off { block := 500, off := 0 + Int.toNat x3 * 2 } + 1) 1 [(vI n3)]) ∧
 (((∃ n4 : Int,
 ((At (l4) (Go.Addr.off { block := 500, off := 0 + Int.toNat x3 * 2 } + 1) 1 [(vI n4)]) ∧
 ((vI n4) = (vI n3)))) ∧
 (((Go.Value.pointer (Option.some (Go.Addr.mk 500 (Go.Addr.off { block := 500, off := 0 + Int.toNat x3 * 2 } + 1) Option.none))) = (Go.Value.pointer (Option.some (Go.Addr.mk 500 (Go.Addr.off { block := 500, off := 0 + Int.toNat x3 * 2 } + 1) Option.none)))) ∧
 ((bcase (decide (0 ≤ x3))
 (bcase (decide (x3 < (↑n0 : Int)))
 ((Go.Value.pointer (Option.some (Go.Addr.mk 500 (0 + Int.toNat x3 * 2) Option.none))) = (Go.Value.pointer (Option.some (Go.Addr.mk 500 (0 + Int.toNat x3 * 2) Option.none))))
 False)
 False) ∧
 (((vI x3) = (vI x3)) ∧
 (((Go.Value.slice (Option.some (Go.Addr.mk 500 0 Option.none)) (n0) (c1)) = (Go.Value.slice (Option.some (Go.Addr.mk 500 0 Option.none)) (n0) (c1))) ∧
 (((vI (IntKind.wrap .i64 (n1 * 1000000))) = (vI (IntKind.wrap .i64 (n1 * 1000000)))) ∧
 ((∃ n4 : Int,
 ((At (l4) (0 + Int.toNat x3 * 2) 1 [(vI n4)]) ∧
 ((vI n4) = (vI n1)))) ∧
 (((Go.Value.pointer (Option.some (Go.Addr.mk 500 (0 + Int.toNat x3 * 2) Option.none))) = (Go.Value.pointer (Option.some (Go.Addr.mk 500 (0 + Int.toNat x3 * 2) Option.none)))) ∧
 ((bcase (decide (0 ≤ x3))
 (bcase (decide (x3 < (↑n0 : Int)))
 ((Go.Value.pointer (Option.some (Go.Addr.mk 500 (0 + Int.toNat x3 * 2) Option.none))) = (Go.Value.pointer (Option.some (Go.Addr.mk 500 (0 + Int.toNat x3 * 2) Option.none))))
 False)
 False) ∧
 (((vI x3) = (vI x3)) ∧
 (((Go.Value.slice (Option.some (Go.Addr.mk 500 0 Option.none)) (n0) (c1)) = (Go.Value.slice (Option.some (Go.Addr.mk 500 0 Option.none)) (n0) (c1))) ∧
 True))))))))))) ∧
 (((∃ n4 : Int,
 ((At (l4) (Go.Addr.off { block := 500, off := 0 + Int.toNat x3 * 2 } + 1) 1 [(vI n4)]) ∧
 ((vI n4) = (vI n3)))) ∧
 (((Go.Value.pointer (Option.some (Go.Addr.mk 500 (Go.Addr.off { block := 500, off := 0 + Int.toNat x3 * 2 } + 1) Option.none))) = (Go.Value.pointer (Option.some (Go.Addr.mk 500 (Go.Addr.off { block := 500, off := 0 + Int.toNat x3 * 2 } + 1) Option.none)))) ∧
 ((bcase (decide (0 ≤ x3))
 (bcase (decide (x3 < (↑n0 : Int)))
 ((Go.Value.pointer (Option.some (Go.Addr.mk 500 (0 + Int.toNat x3 * 2) Option.none))) = (Go.Value.pointer (Option.some (Go.Addr.mk 500 (0 + Int.toNat x3 * 2) Option.none))))
 False)
 False) ∧
 (((vI x3) = (vI x3)) ∧
 (((Go.Value.slice (Option.some (Go.Addr.mk 500 0 Option.none)) (n0) (c1)) = (Go.Value.slice (Option.some (Go.Addr.mk 500 0 Option.none)) (n0) (c1))) ∧
 True))))) ∧
 (True ∧
 (∃ n4 : Int,
 ((Says C 87 [(D.val (vI (IntKind.wrap .i64 (n1 * 1000000)))), (D.val (vI n3)), (D.val (vI x6)), (D.val (vI (1 : Int)))] [(D.val (vI n4))]) ∧
 (bcase (decide (n4 > 0))
 (bcase (decide (n2 < n2 + 1))
 (bcase (decide ((2 * (n2 + 1) + 768) * 8 ≤ 281474976710656))
 (bcase (decide (n2 + 1 ≤ 1099511627776))
 (bcase (decide (0 + n2 * 1 ≤ List.length l9))
 (bcase (decide (0 + n2 * 1 = List.length l9))
 (B [(Prod.mk 1 (Go.Value.slice (Option.some (Go.Addr.mk 500 0 Option.none)) (n0) (c1))), (Prod.mk 2 (Go.Value.pointer (Option.some (Go.Addr.mk 1000 0 Option.none)))), (Prod.mk 5 (Go.Value.slice (Option.some (Go.Addr.mk 1001 0 Option.none)) (n2 + 1) (n2 + 1))), (Prod.mk 6 (vI (IntKind.wrap .i64 (x3 + 1))))] [(Prod.mk 500 (AObj.sym (l4) false 2)), (Prod.mk 1000 (AObj.cells [(vI x5), (vI x6), (vI x7), (vI x8)] 58 false 1)), (Prod.mk 1001 (AObj.sym ((List.take (n2 * 1) (List.drop 0 l9)) ++ [(vI (2 : Int))]) true 1))])
 False)
 False)
 False)
 False)
 False)
 (∃ n5 : Int,
 ((Says C 87 [(D.val (vI (IntKind.wrap .i64 (n1 * 1000000)))), (D.val (vI n3)), (D.val (vI x5)), (D.val (vI (1 : Int)))] [(D.val (vI n5))]) ∧
 (bcase (decide (n5 ≤ 0))
 (bcase (decide (n2 < n2 + 1))
 (bcase (decide ((2 * (n2 + 1) + 768) * 8 ≤ 281474976710656))
 (bcase (decide (n2 + 1 ≤ 1099511627776))
 (bcase (decide (0 + n2 * 1 ≤ List.length l9))
 (bcase (decide (0 + n2 * 1 = List.length l9))
 (B [(Prod.mk 1 (Go.Value.slice (Option.some (Go.Addr.mk 500 0 Option.none)) (n0) (c1))), (Prod.mk 2 (Go.Value.pointer (Option.some (Go.Addr.mk 1000 0 Option.none)))), (Prod.mk 5 (Go.Value.slice (Option.some (Go.Addr.mk 1001 0 Option.none)) (n2 + 1) (n2 + 1))), (Prod.mk 6 (vI (IntKind.wrap .i64 (x3 + 1))))] [(Prod.mk 500 (AObj.sym (l4) false 2)), (Prod.mk 1000 (AObj.cells [(vI x5), (vI x6), (vI x7), (vI x8)] 58 false 1)), (Prod.mk 1001 (AObj.sym ((List.take (n2 * 1) (List.drop 0 l9)) ++ [(vI (0 : Int))]) true 1))])
 False)
 False)
 False)
 False)
 False)
 (bcase (decide (n2 < n2 + 1))
 (bcase (decide ((2 * (n2 + 1) + 768) * 8 ≤ 281474976710656))
 (bcase (decide (n2 + 1 ≤ 1099511627776))
 (bcase (decide (0 + n2 * 1 ≤ List.length l9))
 (bcase (decide (0 + n2 * 1 = List.length l9))
 (B [(Prod.mk 1 (Go.Value.slice (Option.some (Go.Addr.mk 500 0 Option.none)) (n0) (c1))), (Prod.mk 2 (Go.Value.pointer (Option.some (Go.Addr.mk 1000 0 Option.none)))), (Prod.mk 5 (Go.Value.slice (Option.some (Go.Addr.mk 1001 0 Option.none)) (n2 + 1) (n2 + 1))), (Prod.mk 6 (vI (IntKind.wrap .i64 (x3 + 1))))] [(Prod.mk 500 (AObj.sym (l4) false 2)), (Prod.mk 1000 (AObj.cells [(vI x5), (vI x6), (vI x7), (vI x8)] 58 false 1)), (Prod.mk 1001 (AObj.sym ((List.take (n2 * 1) (List.drop 0 l9)) ++ [(vI (1 : Int))]) true 1))])
 False)
 False)
 False)
 False)
 False))))))))))))
 False)
 False)))
 False)
 False)
 (bcase (x3 == IntKind.wrap .i64 ((↑n0 : Int) - 1))
 (bcase (decide (0 ≤ x3))
 (bcase (decide (x3 < (↑n0 : Int)))
 (∃ n1 : Int,
 ((At (l4) (0 + Int.toNat x3 * 2) 1 [(vI n1)]) ∧
 (bcase (decide (0 ≤ x3))
 (bcase (decide (x3 < (↑n0 : Int)))
 (∃ n3 : Int,
 ((At (l4) (Go.Addr.off { block := 500, off := 0 + Int.toNat x3 * 2 } + 1) 1 [(vI n3)]) ∧
 (((∃ n4 : Int,
 ((At (l4) (Go.Addr.off { block := 500, off := 0 + Int.toNat x3 * 2 } + 1) 1 [(vI n4)]) ∧
 ((vI n4) = (vI n3)))) ∧
 (((Go.Value.pointer (Option.some (Go.Addr.mk 500 (Go.Addr.off { block := 500, off := 0 + Int.toNat x3 * 2 } + 1) Option.none))) = (Go.Value.pointer (Option.some (Go.Addr.mk 500 (Go.Addr.off { block := 500, off := 0 + Int.toNat x3 * 2 } + 1) Option.none)))) ∧
 ((bcase (decide (0 ≤ x3))
 (bcase (decide (x3 < (↑n0 : Int)))
 ((Go.Value.pointer (Option.some (Go.Addr.mk 500 (0 + Int.toNat x3 * 2) Option.none))) = (Go.Value.pointer (Option.some (Go.Addr.mk 500 (0 + Int.toNat x3 * 2) Option.none))))
 False)
 False) ∧
 (((vI x3) = (vI x3)) ∧
 (((Go.Value.slice (Option.some (Go.Addr.mk 500 0 Option.none)) (n0) (c1)) = (Go.Value.slice (Option.some (Go.Addr.mk 500 0 Option.none)) (n0) (c1))) ∧
 (((vI (IntKind.wrap .i64 (n1 * 1000000))) = (vI (IntKind.wrap .i64 (n1 * 1000000)))) ∧
 ((∃ n4 : Int,
 ((At (l4) (0 + Int.toNat x3 * 2) 1 [(vI n4)]) ∧
 ((vI n4) = (vI n1)))) ∧
 (((Go.Value.pointer (Option.some (Go.Addr.mk 500 (0 + Int.toNat x3 * 2) Option.none))) = (Go.Value.pointer (Option.some (Go.Addr.mk 500 (0 + Int.toNat x3 * 2) Option.none)))) ∧
 ((bcase (decide (0 ≤ x3))
 (bcase (decide (x3 < (↑n0 : Int)))
 ((Go.Value.pointer (Option.some (Go.Addr.mk 500 (0 + Int.toNat x3 * 2) Option.none))) = (Go.Value.pointer (Option.some (Go.Addr.mk 500 (0 + Int.toNat x3 * 2) Option.none))))
 False)
 False) ∧
 (((vI x3) = (vI x3)) ∧
 (((Go.Value.slice (Option.some (Go.Addr.mk 500 0 Option.none)) (n0) (c1)) = (Go.Value.slice (Option.some (Go.Addr.mk 500 0 Option.none)) (n0) (c1))) ∧
 True))))))))))) ∧
 (((∃ n4 : Int,
 ((At (l4) (Go.Addr.off { block := 500, off := 0 + Int.toNat x3 * 2 } + 1) 1 [(vI n4)]) ∧
 ((vI n4) = (vI n3)))) ∧
 (((Go.Value.pointer (Option.some (Go.Addr.mk 500 (Go.Addr.off { block := 500, off := 0 + Int.toNat x3 * 2 } + 1) Option.none))) = (Go.Value.pointer (Option.some (Go.Addr.mk 500 (Go.Addr.off { block := 500, off := 0 + Int.toNat x3 * 2 } + 1) Option.none)))) ∧
 ((bcase (decide (0 ≤ x3))
 (bcase (decide (x3 < (↑n0 : Int)))
 ((Go.Value.pointer (Option.some (Go.Addr.mk 500 (0 + Int.toNat x3 * 2) Option.none))) = (Go.Value.pointer (Option.some (Go.Addr.mk 500 (0 + Int.toNat x3 * 2) Option.none))))
 False)
 False) ∧
 (((vI x3) = (vI x3)) ∧
 (((Go.Value.slice (Option.some (Go.Addr.mk 500 0 Option.none)) (n0) (c1)) = (Go.Value.slice (Option.some (Go.Addr.mk 500 0 Option.none)) (n0) (c1))) ∧
 True))))) ∧
 (True ∧
 (∃ n4 : Int,
 ((Says C 87 [(D.val (vI (IntKind.wrap .i64 (n1 * 1000000)))), (D.val (vI n3)), (D.val (vI x6)), (D.val (vI (1 : Int)))] [(D.val (vI n4))]) ∧
 (bcase (decide (n4 > 0))
 (bcase (decide (n2 < n2 + 1))
 (bcase (decide ((2 * (n2 + 1) + 768) * 8 ≤ 281474976710656))
 (bcase (decide (n2 + 1 ≤ 1099511627776))
 (bcase (decide (0 + n2 * 1 ≤ List.length l9))
 (bcase (decide (0 + n2 * 1 = List.length l9))
 (B [(Prod.mk 1 (Go.Value.slice (Option.some (Go.Addr.mk 500 0 Option.none)) (n0) (c1))), (Prod.mk 2 (Go.Value.pointer (Option.some (Go.Addr.mk 1000 0 Option.none)))), (Prod.mk 5 (Go.Value.slice (Option.some (Go.Addr.mk 1001 0 Option.none)) (n2 + 1) (n2 + 1))), (Prod.mk 6 (vI (IntKind.wrap .i64 (x3 + 1))))] [(Prod.mk 500 (AObj.sym (l4) false 2)), (Prod.mk 1000 (AObj.cells [(vI x5), (vI x6), (vI x7), (vI x8)] 58 false 1)), (Prod.mk 1001 (AObj.sym ((List.take (n2 * 1) (List.drop 0 l9)) ++ [(vI (2 : Int))]) true 1))])
 False)
 False)
 False)
 False)
 False)
 (∃ n5 : Int,
 ((Says C 87 [(D.val (vI (IntKind.wrap .i64 (n1 * 1000000)))), (D.val (vI n3)), (D.val (vI x5)), (D.val (vI (1 : Int)))] [(D.val (vI n5))]) ∧
 (bcase (decide (n5 ≤ 0))
 (bcase (decide (n2 < n2 + 1))
 (bcase (decide ((2 * (n2 + 1) + 768) * 8 ≤ 281474976710656))
 (bcase (decide (n2 + 1 ≤ 1099511627776))
 (bcase (decide (0 + n2 * 1 ≤ List.length l9))
 (bcase (decide (0 + n2 * 1 = List.length l9))
 (B [(Prod.mk 1 (Go.Value.slice (Option.some (Go.Addr.mk 500 0 Option.none)) (n0) (c1))), (Prod.mk 2 (Go.Value.pointer (Option.some (Go.Addr.mk 1000 0 Option.none)))), (Prod.mk 5 (Go.Value.slice (Option.some (Go.Addr.mk 1001 0 Option.none)) (n2 + 1) (n2 + 1))), (Prod.mk 6 (vI (IntKind.wrap .i64 (x3 + 1))))] [(Prod.mk 500 (AObj.sym (l4) false 2)), (Prod.mk 1000 (AObj.cells [(vI x5), (vI x6), (vI x7), (vI x8)] 58 false 1)), (Prod.mk 1001 (AObj.sym ((List.take (n2 * 1) (List.drop 0 l9)) ++ [(vI (0 : Int))]) true 1))])
 False)
 False)
 False)
 False)
 False)
 (bcase (decide (n2 < n2 + 1))
 (bcase (decide ((2 * (n2 + 1) + 768) * 8 ≤ 281474976710656))
 (bcase (decide (n2 + 1 ≤ 1099511627776))
 (bcase (decide (0 + n2 * 1 ≤ List.length l9))
 (bcase (decide (0 + n2 * 1 = List.length l9))
 (B [(Prod.mk 1 (Go.Value.slice (Option.some (Go.Addr.mk 500 0 Option.none)) (n0) (c1))), (Prod.mk 2 (Go.Value.pointer (Option.some (Go.Addr.mk 1000 0 Option.none)))), (Prod.mk 5 (Go.Value.slice (Option.some (Go.Addr.mk 1001 0 Option.none)) (n2 + 1) (n2 + 1))), (Prod.mk 6 (vI (IntKind.wrap .i64 (x3 + 1))))] [(Prod.mk 500 (AObj.sym (l4) false 2)), (Prod.mk 1000 (AObj.cells [(vI x5), (vI x6), (vI x7), (vI x8)] 58 false 1)), (Prod.mk 1001 (AObj.sym ((List.take (n2 * 1) (List.drop 0 l9)) ++ [(vI (1 : Int))]) true 1))])
 False)
 False)
 False)
 False)
 False))))))))))))
 False)
 False)))
 False)
 False)
 (bcase (decide (0 ≤ x3))
 (bcase (decide (x3 < (↑n0 : Int)))
 (∃ n1 : Int,
 ((At (l4) (0 + Int.toNat x3 * 2) 1 [(vI n1)]) ∧
 (bcase (decide (0 ≤ x3))
 (bcase (decide (x3 < (↑n0 : Int)))
 (∃ n3 : Int,
 ((At (l4) (Go.Addr.off { block := 500, off := 0 + Int.toNat x3 * 2 } + 1) 1 [(vI n3)]) ∧
 (((∃ n4 : Int,
 ((At (l4) (Go.Addr.off { block := 500, off := 0 + Int.toNat x3 * 2 } + 1) 1 [(vI n4)]) ∧
 ((vI n4) = (vI n3)))) ∧
 (((Go.Value.pointer (Option.some (Go.Addr.mk 500 (Go.Addr.off { block := 500, off := 0 + Int.toNat x3 * 2 } + 1) Option.none))) = (Go.Value.pointer (Option.some (Go.Addr.mk 500 (Go.Addr.off { block := 500, off := 0 + Int.toNat x3 * 2 } + 1) Option.none)))) ∧
 ((bcase (decide (0 ≤ x3))
 (bcase (decide (x3 < (↑n0 : Int)))
 ((Go.Value.pointer (Option.some (Go.Addr.mk 500 (0 + Int.toNat x3 * 2) Option.none))) = (Go.Value.pointer (Option.some (Go.Addr.mk 500 (0 + Int.toNat x3 * 2) Option.none))))
 False)
 False) ∧
 (((vI x3) = (vI x3)) ∧
 (((Go.Value.slice (Option.some (Go.Addr.mk 500 0 Option.none)) (n0) (c1)) = (Go.Value.slice (Option.some (Go.Addr.mk 500 0 Option.none)) (n0) (c1))) ∧
 (((vI (IntKind.wrap .i64 (n1 * 1000000))) = (vI (IntKind.wrap .i64 (n1 * 1000000)))) ∧
 ((∃ n4 : Int,
 ((At (l4) (0 + Int.toNat x3 * 2) 1 [(vI n4)]) ∧
 ((vI n4) = (vI n1)))) ∧
 (((Go.Value.pointer (Option.some (Go.Addr.mk 500 (0 + Int.toNat x3 * 2) Option.none))) = (Go.Value.pointer (Option.some (Go.Addr.mk 500 (0 + Int.toNat x3 * 2) Option.none)))) ∧
 ((bcase (decide (0 ≤ x3))
 (bcase (decide (x3 < (↑n0 : Int)))
 ((Go.Value.pointer (Option.some (Go.Addr.mk 500 (0 + Int.toNat x3 * 2) Option.none))) = (Go.Value.pointer (Option.some (Go.Addr.mk 500 (0 + Int.toNat x3 * 2) Option.none))))
 False)
 False) ∧
 (((vI x3) = (vI x3)) ∧
 (((Go.Value.slice (Option.some (Go.Addr.mk 500 0 Option.none)) (n0) (c1)) = (Go.Value.slice (Option.some (Go.Addr.mk 500 0 Option.none)) (n0) (c1))) ∧
 True))))))))))) ∧
 (((∃ n4 : Int,
 ((At (l4) (Go.Addr.off { block := 500, off := 0 + Int.toNat x3 * 2 } + 1) 1 [(vI n4)]) ∧
 ((vI n4) = (vI n3)))) ∧
 (((Go.Value.pointer (Option.some (Go.Addr.mk 500 (Go.Addr.off { block := 500, off := 0 + Int.toNat x3 * 2 } + 1) Option.none))) = (Go.Value.pointer (Option.some (Go.Addr.mk 500 (Go.Addr.off { block := 500, off := 0 + Int.toNat x3 * 2 } + 1) Option.none)))) ∧
 ((bcase (decide (0 ≤ x3))
 (bcase (decide (x3 < (↑n0 : Int)))
 ((Go.Value.pointer (Option.some (Go.Addr.mk 500 (0 + Int.toNat x3 * 2) Option.none))) = (Go.Value.pointer (Option.some (Go.Addr.mk 500 (0 + Int.toNat x3 * 2) Option.none))))
 False)
 False) ∧
 (((vI x3) = (vI x3)) ∧
 (((Go.Value.slice (Option.some (Go.Addr.mk 500 0 Option.none)) (n0) (c1)) = (Go.Value.slice (Option.some (Go.Addr.mk 500 0 Option.none)) (n0) (c1))) ∧
 True))))) ∧
 (True ∧
 (∃ n4 : Int,
 ((Says C 87 [(D.val (vI (IntKind.wrap .i64 (n1 * 1000000)))), (D.val (vI n3)), (D.val (vI x8)), (D.val (vI (1 : Int)))] [(D.val (vI n4))]) ∧
 (bcase (decide (n4 > 0))
 (bcase (decide (n2 < n2 + 1))
 (bcase (decide ((2 * (n2 + 1) + 768) * 8 ≤ 281474976710656))
 (bcase (decide (n2 + 1 ≤ 1099511627776))
 (bcase (decide (0 + n2 * 1 ≤ List.length l9))
 (bcase (decide (0 + n2 * 1 = List.length l9))
 (B [(Prod.mk 1 (Go.Value.slice (Option.some (Go.Addr.mk 500 0 Option.none)) (n0) (c1))), (Prod.mk 2 (Go.Value.pointer (Option.some (Go.Addr.mk 1000 0 Option.none)))), (Prod.mk 5 (Go.Value.slice (Option.some (Go.Addr.mk 1001 0 Option.none)) (n2 + 1) (n2 + 1))), (Prod.mk 6 (vI (IntKind.wrap .i64 (x3 + 1))))] [(Prod.mk 500 (AObj.sym (l4) false 2)), (Prod.mk 1000 (AObj.cells [(vI x5), (vI x6), (vI x7), (vI x8)] 58 false 1)), (Prod.mk 1001 (AObj.sym ((List.take (n2 * 1) (List.drop 0 l9)) ++ [(vI (2 : Int))]) true 1))])
 False)
 False)
 False)
 False)
 False)
 (∃ n5 : Int,
 ((Says C 87 [(D.val (vI (IntKind.wrap .i64 (n1 * 1000000)))), (D.val (vI n3)), (D.val (vI x7)), (D.val (vI (1 : Int)))] [(D.val (vI n5))]) ∧
 (bcase (decide (n5 ≤ 0))
 (bcase (decide (n2 < n2 + 1))
 (bcase (decide ((2 * (n2 + 1) + 768) * 8 ≤ 281474976710656))
 (bcase (decide (n2 + 1 ≤ 1099511627776))
 (bcase (decide (0 + n2 * 1 ≤ List.length l9))
 (bcase (decide (0 + n2 * 1 = List.length l9))
 (B [(Prod.mk 1 (Go.Value.slice (Option.some (Go.Addr.mk 500 0 Option.none)) (n0) (c1))), (Prod.mk 2 (Go.Value.pointer (Option.some (Go.Addr.mk 1000 0 Option.none)))), (Prod.mk 5 (Go.Value.slice (Option.some (Go.Addr.mk 1001 0 Option.none)) (n2 + 1) (n2 + 1))), (Prod.mk 6 (vI (IntKind.wrap .i64 (x3 + 1))))] [(Prod.mk 500 (AObj.sym (l4) false 2)), (Prod.mk 1000 (AObj.cells [(vI x5), (vI x6), (vI x7), (vI x8)] 58 false 1)), (Prod.mk 1001 (AObj.sym ((List.take (n2 * 1) (List.drop 0 l9)) ++ [(vI (0 : Int))]) true 1))])
 False)
 False)
 False)
 False)
 False)
 (bcase (decide (n2 < n2 + 1))
 (bcase (decide ((2 * (n2 + 1) + 768) * 8 ≤ 281474976710656))
 (bcase (decide (n2 + 1 ≤ 1099511627776))
 (bcase (decide (0 + n2 * 1 ≤ List.length l9))
 (bcase (decide (0 + n2 * 1 = List.length l9))
 (B [(Prod.mk 1 (Go.Value.slice (Option.some (Go.Addr.mk 500 0 Option.none)) (n0) (c1))), (Prod.mk 2 (Go.Value.pointer (Option.some (Go.Addr.mk 1000 0 Option.none)))), (Prod.mk 5 (Go.Value.slice (Option.some (Go.Addr.mk 1001 0 Option.none)) (n2 + 1) (n2 + 1))), (Prod.mk 6 (vI (IntKind.wrap .i64 (x3 + 1))))] [(Prod.mk 500 (AObj.sym (l4) false 2)), (Prod.mk 1000 (AObj.cells [(vI x5), (vI x6), (vI x7), (vI x8)] 58 false 1)), (Prod.mk 1001 (AObj.sym ((List.take (n2 * 1) (List.drop 0 l9)) ++ [(vI (1 : Int))]) true 1))])
 False)
 False)
 False)
 False)
 False))))))))))))
 False)
 False)))
 False)
 False)))
 (X 0 [(Prod.mk 5 (Go.Value.slice (Option.some (Go.Addr.mk 1000 0 Option.none)) (n2) (n2)))] [(Prod.mk 1000 (AObj.sym (l9) true 1))])) := by kernel_rfl
def nRB4 (C : Ct) (L : AtLoop) (n0 : Nat) (l1 : List Value) (k : List D → Prop) : Prop := wpNext Try.prog (hU C) L 37 0 .normal [(5, (Value.slice (some ⟨1000, 0, none⟩) n0 n0))] [(1000, (AObj.sym l1 true 1))] (dataK k)
theorem nRB4_text (C : Ct) (L : AtLoop) (n0 : Nat) (l1 : List Go.Value) (k : List D → Prop) : nRB4 C L n0 l1 k =
 ((((n0) = (n0)) ∧
 ((List.length l1) = (n0 * 1))) ∧
 (k [(D.sl (n0) 1 (l1))])) := by kernel_rfl
def gCF (C : Ct) (L : AtLoop) (n0 : Nat) (c0 : Nat) (l0 : List Value) (k : List D → Prop) : Prop := wpFn Try.prog (hE C) L 0 33 #[.slice (some ⟨500, 0, none⟩) n0 c0] (heapOf [(500, .sym l0 false 2)]) (dataK k)
theorem gCF_text (C : Ct) (L : AtLoop) (n0 : Nat) (c0 : Nat) (l0 : List Go.Value) (k : List D → Prop) : gCF C L n0 c0 l0 k =
 (bcase (decide (0 + n0 * 2 ≤ List.length l0))
 (bcase (n0 == 0)
 (((0 = 0) ∧
 (0 = 0)) ∧
 (k [(D.sl 0 2 [])]))
 (bcase (decide (0 < 0 + n0))
 (bcase (decide ((2 * (0 + n0) + 768) * 16 ≤ 281474976710656))
 (bcase (decide (0 + n0 ≤ 1099511627776))
 ((((0 + n0) = (0 + n0)) ∧
 ((List.length (List.take 0 (List.drop 0 []) ++ List.take (n0 * 2) (List.drop 0 l0))) = ((0 + n0) * 2))) ∧
 (k [(D.sl (0 + n0) 2 ([] ++ (List.take (n0 * 2) (List.drop 0 l0))))]))
 False)
 False)
 False))
 False) := by kernel_rfl
def gCFn (C : Ct) (L : AtLoop) (k : List D → Prop) : Prop := wpFn Try.prog (hE C) L 0 33 #[.slice none 0 0] (heapOf []) (dataK k)
theorem gCFn_text (C : Ct) (L : AtLoop) (k : List D → Prop) : gCFn C L k =
 (((0 = 0) ∧
 (0 = 0)) ∧
 (k [(D.sl 0 2 [])])) := by kernel_rfl
def gEb (C : Ct) (L : AtLoop) (lo : Int) (hi : Int) (n0 : Nat) (c0 : Nat) (l0 : List Value) (K : Value → Blocks → Prop) : Prop := wpFn Try.prog (hE C) L 0 85 #[.slice (some ⟨500, 0, none⟩) n0 c0, .func (.func 128) #[] #[.pointer (some ⟨900, 0, none⟩)]] (heapOf [(500, .sym l0 false 2), (900, .cells [.int .i64 lo, .int .i64 hi] 56 false 1)]) (stateK K)
theorem gEb_text (C : Ct) (L : AtLoop) (lo : Int) (hi : Int) (n0 : Nat) (c0 : Nat) (l0 : List Go.Value) (K : Go.Value → Blocks → Prop) : gEb C L lo hi n0 c0 l0 K =
 (L 0 [(Prod.mk 1 (Go.Value.func (Go.Fn.func 128) [].toArray [(Go.Value.pointer (Option.some (Go.Addr.mk 900 0 Option.none)))].toArray)), (Prod.mk 5 (Go.Value.slice Option.none 0 0)), (Prod.mk 8 (Go.Value.slice (Option.some (Go.Addr.mk 500 0 Option.none)) (n0) (c0))), (Prod.mk 9 (vI ((↑n0 : Int)))), (Prod.mk 10 (vI (0 : Int)))] [(Prod.mk 900 (AObj.cells [(vI lo), (vI hi)] 56 false 1)), (Prod.mk 500 (AObj.sym (l0) false 2))]) := by kernel_rfl
abbrev zEb1 (n0 : Nat) (c1 : Nat) (x2 : Int) (x3 : Int) (x4 : Int) (x5 : Int) (l6 : List Value) : Slots × Blocks := ([(1, (Value.func (.func 128) #[] #[(Value.pointer (some ⟨900, 0, none⟩))])), (5, (Value.slice none 0 0)), (8, (Value.slice (some ⟨500, 0, none⟩) n0 c1)), (9, (Value.int .i64 x2)), (10, (Value.int .i64 x3))], [(900, (AObj.cells [(Value.int .i64 x4), (Value.int .i64 x5)] 56 false 1)), (500, (AObj.sym l6 false 2))])
def rEb1 (C : Ct) (L : AtLoop) (n0 : Nat) (c1 : Nat) (x2 : Int) (x3 : Int) (x4 : Int) (x5 : Int) (l6 : List Value) (B : Bx) (X : Xx) (K : Value → Blocks → Prop) : Prop := wpRound Try.prog (hE C) L 85 0 [(1, (Value.func (.func 128) #[] #[(Value.pointer (some ⟨900, 0, none⟩))])), (5, (Value.slice none 0 0)), (8, (Value.slice (some ⟨500, 0, none⟩) n0 c1)), (9, (Value.int .i64 x2)), (10, (Value.int .i64 x3))] [(900, (AObj.cells [(Value.int .i64 x4), (Value.int .i64 x5)] 56 false 1)), (500, (AObj.sym l6 false 2))] B X (stateK K)
theorem rEb1_text (C : Ct) (L : AtLoop) (n0 : Nat) (c1 : Nat) (x2 : Int) (x3 : Int) (x4 : Int) (x5 : Int) (l6 : List Go.Value) (B : Bx) (X : Xx) (K : Go.Value → Blocks → Prop) : rEb1 C L n0 c1 x2 x3 x4 x5 l6 B X K =
 (bcase (decide (x3 < x2))
 (bcase (decide (0 ≤ x3))
 (bcase (decide (x3 < (↑n0 : Int)))
 (∃ n1 : Int,
 (∃ n2 : Int,
 ((At (l6) (0 + Int.toNat x3 * 2) 2 [(vI n1), (vI n2)]) ∧
 (bcase (decide (IntKind.wrap .i64 (1000000 * n1) > IntKind.wrap .i64 (x5 * n2)))
 (B [(Prod.mk 1 (Go.Value.func (Go.Fn.func 128) [].toArray [(Go.Value.pointer (Option.some (Go.Addr.mk 900 0 Option.none)))].toArray)), (Prod.mk 5 (Go.Value.slice (Option.some (Go.Addr.mk 1000 0 Option.none)) 1 1)), (Prod.mk 8 (Go.Value.slice (Option.some (Go.Addr.mk 500 0 Option.none)) (n0) (c1))), (Prod.mk 9 (vI x2)), (Prod.mk 10 (vI (IntKind.wrap .i64 (x3 + 1))))] [(Prod.mk 900 (AObj.cells [(vI x4), (vI x5)] 56 false 1)), (Prod.mk 1000 (AObj.sym [(vI (2 : Int))] true 1)), (Prod.mk 500 (AObj.sym (l6) false 2))])
 (bcase (decide (IntKind.wrap .i64 (1000000 * n1) ≤ IntKind.wrap .i64 (x4 * n2)))
 (B [(Prod.mk 1 (Go.Value.func (Go.Fn.func 128) [].toArray [(Go.Value.pointer (Option.some (Go.Addr.mk 900 0 Option.none)))].toArray)), (Prod.mk 5 (Go.Value.slice (Option.some (Go.Addr.mk 1000 0 Option.none)) 1 1)), (Prod.mk 8 (Go.Value.slice (Option.some (Go.Addr.mk 500 0 Option.none)) (n0) (c1))), (Prod.mk 9 (vI x2)), (Prod.mk 10 (vI (IntKind.wrap .i64 (x3 + 1))))] [(Prod.mk 900 (AObj.cells [(vI x4), (vI x5)] 56 false 1)), (Prod.mk 1000 (AObj.sym [(vI (0 : Int))] true 1)), (Prod.mk 500 (AObj.sym (l6) false 2))])
 (B [(Prod.mk 1 (Go.Value.func (Go.Fn.func 128) [].toArray [(Go.Value.pointer (Option.some (Go.Addr.mk 900 0 Option.none)))].toArray)), (Prod.mk 5 (Go.Value.slice (Option.some (Go.Addr.mk 1000 0 Option.none)) 1 1)), (Prod.mk 8 (Go.Value.slice (Option.some (Go.Addr.mk 500 0 Option.none)) (n0) (c1))), (Prod.mk 9 (vI x2)), (Prod.mk 10 (vI (IntKind.wrap .i64 (x3 + 1))))] [(Prod.mk 900 (AObj.cells [(vI x4), (vI x5)] 56 false 1)), (Prod.mk 1000 (AObj.sym [(vI (1 : Int))] true 1)), (Prod.mk 500 (AObj.sym (l6) false 2))]))))))
 False)
 False)
 (X 0 [(Prod.mk 5 (Go.Value.slice Option.none 0 0))] [(Prod.mk 900 (AObj.cells [(vI x4), (vI x5)] 56 false 1))])) := by kernel_rfl
abbrev zEb2 (n0 : Nat) (n1 : Nat) (c2 : Nat) (x3 : Int) (x4 : Int) (x5 : Int) (x6 : Int) (l7 : List Value) (l8 : List Value) : Slots × Blocks := ([(1, (Value.func (.func 128) #[] #[(Value.pointer (some ⟨900, 0, none⟩))])), (5, (Value.slice (some ⟨1000, 0, none⟩) n0 n0)), (8, (Value.slice (some ⟨500, 0, none⟩) n1 c2)), (9, (Value.int .i64 x3)), (10, (Value.int .i64 x4))], [(900, (AObj.cells [(Value.int .i64 x5), (Value.int .i64 x6)] 56 false 1)), (1000, (AObj.sym l7 true 1)), (500, (AObj.sym l8 false 2))])
def rEb2 (C : Ct) (L : AtLoop) (n0 : Nat) (n1 : Nat) (c2 : Nat) (x3 : Int) (x4 : Int) (x5 : Int) (x6 : Int) (l7 : List Value) (l8 : List Value) (B : Bx) (X : Xx) (K : Value → Blocks → Prop) : Prop := wpRound Try.prog (hE C) L 85 0 [(1, (Value.func (.func 128) #[] #[(Value.pointer (some ⟨900, 0, none⟩))])), (5, (Value.slice (some ⟨1000, 0, none⟩) n0 n0)), (8, (Value.slice (some ⟨500, 0, none⟩) n1 c2)), (9, (Value.int .i64 x3)), (10, (Value.int .i64 x4))] [(900, (AObj.cells [(Value.int .i64 x5), (Value.int .i64 x6)] 56 false 1)), (1000, (AObj.sym l7 true 1)), (500, (AObj.sym l8 false 2))] B X (stateK K)
theorem rEb2_text (C : Ct) (L : AtLoop) (n0 : Nat) (n1 : Nat) (c2 : Nat) (x3 : Int) (x4 : Int) (x5 : Int) (x6 : Int) (l7 : List Go.Value) (l8 : List Go.Value) (B : Bx) (X : Xx) (K : Go.Value → Blocks → Prop) : rEb2 C L n0 n1 c2 x3 x4 x5 x6 l7 l8 B X K =
 (bcase (decide (x4 < x3))
 (bcase (decide (0 ≤ x4))
 (bcase (decide (x4 < (↑n1 : Int)))
 (∃ n2 : Int,
 (∃ n3 : Int,
 ((At (l8) (0 + Int.toNat x4 * 2) 2 [(vI n2), (vI n3)]) ∧
 (bcase (decide (IntKind.wrap .i64 (1000000 * n2) > IntKind.wrap .i64 (x6 * n3)))
 (bcase (decide (n0 < n0 + 1))
 (bcase (decide ((2 * (n0 + 1) + 768) * 8 ≤ 281474976710656))
 (bcase (decide (n0 + 1 ≤ 1099511627776))
 (bcase (decide (0 + n0 * 1 ≤ List.length l7))
 (bcase (decide (0 + n0 * 1 = List.length l7))
 (B [(Prod.mk 1 (Go.Value.func (Go.Fn.func 128) [].toArray [(Go.Value.pointer (Option.some (Go.Addr.mk 900 0 Option.none)))].toArray)), (Prod.mk 5 (Go.Value.slice (Option.some (Go.Addr.mk 1000 0 Option.none)) (n0 + 1) (n0 + 1))), (Prod.mk 8 (Go.Value.slice (Option.some (Go.Addr.mk 500 0 Option.none)) (n1) (c2))), (Prod.mk 9 (vI x3)), (Prod.mk 10 (vI (IntKind.wrap .i64 (x4 + 1))))] [(Prod.mk 900 (AObj.cells [(vI x5), (vI x6)] 56 false 1)), (Prod.mk 1000 (AObj.sym ((List.take (n0 * 1) (List.drop 0 l7)) ++ [(vI (2 : Int))]) true 1)), (Prod.mk 500 (AObj.sym (l8) false 2))])
 False)
 False)
 False)
 False)
 False)
 (bcase (decide (IntKind.wrap .i64 (1000000 * n2) ≤ IntKind.wrap .i64 (x5 * n3)))
 (bcase (decide (n0 < n0 + 1))
 (bcase (decide ((2 * (n0 + 1) + 768) * 8 ≤ 281474976710656))
 (bcase (decide (n0 + 1 ≤ 1099511627776))
 (bcase (decide (0 + n0 * 1 ≤ List.length l7))
 (bcase (decide (0 + n0 * 1 = List.length l7))
 (B [(Prod.mk 1 (Go.Value.func (Go.Fn.func 128) [].toArray [(Go.Value.pointer (Option.some (Go.Addr.mk 900 0 Option.none)))].toArray)), (Prod.mk 5 (Go.Value.slice (Option.some (Go.Addr.mk 1000 0 Option.none)) (n0 + 1) (n0 + 1))), (Prod.mk 8 (Go.Value.slice (Option.some (Go.Addr.mk 500 0 Option.none)) (n1) (c2))), (Prod.mk 9 (vI x3)), (Prod.mk 10 (vI (IntKind.wrap .i64 (x4 + 1))))] [(Prod.mk 900 (AObj.cells [(vI x5), (vI x6)] 56 false 1)), (Prod.mk 1000 (AObj.sym ((List.take (n0 * 1) (List.drop 0 l7)) ++ [(vI (0 : Int))]) true 1)), (Prod.mk 500 (AObj.sym (l8) false 2))])
 False)
 False)
 False)
 False)
 False)
 (bcase (decide (n0 < n0 + 1))
 (bcase (decide ((2 * (n0 + 1) + 768) * 8 ≤ 281474976710656))
 (bcase (decide (n0 + 1 ≤ 1099511627776))
 (bcase (decide (0 + n0 * 1 ≤ List.length l7))
 (bcase (decide (0 + n0 * 1 = List.length l7))
 (B [(Prod.mk 1 (Go.Value.func (Go.Fn.func 128) [].toArray [(Go.Value.pointer (Option.some (Go.Addr.mk 900 0 Option.none)))].toArray)), (Prod.mk 5 (Go.Value.slice (Option.some (Go.Addr.mk 1000 0 Option.none)) (n0 + 1) (n0 + 1))), (Prod.mk 8 (Go.Value.slice (Option.some (Go.Addr.mk 500 0 Option.none)) (n1) (c2))), (Prod.mk 9 (vI x3)), (Prod.mk 10 (vI (IntKind.wrap .i64 (x4 + 1))))] [(Prod.mk 900 (AObj.cells [(vI x5), (vI x6)] 56 false 1)), (Prod.mk 1000 (AObj.sym ((List.take (n0 * 1) (List.drop 0 l7)) ++ [(vI (1 : Int))]) true 1)), (Prod.mk 500 (AObj.sym (l8) false 2))])
 False)
 False)
 False)
 False)
 False))))))
 False)
 False)
 (X 0 [(Prod.mk 5 (Go.Value.slice (Option.some (Go.Addr.mk 1000 0 Option.none)) (n0) (n0)))] [(Prod.mk 1000 (AObj.sym (l7) true 1)), (Prod.mk 900 (AObj.cells [(vI x5), (vI x6)] 56 false 1))])) := by kernel_rfl
def nEb4 (C : Ct) (L : AtLoop) (n0 : Nat) (l1 : List Value) (x2 : Int) (x3 : Int) (K : Value → Blocks → Prop) : Prop := wpNext Try.prog (hE C) L 85 0 .normal [(5, (Value.slice (some ⟨1000, 0, none⟩) n0 n0))] [(1000, (AObj.sym l1 true 1)), (900, (AObj.cells [(Value.int .i64 x2), (Value.int .i64 x3)] 56 false 1))] (stateK K)
theorem nEb4_text (C : Ct) (L : AtLoop) (n0 : Nat) (l1 : List Go.Value) (x2 : Int) (x3 : Int) (K : Go.Value → Blocks → Prop) : nEb4 C L n0 l1 x2 x3 K =
 (K (Go.Value.slice (Option.some (Go.Addr.mk 1000 0 Option.none)) (n0) (n0)) [(Prod.mk 1000 (AObj.sym (l1) true 1)), (Prod.mk 900 (AObj.cells [(vI x2), (vI x3)] 56 false 1))]) := by kernel_rfl
def gFp (C : Ct) (L : AtLoop) (bf : Int) (n0 : Nat) (c0 : Nat) (l0 : List Value) (K : Value → Blocks → Prop) : Prop := wpFn Try.prog (hF7 C) L 0 97 #[.slice (some ⟨500, 0, none⟩) n0 c0, .func (.func 98) #[] #[.pointer (some ⟨900, 0, none⟩)]] (heapOf [(500, .sym l0 false 2), (900, .cells [.int .i64 bf] 3 false 1)]) (stateK K)
theorem gFp_text (C : Ct) (L : AtLoop) (bf : Int) (n0 : Nat) (c0 : Nat) (l0 : List Go.Value) (K : Go.Value → Blocks → Prop) : gFp C L bf n0 c0 l0 K =
 (L 0 [(Prod.mk 1 (Go.Value.func (Go.Fn.func 98) [].toArray [(Go.Value.pointer (Option.some (Go.Addr.mk 900 0 Option.none)))].toArray)), (Prod.mk 9 (Go.Value.slice (Option.some (Go.Addr.mk 500 0 Option.none)) (n0) (c0))), (Prod.mk 10 (vI ((↑n0 : Int)))), (Prod.mk 11 (vI (0 : Int)))] [(Prod.mk 900 (AObj.cells [(vI bf)] 3 false 1)), (Prod.mk 500 (AObj.sym (l0) false 2))]) := by kernel_rfl
abbrev zFp1 (n0 : Nat) (c1 : Nat) (x2 : Int) (x3 : Int) (x4 : Int) (l5 : List Value) : Slots × Blocks := ([(1, (Value.func (.func 98) #[] #[(Value.pointer (some ⟨900, 0, none⟩))])), (9, (Value.slice (some ⟨500, 0, none⟩) n0 c1)), (10, (Value.int .i64 x2)), (11, (Value.int .i64 x3))], [(900, (AObj.cells [(Value.int .i64 x4)] 3 false 1)), (500, (AObj.sym l5 false 2))])
def rFp1 (C : Ct) (L : AtLoop) (n0 : Nat) (c1 : Nat) (x2 : Int) (x3 : Int) (x4 : Int) (l5 : List Value) (B : Bx) (X : Xx) (K : Value → Blocks → Prop) : Prop := wpRound Try.prog (hF7 C) L 97 0 [(1, (Value.func (.func 98) #[] #[(Value.pointer (some ⟨900, 0, none⟩))])), (9, (Value.slice (some ⟨500, 0, none⟩) n0 c1)), (10, (Value.int .i64 x2)), (11, (Value.int .i64 x3))] [(900, (AObj.cells [(Value.int .i64 x4)] 3 false 1)), (500, (AObj.sym l5 false 2))] B X (stateK K)
theorem rFp1_text (C : Ct) (L : AtLoop) (n0 : Nat) (c1 : Nat) (x2 : Int) (x3 : Int) (x4 : Int) (l5 : List Go.Value) (B : Bx) (X : Xx) (K : Go.Value → Blocks → Prop) : rFp1 C L n0 c1 x2 x3 x4 l5 B X K =
 (bcase (decide (x3 < x2))
 (bcase (decide (0 ≤ x3))
 (bcase (decide (x3 < (↑n0 : Int)))
 (∃ n1 : Int,
 (∃ n2 : Int,
 ((At (l5) (0 + Int.toNat x3 * 2) 2 [(vI n1), (vI n2)]) ∧
 (((((Go.Value.slice (Option.some (Go.Addr.mk 1003 0 Option.none)) 1 1) = (Go.Value.slice (Option.some (Go.Addr.mk 1003 0 Option.none)) 1 1)) ∧
 ((Option.some (AObj.cells [(vI n2)] 3 false 1)) = (Option.some (AObj.cells [(vI n2)] 3 false 1)))) ∧
 (((vI n2) = (vI n2)) ∧
 (((Go.Value.pointer (Option.some (Go.Addr.mk 1001 1 Option.none))) = (Go.Value.pointer (Option.some (Go.Addr.mk 1001 1 Option.none)))) ∧
 ((((Go.Value.slice (Option.some (Go.Addr.mk 1002 0 Option.none)) 1 1) = (Go.Value.slice (Option.some (Go.Addr.mk 1002 0 Option.none)) 1 1)) ∧
 ((Option.some (AObj.cells [(vI n1)] 3 false 1)) = (Option.some (AObj.cells [(vI n1)] 3 false 1)))) ∧
 (((vI n1) = (vI n1)) ∧
 (((Go.Value.pointer (Option.some (Go.Addr.mk 1001 0 Option.none))) = (Go.Value.pointer (Option.some (Go.Addr.mk 1001 0 Option.none)))) ∧
 True)))))) ∧
 (((((Go.Value.slice (Option.some (Go.Addr.mk 1003 0 Option.none)) 1 1) = (Go.Value.slice (Option.some (Go.Addr.mk 1003 0 Option.none)) 1 1)) ∧
 ((Option.some (AObj.cells [(vI n2)] 3 false 1)) = (Option.some (AObj.cells [(vI n2)] 3 false 1)))) ∧
 (((vI n2) = (vI n2)) ∧
 (((Go.Value.pointer (Option.some (Go.Addr.mk 1001 1 Option.none))) = (Go.Value.pointer (Option.some (Go.Addr.mk 1001 1 Option.none)))) ∧
 ((((Go.Value.slice (Option.some (Go.Addr.mk 1002 0 Option.none)) 1 1) = (Go.Value.slice (Option.some (Go.Addr.mk 1002 0 Option.none)) 1 1)) ∧
 ((Option.some (AObj.cells [(vI n1)] 3 false 1)) = (Option.some (AObj.cells [(vI n1)] 3 false 1)))) ∧
 (((vI n1) = (vI n1)) ∧
 (((Go.Value.pointer (Option.some (Go.Addr.mk 1001 0 Option.none))) = (Go.Value.pointer (Option.some (Go.Addr.mk 1001 0 Option.none)))) ∧
 True)))))) ∧
 (∃ r1 : Int,
 ((Says witC 0 [(D.val (vI (0 : Int))), (D.val (vI (10000 : Int))), (D.val (vI (2 : Int))), (D.sl 1 1 [(vI n1)])] [(D.val (vI r1))]) ∧
 (((((Go.Value.slice (Option.some (Go.Addr.mk 1003 0 Option.none)) 1 1) = (Go.Value.slice (Option.some (Go.Addr.mk 1003 0 Option.none)) 1 1)) ∧
 ((Option.some (AObj.cells [(vI n2)] 3 false 1)) = (Option.some (AObj.cells [(vI n2)] 3 false 1)))) ∧
 (((vI n2) = (vI n2)) ∧
 (((Go.Value.pointer (Option.some (Go.Addr.mk 1001 1 Option.none))) = (Go.Value.pointer (Option.some (Go.Addr.mk 1001 1 Option.none)))) ∧
 (((vI n1) = (vI n1)) ∧
 (((Go.Value.pointer (Option.some (Go.Addr.mk 1001 0 Option.none))) = (Go.Value.pointer (Option.some (Go.Addr.mk 1001 0 Option.none)))) ∧
 True))))) ∧
 (((((Go.Value.slice (Option.some (Go.Addr.mk 1003 0 Option.none)) 1 1) = (Go.Value.slice (Option.some (Go.Addr.mk 1003 0 Option.none)) 1 1)) ∧
 ((Option.some (AObj.cells [(vI n2)] 3 false 1)) = (Option.some (AObj.cells [(vI n2)] 3 false 1)))) ∧
 (((vI n2) = (vI n2)) ∧
 (((Go.Value.pointer (Option.some (Go.Addr.mk 1001 1 Option.none))) = (Go.Value.pointer (Option.some (Go.Addr.mk 1001 1 Option.none)))) ∧
 (((vI n1) = (vI n1)) ∧
 (((Go.Value.pointer (Option.some (Go.Addr.mk 1001 0 Option.none))) = (Go.Value.pointer (Option.some (Go.Addr.mk 1001 0 Option.none)))) ∧
 True))))) ∧
 (∃ r2 : Int,
 ((Says witC 0 [(D.val (vI (-(99999 + 1) : Int))), (D.val (vI (100000 : Int))), (D.val (vI (2 : Int))), (D.sl 1 1 [(vI n2)])] [(D.val (vI r2))]) ∧
 (((((Go.Value.slice (Option.some (Go.Addr.mk 1008 0 Option.none)) 2 2) = (Go.Value.slice (Option.some (Go.Addr.mk 1008 0 Option.none)) 2 2)) ∧
 ((Option.some (AObj.cells [(vI r1), (vI r2)] 27 false 1)) = (Option.some (AObj.cells [(vI r1), (vI r2)] 27 false 1)))) ∧
 (((vI n2) = (vI n2)) ∧
 (((Go.Value.pointer (Option.some (Go.Addr.mk 1001 1 Option.none))) = (Go.Value.pointer (Option.some (Go.Addr.mk 1001 1 Option.none)))) ∧
 (((vI n1) = (vI n1)) ∧
 (((Go.Value.pointer (Option.some (Go.Addr.mk 1001 0 Option.none))) = (Go.Value.pointer (Option.some (Go.Addr.mk 1001 0 Option.none)))) ∧
 True))))) ∧
 (∃ n3 : Int,
 ((Says C 67 [(D.sl 2 1 [(vI r1), (vI r2)])] [(D.val (vI n3))]) ∧
 ((((vI n2) = (vI n2)) ∧
 (((Go.Value.pointer (Option.some (Go.Addr.mk 1001 1 Option.none))) = (Go.Value.pointer (Option.some (Go.Addr.mk 1001 1 Option.none)))) ∧
 (((vI n1) = (vI n1)) ∧
 (((Go.Value.pointer (Option.some (Go.Addr.mk 1001 0 Option.none))) = (Go.Value.pointer (Option.some (Go.Addr.mk 1001 0 Option.none)))) ∧
 True)))) ∧
 (True ∧
 (bcase (n3 == 0)
 (bcase (decide (n1 ≤ x4))
 (K (Go.Value.tuple [(vI x3), (vI (9 : Int))].toArray) [(Prod.mk 900 (AObj.cells [(vI x4)] 3 false 1))])
 (bcase (n3 != 0)
 (K (Go.Value.tuple [(vI x3), (vI n3)].toArray) [(Prod.mk 900 (AObj.cells [(vI n1)] 3 false 1))])
 (B [(Prod.mk 1 (Go.Value.func (Go.Fn.func 98) [].toArray [(Go.Value.pointer (Option.some (Go.Addr.mk 900 0 Option.none)))].toArray)), (Prod.mk 9 (Go.Value.slice (Option.some (Go.Addr.mk 500 0 Option.none)) (n0) (c1))), (Prod.mk 10 (vI x2)), (Prod.mk 11 (vI (IntKind.wrap .i64 (x3 + 1))))] [(Prod.mk 900 (AObj.cells [(vI n1)] 3 false 1)), (Prod.mk 500 (AObj.sym (l5) false 2))])))
 (bcase (n3 != 0)
 (K (Go.Value.tuple [(vI x3), (vI n3)].toArray) [(Prod.mk 900 (AObj.cells [(vI n1)] 3 false 1))])
 (B [(Prod.mk 1 (Go.Value.func (Go.Fn.func 98) [].toArray [(Go.Value.pointer (Option.some (Go.Addr.mk 900 0 Option.none)))].toArray)), (Prod.mk 9 (Go.Value.slice (Option.some (Go.Addr.mk 500 0 Option.none)) (n0) (c1))), (Prod.mk 10 (vI x2)), (Prod.mk 11 (vI (IntKind.wrap .i64 (x3 + 1))))] [(Prod.mk 900 (AObj.cells [(vI n1)] 3 false 1)), (Prod.mk 500 (AObj.sym (l5) false 2))])))))))))))))))))))
 False)
 False)
 (X 0 [] [(Prod.mk 900 (AObj.cells [(vI x4)] 3 false 1))])) := by kernel_rfl
def nFp2 (C : Ct) (L : AtLoop) (x0 : Int) (K : Value → Blocks → Prop) : Prop := wpNext Try.prog (hF7 C) L 97 0 .normal [] [(900, (AObj.cells [(Value.int .i64 x0)] 3 false 1))] (stateK K)
theorem nFp2_text (C : Ct) (L : AtLoop) (x0 : Int) (K : Go.Value → Blocks → Prop) : nFp2 C L x0 K =
 (K (Go.Value.tuple [(vI (0 : Int)), (vI (0 : Int))].toArray) [(Prod.mk 900 (AObj.cells [(vI x0)] 3 false 1))]) := by kernel_rfl
def gEw (C : Ct) (L : AtLoop) (lo : Int) (hi : Int) (w : Int) (n0 : Nat) (c0 : Nat) (l0 : List Value) (K : Value → Blocks → Prop) : Prop := wpFn Try.prog (hE C) L 0 104 #[.slice (some ⟨900, 0, none⟩) n0 c0, .func (.func 129) #[] #[.pointer (some ⟨901, 0, none⟩)]] (heapOf [(900, .sym l0 true 2), (901, .cells [.int .i64 lo, .int .i64 hi, .int .i64 w] 97 false 1)]) (stateK K)
theorem gEw_text (C : Ct) (L : AtLoop) (lo : Int) (hi : Int) (w : Int) (n0 : Nat) (c0 : Nat) (l0 : List Go.Value) (K : Go.Value → Blocks → Prop) : gEw C L lo hi w n0 c0 l0 K =
 (L 0 [(Prod.mk 1 (Go.Value.func (Go.Fn.func 129) [].toArray [(Go.Value.pointer (Option.some (Go.Addr.mk 901 0 Option.none)))].toArray)), (Prod.mk 5 (Go.Value.slice Option.none 0 0)), (Prod.mk 8 (Go.Value.slice (Option.some (Go.Addr.mk 900 0 Option.none)) (n0) (c0))), (Prod.mk 9 (vI ((↑n0 : Int)))), (Prod.mk 10 (vI (0 : Int)))] [(Prod.mk 901 (AObj.cells [(vI lo), (vI hi), (vI w)] 97 false 1)), (Prod.mk 900 (AObj.sym (l0) true 2))]) := by kernel_rfl
abbrev zEw1 (n0 : Nat) (c1 : Nat) (x2 : Int) (x3 : Int) (x4 : Int) (x5 : Int) (x6 : Int) (l7 : List Value) : Slots × Blocks := ([(1, (Value.func (.func 129) #[] #[(Value.pointer (some ⟨901, 0, none⟩))])), (5, (Value.slice none 0 0)), (8, (Value.slice (some ⟨900, 0, none⟩) n0 c1)), (9, (Value.int .i64 x2)), (10, (Value.int .i64 x3))], [(901, (AObj.cells [(Value.int .i64 x4), (Value.int .i64 x5), (Value.int .i64 x6)] 97 false 1)), (900, (AObj.sym l7 true 2))])
def rEw1 (C : Ct) (L : AtLoop) (n0 : Nat) (c1 : Nat) (x2 : Int) (x3 : Int) (x4 : Int) (x5 : Int) (x6 : Int) (l7 : List Value) (B : Bx) (X : Xx) (K : Value → Blocks → Prop) : Prop := wpRound Try.prog (hE C) L 104 0 [(1, (Value.func (.func 129) #[] #[(Value.pointer (some ⟨901, 0, none⟩))])), (5, (Value.slice none 0 0)), (8, (Value.slice (some ⟨900, 0, none⟩) n0 c1)), (9, (Value.int .i64 x2)), (10, (Value.int .i64 x3))] [(901, (AObj.cells [(Value.int .i64 x4), (Value.int .i64 x5), (Value.int .i64 x6)] 97 false 1)), (900, (AObj.sym l7 true 2))] B X (stateK K)
theorem rEw1_text (C : Ct) (L : AtLoop) (n0 : Nat) (c1 : Nat) (x2 : Int) (x3 : Int) (x4 : Int) (x5 : Int) (x6 : Int) (l7 : List Go.Value) (B : Bx) (X : Xx) (K : Go.Value → Blocks → Prop) : rEw1 C L n0 c1 x2 x3 x4 x5 x6 l7 B X K =
 (bcase (decide (x3 < x2))
 (bcase (decide (0 ≤ x3))
 (bcase (decide (x3 < (↑n0 : Int)))
 (∃ n1 : Int,
 (∃ n2 : Int,
 ((At (l7) (0 + Int.toNat x3 * 2) 2 [(vI n1), (vI n2)]) ∧
 (bcase (decide (x4 ≤ n1))
 (bcase (decide (n1 ≤ x5))
 (B [(Prod.mk 1 (Go.Value.func (Go.Fn.func 129) [].toArray [(Go.Value.pointer (Option.some (Go.Addr.mk 901 0 Option.none)))].toArray)), (Prod.mk 5 (Go.Value.slice (Option.some (Go.Addr.mk 1000 0 Option.none)) 1 1)), (Prod.mk 8 (Go.Value.slice (Option.some (Go.Addr.mk 900 0 Option.none)) (n0) (c1))), (Prod.mk 9 (vI x2)), (Prod.mk 10 (vI (IntKind.wrap .i64 (x3 + 1))))] [(Prod.mk 901 (AObj.cells [(vI x4), (vI x5), (vI x6)] 97 false 1)), (Prod.mk 1000 (AObj.sym [(vI n1), (vI (IntKind.wrap .i64 (n2 - x6)))] true 2)), (Prod.mk 900 (AObj.sym (l7) true 2))])
 (B [(Prod.mk 1 (Go.Value.func (Go.Fn.func 129) [].toArray [(Go.Value.pointer (Option.some (Go.Addr.mk 901 0 Option.none)))].toArray)), (Prod.mk 5 (Go.Value.slice (Option.some (Go.Addr.mk 1000 0 Option.none)) 1 1)), (Prod.mk 8 (Go.Value.slice (Option.some (Go.Addr.mk 900 0 Option.none)) (n0) (c1))), (Prod.mk 9 (vI x2)), (Prod.mk 10 (vI (IntKind.wrap .i64 (x3 + 1))))] [(Prod.mk 901 (AObj.cells [(vI x4), (vI x5), (vI x6)] 97 false 1)), (Prod.mk 1000 (AObj.sym [(vI n1), (vI n2)] true 2)), (Prod.mk 900 (AObj.sym (l7) true 2))]))
 (B [(Prod.mk 1 (Go.Value.func (Go.Fn.func 129) [].toArray [(Go.Value.pointer (Option.some (Go.Addr.mk 901 0 Option.none)))].toArray)), (Prod.mk 5 (Go.Value.slice (Option.some (Go.Addr.mk 1000 0 Option.none)) 1 1)), (Prod.mk 8 (Go.Value.slice (Option.some (Go.Addr.mk 900 0 Option.none)) (n0) (c1))), (Prod.mk 9 (vI x2)), (Prod.mk 10 (vI (IntKind.wrap .i64 (x3 + 1))))] [(Prod.mk 901 (AObj.cells [(vI x4), (vI x5), (vI x6)] 97 false 1)), (Prod.mk 1000 (AObj.sym [(vI n1), (vI n2)] true 2)), (Prod.mk 900 (AObj.sym (l7) true 2))])))))
 False)
 False)
 (X 0 [(Prod.mk 5 (Go.Value.slice Option.none 0 0))] [(Prod.mk 900 (AObj.sym (l7) true 2)), (Prod.mk 901 (AObj.cells [(vI x4), (vI x5), (vI x6)] 97 false 1))])) := by kernel_rfl
abbrev zEw2 (n0 : Nat) (n1 : Nat) (c2 : Nat) (x3 : Int) (x4 : Int) (x5 : Int) (x6 : Int) (x7 : Int) (l8 : List Value) (l9 : List Value) : Slots × Blocks := ([(1, (Value.func (.func 129) #[] #[(Value.pointer (some ⟨901, 0, none⟩))])), (5, (Value.slice (some ⟨1000, 0, none⟩) n0 n0)), (8, (Value.slice (some ⟨900, 0, none⟩) n1 c2)), (9, (Value.int .i64 x3)), (10, (Value.int .i64 x4))], [(901, (AObj.cells [(Value.int .i64 x5), (Value.int .i64 x6), (Value.int .i64 x7)] 97 false 1)), (1000, (AObj.sym l8 true 2)), (900, (AObj.sym l9 true 2))])
def rEw2 (C : Ct) (L : AtLoop) (n0 : Nat) (n1 : Nat) (c2 : Nat) (x3 : Int) (x4 : Int) (x5 : Int) (x6 : Int) (x7 : Int) (l8 : List Value) (l9 : List Value) (B : Bx) (X : Xx) (K : Value → Blocks → Prop) : Prop := wpRound Try.prog (hE C) L 104 0 [(1, (Value.func (.func 129) #[] #[(Value.pointer (some ⟨901, 0, none⟩))])), (5, (Value.slice (some ⟨1000, 0, none⟩) n0 n0)), (8, (Value.slice (some ⟨900, 0, none⟩) n1 c2)), (9, (Value.int .i64 x3)), (10, (Value.int .i64 x4))] [(901, (AObj.cells [(Value.int .i64 x5), (Value.int .i64 x6), (Value.int .i64 x7)] 97 false 1)), (1000, (AObj.sym l8 true 2)), (900, (AObj.sym l9 true 2))] B X (stateK K)
theorem rEw2_text (C : Ct) (L : AtLoop) (n0 : Nat) (n1 : Nat) (c2 : Nat) (x3 : Int) (x4 : Int) (x5 : Int) (x6 : Int) (x7 : Int) (l8 : List Go.Value) (l9 : List Go.Value) (B : Bx) (X : Xx) (K : Go.Value → Blocks → Prop) : rEw2 C L n0 n1 c2 x3 x4 x5 x6 x7 l8 l9 B X K =
 (bcase (decide (x4 < x3))
 (bcase (decide (0 ≤ x4))
 (bcase (decide (x4 < (↑n1 : Int)))
 (∃ n2 : Int,
 (∃ n3 : Int,
 ((At (l9) (0 + Int.toNat x4 * 2) 2 [(vI n2), (vI n3)]) ∧
 (bcase (decide (x5 ≤ n2))
 (bcase (decide (n2 ≤ x6))
 (bcase (decide (n0 < n0 + 1))
 (bcase (decide ((2 * (n0 + 1) + 768) * 16 ≤ 281474976710656))
 (bcase (decide (n0 + 1 ≤ 1099511627776))
 (bcase (decide (0 + n0 * 2 ≤ List.length l8))
 (bcase (decide (0 + n0 * 2 = List.length l8))
 (B [(Prod.mk 1 (Go.Value.func (Go.Fn.func 129) [].toArray [(Go.Value.pointer (Option.some (Go.Addr.mk 901 0 Option.none)))].toArray)), (Prod.mk 5 (Go.Value.slice (Option.some (Go.Addr.mk 1000 0 Option.none)) (n0 + 1) (n0 + 1))), (Prod.mk 8 (Go.Value.slice (Option.some (Go.Addr.mk 900 0 Option.none)) (n1) (c2))), (Prod.mk 9 (vI x3)), (Prod.mk 10 (vI (IntKind.wrap .i64 (x4 + 1))))] [(Prod.mk 901 (AObj.cells [(vI x5), (vI x6), (vI x7)] 97 false 1)), (Prod.mk 1000 (AObj.sym ((List.take (n0 * 2) (List.drop 0 l8)) ++ [(vI n2), (vI (IntKind.wrap .i64 (n3 - x7)))]) true 2)), (Prod.mk 900 (AObj.sym (l9) true 2))])
 False)
 False)
 False)
 False)
 False)
 (bcase (decide (n0 < n0 + 1))
 (bcase (decide ((2 * (n0 + 1) + 768) * 16 ≤ 281474976710656))
 (bcase (decide (n0 + 1 ≤ 1099511627776))
 (bcase (decide (0 + n0 * 2 ≤ List.length l8))
 (bcase (decide (0 + n0 * 2 = List.length l8))
 (B [(Prod.mk 1 (Go.Value.func (Go.Fn.func 129) [].toArray [(Go.Value.pointer (Option.some (Go.Addr.mk 901 0 Option.none)))].toArray)), (Prod.mk 5 (Go.Value.slice (Option.some (Go.Addr.mk 1000 0 Option.none)) (n0 + 1) (n0 + 1))), (Prod.mk 8 (Go.Value.slice (Option.some (Go.Addr.mk 900 0 Option.none)) (n1) (c2))), (Prod.mk 9 (vI x3)), (Prod.mk 10 (vI (IntKind.wrap .i64 (x4 + 1))))] [(Prod.mk 901 (AObj.cells [(vI x5), (vI x6), (vI x7)] 97 false 1)), (Prod.mk 1000 (AObj.sym ((List.take (n0 * 2) (List.drop 0 l8)) ++ [(vI n2), (vI n3)]) true 2)), (Prod.mk 900 (AObj.sym (l9) true 2))])
 False)
 False)
 False)
 False)
 False))
 (bcase (decide (n0 < n0 + 1))
 (bcase (decide ((2 * (n0 + 1) + 768) * 16 ≤ 281474976710656))
 (bcase (decide (n0 + 1 ≤ 1099511627776))
 (bcase (decide (0 + n0 * 2 ≤ List.length l8))
 (bcase (decide (0 + n0 * 2 = List.length l8))
 (B [(Prod.mk 1 (Go.Value.func (Go.Fn.func 129) [].toArray [(Go.Value.pointer (Option.some (Go.Addr.mk 901 0 Option.none)))].toArray)), (Prod.mk 5 (Go.Value.slice (Option.some (Go.Addr.mk 1000 0 Option.none)) (n0 + 1) (n0 + 1))), (Prod.mk 8 (Go.Value.slice (Option.some (Go.Addr.mk 900 0 Option.none)) (n1) (c2))), (Prod.mk 9 (vI x3)), (Prod.mk 10 (vI (IntKind.wrap .i64 (x4 + 1))))] [(Prod.mk 901 (AObj.cells [(vI x5), (vI x6), (vI x7)] 97 false 1)), (Prod.mk 1000 (AObj.sym ((List.take (n0 * 2) (List.drop 0 l8)) ++ [(vI n2), (vI n3)]) true 2)), (Prod.mk 900 (AObj.sym (l9) true 2))])
 False)
 False)
 False)
 False)
 False)))))
 False)
 False)
 (X 0 [(Prod.mk 5 (Go.Value.slice (Option.some (Go.Addr.mk 1000 0 Option.none)) (n0) (n0)))] [(Prod.mk 1000 (AObj.sym (l8) true 2)), (Prod.mk 900 (AObj.sym (l9) true 2)), (Prod.mk 901 (AObj.cells [(vI x5), (vI x6), (vI x7)] 97 false 1))])) := by kernel_rfl
def nEw4 (C : Ct) (L : AtLoop) (n0 : Nat) (l1 : List Value) (l2 : List Value) (x3 : Int) (x4 : Int) (x5 : Int) (K : Value → Blocks → Prop) : Prop := wpNext Try.prog (hE C) L 104 0 .normal [(5, (Value.slice (some ⟨1000, 0, none⟩) n0 n0))] [(1000, (AObj.sym l1 true 2)), (900, (AObj.sym l2 true 2)), (901, (AObj.cells [(Value.int .i64 x3), (Value.int .i64 x4), (Value.int .i64 x5)] 97 false 1))] (stateK K)
theorem nEw4_text (C : Ct) (L : AtLoop) (n0 : Nat) (l1 : List Go.Value) (l2 : List Go.Value) (x3 : Int) (x4 : Int) (x5 : Int) (K : Go.Value → Blocks → Prop) : nEw4 C L n0 l1 l2 x3 x4 x5 K =
 (K (Go.Value.slice (Option.some (Go.Addr.mk 1000 0 Option.none)) (n0) (n0)) [(Prod.mk 1000 (AObj.sym (l1) true 2)), (Prod.mk 900 (AObj.sym (l2) true 2)), (Prod.mk 901 (AObj.cells [(vI x3), (vI x4), (vI x5)] 97 false 1))]) := by kernel_rfl
end Go.Proofs.G5f

/- Chapter 7: functions of items that are handed a closure, as state contracts. -/
namespace Go.Proofs.G5f
open Go Go.Abs Go.Proofs Go.Proofs.G7
set_option maxRecDepth 100000
theorem v2le (l : List (Int × Int)) : 0 + l.length * 2 ≤ (vp l).length := by simp
theorem prs_vp : ∀ l : List (Int × Int), prs l = vp l
  | [] => rfl
  | p :: r => by rw [prs, prs_vp r]; rfl
theorem bkL_vp (lo hi : Int) : ∀ l : List (Int × Int), bkL lo hi (vp l) = vi (l.map fun p => bkV lo hi p.1 p.2)
  | [] => rfl
  | p :: r => by show Value.int .i64 (bkV lo hi p.1 p.2) :: bkL lo hi (vp r) = _; rw [bkL_vp lo hi r]; rfl
theorem map_range {α β : Type} (f : α → β) (l : List α) (d : α) : (List.range l.length).map (fun i => f (l.getD i d)) = l.map f := by
  apply List.ext_getElem
  · simp
  · intro i h1 h2
    have h3 : i < l.length := by simpa using h2
    simp [List.getD_eq_getElem?_getD, List.getElem?_eq_getElem h3]
abbrev pt (l : List (Int × Int)) (i : Nat) : Int × Int := l.getD i (0, 0)
theorem pt_at {l : List (Int × Int)} {i : Nat} (h : i < l.length) : l[i] = pt l i := by rw [pt, List.getD_eq_getElem?_getD, List.getElem?_eq_getElem h]; rfl
theorem at_pt {l : List (Int × Int)} {i : Nat} (h : i < l.length) : At (vp l) (0 + i * 2) 2 [vI (pt l i).1, vI (pt l i).2] := by rw [← pt_at h]; exact vp_two l i h
abbrev EbO (lo up : Int) (l : List (Int × Int)) (n : Nat) : List Value := vi ((List.range n).map fun i => bkV lo up (pt l i).1 (pt l i).2)
abbrev ebS (lo up : Int) (l : List (Int × Int)) (cap : Nat) : Nat → Slots × Blocks
  | 0 => zEb1 l.length cap l.length 0 lo up (vp l)
  | i + 1 => zEb2 (i + 1) l.length cap l.length ((i + 1 : Nat) : Int) lo up (EbO lo up l (i + 1)) (vp l)
abbrev EbK (lo up : Int) (l : List (Int × Int)) : Value → Blocks → Prop := fun v b => v = .slice (some ⟨1000, 0, none⟩) l.length l.length ∧ b = [(1000, .sym (EbO lo up l l.length) true 1), (900, .cells [vI lo, vI up] 56 false 1)]
theorem runEb (lo up : Int) (cap : Nat) (l : List (Int × Int)) (h0 : 0 < l.length) (hl : l.length < 1000000000) : CallS Try.prog 85 [.slice (some ⟨500, 0, none⟩) l.length cap, .func (.func 128) #[] #[.pointer (some ⟨900, 0, none⟩)]] [(500, .sym (vp l) false 2), (900, .cells [vI lo, vI up] 56 false 1)] (EbK lo up l) := by
  refine callS_ofG (L := fun _ s b => ∃ i, i ≤ l.length ∧ ebS lo up l cap i = (s, b)) hokE mixed Try.func85 rfl rfl (ids := [0]) (by kernel_rfl) rfl ?_ (fun id hid => ?_)
  · show gEb C5 _ lo up l.length cap (vp l) _
    rw [gEb_text]
    exact ⟨0, Nat.zero_le _, rfl⟩
  · obtain rfl := List.mem_singleton.1 hid
    refine ⟨_, ebS lo up l cap, fun i => i ≤ l.length, fun i => l.length - i, ⟨fun s b h => h, by kernel_rfl, ?_⟩⟩
    intro i hi
    have wi : i < l.length → IntKind.wrap .i64 ((i : Int) + 1) = ((i + 1 : Nat) : Int) := fun h => by rw [w64 (by omega) (by omega)]; rfl
    cases i with
    | zero =>
      show rEb1 C5 _ l.length cap l.length ((0 : Nat) : Int) lo up (vp l) _ _ _
      rw [rEb1_text]
      simp only [bc_t (show ((0 : Nat) : Int) < (l.length : Int) by omega), bc_t (show (0 : Int) ≤ ((0 : Nat) : Int) by omega), Int.toNat_natCast, at2 (at_pt h0), wi h0]
      have fin : ∀ v : Int, v = bkV lo up (pt l 0).1 (pt l 0).2 → ebS lo up l cap 1 = (_, [(900, .cells [vI lo, vI up] 56 false 1), (1000, .sym [vI v] true 1), (500, .sym (vp l) false 2)]) := fun v hv => by rw [hv]; rfl
      refine bc_dec (fun h1 => ?_) (fun h1 => bc_dec (fun h2 => ?_) (fun h2 => ?_))
      · exact ⟨1, h0, by omega, fin _ (by rw [bkV, if_pos h1])⟩
      · exact ⟨1, h0, by omega, fin _ (by rw [bkV, if_neg h1, if_pos h2])⟩
      · exact ⟨1, h0, by omega, fin _ (by rw [bkV, if_neg h1, if_neg h2])⟩
    | succ i =>
      show rEb2 C5 _ (i + 1) l.length cap l.length ((i + 1 : Nat) : Int) lo up (EbO lo up l (i + 1)) (vp l) _ _ _
      rw [rEb2_text]
      refine bc_dec (fun h => ?_) (fun h => ?_)
      · have hi1 : i + 1 < l.length := by omega
        simp only [bc_t h, bc_t (show (0 : Int) ≤ ((i + 1 : Nat) : Int) by omega), Int.toNat_natCast, at2 (at_pt hi1), wi hi1, bc_t (show i + 1 < i + 1 + 1 by omega), bc_t (show (2 * (i + 1 + 1) + 768) * 8 ≤ 281474976710656 by omega), bc_t (show i + 1 + 1 ≤ 1099511627776 by omega), bc_t (show 0 + (i + 1) * 1 ≤ (EbO lo up l (i + 1)).length by simp), bc_t (show 0 + (i + 1) * 1 = (EbO lo up l (i + 1)).length by simp), rg_take]
        have fin : ∀ v : Int, v = bkV lo up (pt l (i + 1)).1 (pt l (i + 1)).2 → ebS lo up l cap (i + 2) = (_, [(900, .cells [vI lo, vI up] 56 false 1), (1000, .sym (EbO lo up l (i + 1) ++ [vI v]) true 1), (500, .sym (vp l) false 2)]) := fun v hv => by
          have := rg_snoc (fun i => bkV lo up (pt l i).1 (pt l i).2) (i + 1)
          rw [hv, this]
        refine bc_dec (fun h1 => ?_) (fun h1 => bc_dec (fun h2 => ?_) (fun h2 => ?_))
        · exact ⟨i + 2, hi1, by omega, fin _ (by rw [bkV, if_pos h1])⟩
        · exact ⟨i + 2, hi1, by omega, fin _ (by rw [bkV, if_neg h1, if_pos h2])⟩
        · exact ⟨i + 2, hi1, by omega, fin _ (by rw [bkV, if_neg h1, if_neg h2])⟩
      · show (if 0 = 0 then _ else _)
        rw [if_pos rfl]
        show nEb4 C5 _ (i + 1) (EbO lo up l (i + 1)) lo up _
        rw [nEb4_text]
        have : i + 1 = l.length := by omega
        exact ⟨by rw [this], by rw [this]⟩
theorem eachB_ok {args : List Value} {bs : Blocks} {K : Value → Blocks → Prop} (hk : eachB 128 56 args bs K) : CallS Try.prog 85 args bs K := by
  unfold eachB at hk
  split at hk
  · split at hk
    · split at hk
      · rename_i ha hc' hc
        simp only [Bool.and_eq_true, beq_iff_eq] at hc
        obtain ⟨⟨⟨⟨⟨⟨⟨⟨⟨rfl, rfl⟩, rfl⟩, rfl⟩, rfl⟩, rfl⟩, rfl⟩, rfl⟩, rfl⟩, rfl⟩ := hc
        obtain ⟨h0, ⟨l, rfl, rfl, hl⟩, out, ho, hK⟩ := hk
        have ho : out = bkL _ _ (prs l) := ho.out
        rw [prs_vp] at *
        obtain rfl := Array.ext' (ys := #[]) ha
        obtain rfl := Array.ext' (ys := #[Value.pointer (some ⟨900, 0, none⟩)]) hc'
        refine callS_mono (runEb _ _ _ l h0 hl) ?_
        rintro v b ⟨rfl, rfl⟩
        rw [ho, bkL_vp, ← map_range (fun p => bkV _ _ p.1 p.2) l (0, 0)] at hK
        exact hK
      · exact hk.elim
    · exact hk.elim
  · exact hk.elim
end Go.Proofs.G5f
