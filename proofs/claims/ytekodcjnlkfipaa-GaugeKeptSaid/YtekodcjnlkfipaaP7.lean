/- Texts of the proof, put together: GbT8, GbB1, GbT3, GbT9, GbPI, GbB2, GbB3, GbB4, G5X. -/
import Derived.Test.YtekodcjnlkfipaaP4
import Derived.Test.YtekodcjnlkfipaaGbA
/- What is left to show of each function, written out; the kernel reckons it. -/
namespace Go.Proofs.G5b
open Go Go.Abs Go.Proofs
set_option maxRecDepth 100000
set_option linter.unusedVariables false
abbrev vL (a b c d e f g : Int) : Value := .agg #[vI a, vI b, vI c, vI d, vI e, vI f, vI g]
abbrev L500 (l : List Value) : Nat × AObj := (500, .sym l false 7)
def copyChain : List D → Option (List D) := fun ds => match ds with | [.agg [.sl n es cs]] => some [.agg [.sl n es cs]] | [.agg [.nil]] => some [.agg [.sl 0 7 []]] | _ => none
def preB (C : Ct) : FuncId → Option Handler := fun g => if g == 66 then some (stateH (witAll 3 56 30)) else if g == 20 then some (fixH C copyInts) else if g == 10 then some (fixH C copyChain) else if [7, 37, 38, 34, 35, 42, 9, 13, 67, 43, 41, 16, 11, 14, 15, 26, 21, 8].contains g then some (saidH Try.prog C) else none
abbrev hB (C : Ct) : Handler := handlerX Try.prog (preB C) 12 6
def gCL (C : Ct) (L : AtLoop) (a b c d e f g : Int) (k : List D → Prop) : Prop := wpFn Try.prog (hB C) L 0 35 #[vL a b c d e f g] (heapOf []) (dataK k)
theorem gCL_text (C : Ct) (L : AtLoop) (a : Int) (b : Int) (c : Int) (d : Int) (e : Int) (f : Int) (g : Int) (k : List D → Prop) : gCL C L a b c d e f g k =
 (((((Go.Value.slice (Option.some (Go.Addr.mk 1003 0 Option.none)) 1 1) = (Go.Value.slice (Option.some (Go.Addr.mk 1003 0 Option.none)) 1 1)) ∧
 ((Option.some (AObj.cells [(vI c)] 3 false 1)) = (Option.some (AObj.cells [(vI c)] 3 false 1)))) ∧
 (((vI c) = (vI c)) ∧
 (((Go.Value.pointer (Option.some (Go.Addr.mk 1000 2 Option.none))) = (Go.Value.pointer (Option.some (Go.Addr.mk 1000 2 Option.none)))) ∧
 ((((Go.Value.slice (Option.some (Go.Addr.mk 1002 0 Option.none)) 1 1) = (Go.Value.slice (Option.some (Go.Addr.mk 1002 0 Option.none)) 1 1)) ∧
 ((Option.some (AObj.cells [(vI b)] 3 false 1)) = (Option.some (AObj.cells [(vI b)] 3 false 1)))) ∧
 (((vI b) = (vI b)) ∧
 (((Go.Value.pointer (Option.some (Go.Addr.mk 1000 1 Option.none))) = (Go.Value.pointer (Option.some (Go.Addr.mk 1000 1 Option.none)))) ∧
 ((((Go.Value.slice (Option.some (Go.Addr.mk 1001 0 Option.none)) 5 5) = (Go.Value.slice (Option.some (Go.Addr.mk 1001 0 Option.none)) 5 5)) ∧
 ((Option.some (AObj.cells [(vI a), (vI d), (vI e), (vI f), (vI g)] 3 false 1)) = (Option.some (AObj.cells [(vI a), (vI d), (vI e), (vI f), (vI g)] 3 false 1)))) ∧
 (((vI g) = (vI g)) ∧
 (((Go.Value.pointer (Option.some (Go.Addr.mk 1000 6 Option.none))) = (Go.Value.pointer (Option.some (Go.Addr.mk 1000 6 Option.none)))) ∧
 (((Go.Value.pointer (Option.some (Go.Addr.mk 1000 5 Option.none))) = (Go.Value.pointer (Option.some (Go.Addr.mk 1000 5 Option.none)))) ∧
 (((vI f) = (vI f)) ∧
 (((Go.Value.pointer (Option.some (Go.Addr.mk 1000 5 Option.none))) = (Go.Value.pointer (Option.some (Go.Addr.mk 1000 5 Option.none)))) ∧
 (((Go.Value.pointer (Option.some (Go.Addr.mk 1000 5 Option.none))) = (Go.Value.pointer (Option.some (Go.Addr.mk 1000 5 Option.none)))) ∧
 (((vI e) = (vI e)) ∧
 (((Go.Value.pointer (Option.some (Go.Addr.mk 1000 4 Option.none))) = (Go.Value.pointer (Option.some (Go.Addr.mk 1000 4 Option.none)))) ∧
 (((Go.Value.pointer (Option.some (Go.Addr.mk 1000 3 Option.none))) = (Go.Value.pointer (Option.some (Go.Addr.mk 1000 3 Option.none)))) ∧
 (((vI d) = (vI d)) ∧
 (((Go.Value.pointer (Option.some (Go.Addr.mk 1000 3 Option.none))) = (Go.Value.pointer (Option.some (Go.Addr.mk 1000 3 Option.none)))) ∧
 (((Go.Value.pointer (Option.some (Go.Addr.mk 1000 3 Option.none))) = (Go.Value.pointer (Option.some (Go.Addr.mk 1000 3 Option.none)))) ∧
 (((vI a) = (vI a)) ∧
 (((Go.Value.pointer (Option.some (Go.Addr.mk 1000 0 Option.none))) = (Go.Value.pointer (Option.some (Go.Addr.mk 1000 0 Option.none)))) ∧
 True))))))))))))))))))))) ∧
 (((((Go.Value.slice (Option.some (Go.Addr.mk 1003 0 Option.none)) 1 1) = (Go.Value.slice (Option.some (Go.Addr.mk 1003 0 Option.none)) 1 1)) ∧
 ((Option.some (AObj.cells [(vI c)] 3 false 1)) = (Option.some (AObj.cells [(vI c)] 3 false 1)))) ∧
 (((vI c) = (vI c)) ∧
 (((Go.Value.pointer (Option.some (Go.Addr.mk 1000 2 Option.none))) = (Go.Value.pointer (Option.some (Go.Addr.mk 1000 2 Option.none)))) ∧
 ((((Go.Value.slice (Option.some (Go.Addr.mk 1002 0 Option.none)) 1 1) = (Go.Value.slice (Option.some (Go.Addr.mk 1002 0 Option.none)) 1 1)) ∧
 ((Option.some (AObj.cells [(vI b)] 3 false 1)) = (Option.some (AObj.cells [(vI b)] 3 false 1)))) ∧
 (((vI b) = (vI b)) ∧
 (((Go.Value.pointer (Option.some (Go.Addr.mk 1000 1 Option.none))) = (Go.Value.pointer (Option.some (Go.Addr.mk 1000 1 Option.none)))) ∧
 ((((Go.Value.slice (Option.some (Go.Addr.mk 1001 0 Option.none)) 5 5) = (Go.Value.slice (Option.some (Go.Addr.mk 1001 0 Option.none)) 5 5)) ∧
 ((Option.some (AObj.cells [(vI a), (vI d), (vI e), (vI f), (vI g)] 3 false 1)) = (Option.some (AObj.cells [(vI a), (vI d), (vI e), (vI f), (vI g)] 3 false 1)))) ∧
 (((vI g) = (vI g)) ∧
 (((Go.Value.pointer (Option.some (Go.Addr.mk 1000 6 Option.none))) = (Go.Value.pointer (Option.some (Go.Addr.mk 1000 6 Option.none)))) ∧
 (((Go.Value.pointer (Option.some (Go.Addr.mk 1000 5 Option.none))) = (Go.Value.pointer (Option.some (Go.Addr.mk 1000 5 Option.none)))) ∧
 (((vI f) = (vI f)) ∧
 (((Go.Value.pointer (Option.some (Go.Addr.mk 1000 5 Option.none))) = (Go.Value.pointer (Option.some (Go.Addr.mk 1000 5 Option.none)))) ∧
 (((Go.Value.pointer (Option.some (Go.Addr.mk 1000 5 Option.none))) = (Go.Value.pointer (Option.some (Go.Addr.mk 1000 5 Option.none)))) ∧
 (((vI e) = (vI e)) ∧
 (((Go.Value.pointer (Option.some (Go.Addr.mk 1000 4 Option.none))) = (Go.Value.pointer (Option.some (Go.Addr.mk 1000 4 Option.none)))) ∧
 (((Go.Value.pointer (Option.some (Go.Addr.mk 1000 3 Option.none))) = (Go.Value.pointer (Option.some (Go.Addr.mk 1000 3 Option.none)))) ∧
 (((vI d) = (vI d)) ∧
 (((Go.Value.pointer (Option.some (Go.Addr.mk 1000 3 Option.none))) = (Go.Value.pointer (Option.some (Go.Addr.mk 1000 3 Option.none)))) ∧
 (((Go.Value.pointer (Option.some (Go.Addr.mk 1000 3 Option.none))) = (Go.Value.pointer (Option.some (Go.Addr.mk 1000 3 Option.none)))) ∧
 (((vI a) = (vI a)) ∧
 (((Go.Value.pointer (Option.some (Go.Addr.mk 1000 0 Option.none))) = (Go.Value.pointer (Option.some (Go.Addr.mk 1000 0 Option.none)))) ∧
 True))))))))))))))))))))) ∧
 (∃ r1 : Int,
 ((Says witC 0 [(D.val (vI (-(999 + 1) : Int))), (D.val (vI (1000 : Int))), (D.val (vI (2 : Int))), (D.sl 5 1 [(vI a), (vI d), (vI e), (vI f), (vI g)])] [(D.val (vI r1))]) ∧
 (((((Go.Value.slice (Option.some (Go.Addr.mk 1003 0 Option.none)) 1 1) = (Go.Value.slice (Option.some (Go.Addr.mk 1003 0 Option.none)) 1 1)) ∧
 ((Option.some (AObj.cells [(vI c)] 3 false 1)) = (Option.some (AObj.cells [(vI c)] 3 false 1)))) ∧
 (((vI c) = (vI c)) ∧
 (((Go.Value.pointer (Option.some (Go.Addr.mk 1000 2 Option.none))) = (Go.Value.pointer (Option.some (Go.Addr.mk 1000 2 Option.none)))) ∧
 ((((Go.Value.slice (Option.some (Go.Addr.mk 1002 0 Option.none)) 1 1) = (Go.Value.slice (Option.some (Go.Addr.mk 1002 0 Option.none)) 1 1)) ∧
 ((Option.some (AObj.cells [(vI b)] 3 false 1)) = (Option.some (AObj.cells [(vI b)] 3 false 1)))) ∧
 (((vI b) = (vI b)) ∧
 (((Go.Value.pointer (Option.some (Go.Addr.mk 1000 1 Option.none))) = (Go.Value.pointer (Option.some (Go.Addr.mk 1000 1 Option.none)))) ∧
 (((vI g) = (vI g)) ∧
 (((Go.Value.pointer (Option.some (Go.Addr.mk 1000 6 Option.none))) = (Go.Value.pointer (Option.some (Go.Addr.mk 1000 6 Option.none)))) ∧
 (((Go.Value.pointer (Option.some (Go.Addr.mk 1000 5 Option.none))) = (Go.Value.pointer (Option.some (Go.Addr.mk 1000 5 Option.none)))) ∧
 (((vI f) = (vI f)) ∧
 (((Go.Value.pointer (Option.some (Go.Addr.mk 1000 5 Option.none))) = (Go.Value.pointer (Option.some (Go.Addr.mk 1000 5 Option.none)))) ∧
 (((Go.Value.pointer (Option.some (Go.Addr.mk 1000 5 Option.none))) = (Go.Value.pointer (Option.some (Go.Addr.mk 1000 5 Option.none)))) ∧
 (((vI e) = (vI e)) ∧
 (((Go.Value.pointer (Option.some (Go.Addr.mk 1000 4 Option.none))) = (Go.Value.pointer (Option.some (Go.Addr.mk 1000 4 Option.none)))) ∧
 (((Go.Value.pointer (Option.some (Go.Addr.mk 1000 3 Option.none))) = (Go.Value.pointer (Option.some (Go.Addr.mk 1000 3 Option.none)))) ∧
 (((vI d) = (vI d)) ∧
 (((Go.Value.pointer (Option.some (Go.Addr.mk 1000 3 Option.none))) = (Go.Value.pointer (Option.some (Go.Addr.mk 1000 3 Option.none)))) ∧
 (((Go.Value.pointer (Option.some (Go.Addr.mk 1000 3 Option.none))) = (Go.Value.pointer (Option.some (Go.Addr.mk 1000 3 Option.none)))) ∧
 (((vI a) = (vI a)) ∧
 (((Go.Value.pointer (Option.some (Go.Addr.mk 1000 0 Option.none))) = (Go.Value.pointer (Option.some (Go.Addr.mk 1000 0 Option.none)))) ∧
 True)))))))))))))))))))) ∧
 (((((Go.Value.slice (Option.some (Go.Addr.mk 1003 0 Option.none)) 1 1) = (Go.Value.slice (Option.some (Go.Addr.mk 1003 0 Option.none)) 1 1)) ∧
 ((Option.some (AObj.cells [(vI c)] 3 false 1)) = (Option.some (AObj.cells [(vI c)] 3 false 1)))) ∧
 (((vI c) = (vI c)) ∧
 (((Go.Value.pointer (Option.some (Go.Addr.mk 1000 2 Option.none))) = (Go.Value.pointer (Option.some (Go.Addr.mk 1000 2 Option.none)))) ∧
 ((((Go.Value.slice (Option.some (Go.Addr.mk 1002 0 Option.none)) 1 1) = (Go.Value.slice (Option.some (Go.Addr.mk 1002 0 Option.none)) 1 1)) ∧
 ((Option.some (AObj.cells [(vI b)] 3 false 1)) = (Option.some (AObj.cells [(vI b)] 3 false 1)))) ∧
 (((vI b) = (vI b)) ∧
 (((Go.Value.pointer (Option.some (Go.Addr.mk 1000 1 Option.none))) = (Go.Value.pointer (Option.some (Go.Addr.mk 1000 1 Option.none)))) ∧
 (((vI g) = (vI g)) ∧
 (((Go.Value.pointer (Option.some (Go.Addr.mk 1000 6 Option.none))) = (Go.Value.pointer (Option.some (Go.Addr.mk 1000 6 Option.none)))) ∧
 (((Go.Value.pointer (Option.some (Go.Addr.mk 1000 5 Option.none))) = (Go.Value.pointer (Option.some (Go.Addr.mk 1000 5 Option.none)))) ∧
 (((vI f) = (vI f)) ∧
 (((Go.Value.pointer (Option.some (Go.Addr.mk 1000 5 Option.none))) = (Go.Value.pointer (Option.some (Go.Addr.mk 1000 5 Option.none)))) ∧
 (((Go.Value.pointer (Option.some (Go.Addr.mk 1000 5 Option.none))) = (Go.Value.pointer (Option.some (Go.Addr.mk 1000 5 Option.none)))) ∧
 (((vI e) = (vI e)) ∧
 (((Go.Value.pointer (Option.some (Go.Addr.mk 1000 4 Option.none))) = (Go.Value.pointer (Option.some (Go.Addr.mk 1000 4 Option.none)))) ∧
 (((Go.Value.pointer (Option.some (Go.Addr.mk 1000 3 Option.none))) = (Go.Value.pointer (Option.some (Go.Addr.mk 1000 3 Option.none)))) ∧
 (((vI d) = (vI d)) ∧
 (((Go.Value.pointer (Option.some (Go.Addr.mk 1000 3 Option.none))) = (Go.Value.pointer (Option.some (Go.Addr.mk 1000 3 Option.none)))) ∧
 (((Go.Value.pointer (Option.some (Go.Addr.mk 1000 3 Option.none))) = (Go.Value.pointer (Option.some (Go.Addr.mk 1000 3 Option.none)))) ∧
 (((vI a) = (vI a)) ∧
 (((Go.Value.pointer (Option.some (Go.Addr.mk 1000 0 Option.none))) = (Go.Value.pointer (Option.some (Go.Addr.mk 1000 0 Option.none)))) ∧
 True)))))))))))))))))))) ∧
 (∃ r2 : Int,
 ((Says witC 0 [(D.val (vI (0 : Int))), (D.val (vI (100 : Int))), (D.val (vI (2 : Int))), (D.sl 1 1 [(vI b)])] [(D.val (vI r2))]) ∧
 (((((Go.Value.slice (Option.some (Go.Addr.mk 1003 0 Option.none)) 1 1) = (Go.Value.slice (Option.some (Go.Addr.mk 1003 0 Option.none)) 1 1)) ∧
 ((Option.some (AObj.cells [(vI c)] 3 false 1)) = (Option.some (AObj.cells [(vI c)] 3 false 1)))) ∧
 (((vI c) = (vI c)) ∧
 (((Go.Value.pointer (Option.some (Go.Addr.mk 1000 2 Option.none))) = (Go.Value.pointer (Option.some (Go.Addr.mk 1000 2 Option.none)))) ∧
 (((vI b) = (vI b)) ∧
 (((Go.Value.pointer (Option.some (Go.Addr.mk 1000 1 Option.none))) = (Go.Value.pointer (Option.some (Go.Addr.mk 1000 1 Option.none)))) ∧
 (((vI g) = (vI g)) ∧
 (((Go.Value.pointer (Option.some (Go.Addr.mk 1000 6 Option.none))) = (Go.Value.pointer (Option.some (Go.Addr.mk 1000 6 Option.none)))) ∧
 (((Go.Value.pointer (Option.some (Go.Addr.mk 1000 5 Option.none))) = (Go.Value.pointer (Option.some (Go.Addr.mk 1000 5 Option.none)))) ∧
 (((vI f) = (vI f)) ∧
 (((Go.Value.pointer (Option.some (Go.Addr.mk 1000 5 Option.none))) = (Go.Value.pointer (Option.some (Go.Addr.mk 1000 5 Option.none)))) ∧
 (((Go.Value.pointer (Option.some (Go.Addr.mk 1000 5 Option.none))) = (Go.Value.pointer (Option.some (Go.Addr.mk 1000 5 Option.none)))) ∧
 (((vI e) = (vI e)) ∧
 (((Go.Value.pointer (Option.some (Go.Addr.mk 1000 4 Option.none))) = (Go.Value.pointer (Option.some (Go.Addr.mk 1000 4 Option.none)))) ∧
 (((Go.Value.pointer (Option.some (Go.Addr.mk 1000 3 Option.none))) = (Go.Value.pointer (Option.some (Go.Addr.mk 1000 3 Option.none)))) ∧
 (((vI d) = (vI d)) ∧
 (((Go.Value.pointer (Option.some (Go.Addr.mk 1000 3 Option.none))) = (Go.Value.pointer (Option.some (Go.Addr.mk 1000 3 Option.none)))) ∧
 (((Go.Value.pointer (Option.some (Go.Addr.mk 1000 3 Option.none))) = (Go.Value.pointer (Option.some (Go.Addr.mk 1000 3 Option.none)))) ∧
 (((vI a) = (vI a)) ∧
 (((Go.Value.pointer (Option.some (Go.Addr.mk 1000 0 Option.none))) = (Go.Value.pointer (Option.some (Go.Addr.mk 1000 0 Option.none)))) ∧
 True))))))))))))))))))) ∧
 (((((Go.Value.slice (Option.some (Go.Addr.mk 1003 0 Option.none)) 1 1) = (Go.Value.slice (Option.some (Go.Addr.mk 1003 0 Option.none)) 1 1)) ∧
 ((Option.some (AObj.cells [(vI c)] 3 false 1)) = (Option.some (AObj.cells [(vI c)] 3 false 1)))) ∧
 (((vI c) = (vI c)) ∧
 (((Go.Value.pointer (Option.some (Go.Addr.mk 1000 2 Option.none))) = (Go.Value.pointer (Option.some (Go.Addr.mk 1000 2 Option.none)))) ∧
 (((vI b) = (vI b)) ∧
 (((Go.Value.pointer (Option.some (Go.Addr.mk 1000 1 Option.none))) = (Go.Value.pointer (Option.some (Go.Addr.mk 1000 1 Option.none)))) ∧
 (((vI g) = (vI g)) ∧
 (((Go.Value.pointer (Option.some (Go.Addr.mk 1000 6 Option.none))) = (Go.Value.pointer (Option.some (Go.Addr.mk 1000 6 Option.none)))) ∧
 (((Go.Value.pointer (Option.some (Go.Addr.mk 1000 5 Option.none))) = (Go.Value.pointer (Option.some (Go.Addr.mk 1000 5 Option.none)))) ∧
 (((vI f) = (vI f)) ∧
 (((Go.Value.pointer (Option.some (Go.Addr.mk 1000 5 Option.none))) = (Go.Value.pointer (Option.some (Go.Addr.mk 1000 5 Option.none)))) ∧
 (((Go.Value.pointer (Option.some (Go.Addr.mk 1000 5 Option.none))) = (Go.Value.pointer (Option.some (Go.Addr.mk 1000 5 Option.none)))) ∧
 (((vI e) = (vI e)) ∧
 (((Go.Value.pointer (Option.some (Go.Addr.mk 1000 4 Option.none))) = (Go.Value.pointer (Option.some (Go.Addr.mk 1000 4 Option.none)))) ∧
 (((Go.Value.pointer (Option.some (Go.Addr.mk 1000 3 Option.none))) = (Go.Value.pointer (Option.some (Go.Addr.mk 1000 3 Option.none)))) ∧
 (((vI d) = (vI d)) ∧
 (((Go.Value.pointer (Option.some (Go.Addr.mk 1000 3 Option.none))) = (Go.Value.pointer (Option.some (Go.Addr.mk 1000 3 Option.none)))) ∧
 (((Go.Value.pointer (Option.some (Go.Addr.mk 1000 3 Option.none))) = (Go.Value.pointer (Option.some (Go.Addr.mk 1000 3 Option.none)))) ∧
 (((vI a) = (vI a)) ∧
 (((Go.Value.pointer (Option.some (Go.Addr.mk 1000 0 Option.none))) = (Go.Value.pointer (Option.some (Go.Addr.mk 1000 0 Option.none)))) ∧
 True))))))))))))))))))) ∧
 (∃ r3 : Int,
 ((Says witC 0 [(D.val (vI (1 : Int))), (D.val (vI (100 : Int))), (D.val (vI (2 : Int))), (D.sl 1 1 [(vI c)])] [(D.val (vI r3))]) ∧
 (((((Go.Value.slice (Option.some (Go.Addr.mk 1010 0 Option.none)) 3 3) = (Go.Value.slice (Option.some (Go.Addr.mk 1010 0 Option.none)) 3 3)) ∧
 ((Option.some (AObj.cells [(vI r1), (vI r2), (vI r3)] 30 false 1)) = (Option.some (AObj.cells [(vI r1), (vI r2), (vI r3)] 30 false 1)))) ∧
 (((vI c) = (vI c)) ∧
 (((Go.Value.pointer (Option.some (Go.Addr.mk 1000 2 Option.none))) = (Go.Value.pointer (Option.some (Go.Addr.mk 1000 2 Option.none)))) ∧
 (((vI b) = (vI b)) ∧
 (((Go.Value.pointer (Option.some (Go.Addr.mk 1000 1 Option.none))) = (Go.Value.pointer (Option.some (Go.Addr.mk 1000 1 Option.none)))) ∧
 (((vI g) = (vI g)) ∧
 (((Go.Value.pointer (Option.some (Go.Addr.mk 1000 6 Option.none))) = (Go.Value.pointer (Option.some (Go.Addr.mk 1000 6 Option.none)))) ∧
 (((Go.Value.pointer (Option.some (Go.Addr.mk 1000 5 Option.none))) = (Go.Value.pointer (Option.some (Go.Addr.mk 1000 5 Option.none)))) ∧
 (((vI f) = (vI f)) ∧
 (((Go.Value.pointer (Option.some (Go.Addr.mk 1000 5 Option.none))) = (Go.Value.pointer (Option.some (Go.Addr.mk 1000 5 Option.none)))) ∧
 (((Go.Value.pointer (Option.some (Go.Addr.mk 1000 5 Option.none))) = (Go.Value.pointer (Option.some (Go.Addr.mk 1000 5 Option.none)))) ∧
 (((vI e) = (vI e)) ∧
 (((Go.Value.pointer (Option.some (Go.Addr.mk 1000 4 Option.none))) = (Go.Value.pointer (Option.some (Go.Addr.mk 1000 4 Option.none)))) ∧
 (((Go.Value.pointer (Option.some (Go.Addr.mk 1000 3 Option.none))) = (Go.Value.pointer (Option.some (Go.Addr.mk 1000 3 Option.none)))) ∧
 (((vI d) = (vI d)) ∧
 (((Go.Value.pointer (Option.some (Go.Addr.mk 1000 3 Option.none))) = (Go.Value.pointer (Option.some (Go.Addr.mk 1000 3 Option.none)))) ∧
 (((Go.Value.pointer (Option.some (Go.Addr.mk 1000 3 Option.none))) = (Go.Value.pointer (Option.some (Go.Addr.mk 1000 3 Option.none)))) ∧
 (((vI a) = (vI a)) ∧
 (((Go.Value.pointer (Option.some (Go.Addr.mk 1000 0 Option.none))) = (Go.Value.pointer (Option.some (Go.Addr.mk 1000 0 Option.none)))) ∧
 True))))))))))))))))))) ∧
 (∃ n1 : Int,
 ((Says C 37 [(D.sl 3 1 [(vI r1), (vI r2), (vI r3)])] [(D.val (vI n1))]) ∧
 ((((vI c) = (vI c)) ∧
 (((Go.Value.pointer (Option.some (Go.Addr.mk 1000 2 Option.none))) = (Go.Value.pointer (Option.some (Go.Addr.mk 1000 2 Option.none)))) ∧
 (((vI b) = (vI b)) ∧
 (((Go.Value.pointer (Option.some (Go.Addr.mk 1000 1 Option.none))) = (Go.Value.pointer (Option.some (Go.Addr.mk 1000 1 Option.none)))) ∧
 (((vI g) = (vI g)) ∧
 (((Go.Value.pointer (Option.some (Go.Addr.mk 1000 6 Option.none))) = (Go.Value.pointer (Option.some (Go.Addr.mk 1000 6 Option.none)))) ∧
 (((Go.Value.pointer (Option.some (Go.Addr.mk 1000 5 Option.none))) = (Go.Value.pointer (Option.some (Go.Addr.mk 1000 5 Option.none)))) ∧
 (((vI f) = (vI f)) ∧
 (((Go.Value.pointer (Option.some (Go.Addr.mk 1000 5 Option.none))) = (Go.Value.pointer (Option.some (Go.Addr.mk 1000 5 Option.none)))) ∧
 (((Go.Value.pointer (Option.some (Go.Addr.mk 1000 5 Option.none))) = (Go.Value.pointer (Option.some (Go.Addr.mk 1000 5 Option.none)))) ∧
 (((vI e) = (vI e)) ∧
 (((Go.Value.pointer (Option.some (Go.Addr.mk 1000 4 Option.none))) = (Go.Value.pointer (Option.some (Go.Addr.mk 1000 4 Option.none)))) ∧
 (((Go.Value.pointer (Option.some (Go.Addr.mk 1000 3 Option.none))) = (Go.Value.pointer (Option.some (Go.Addr.mk 1000 3 Option.none)))) ∧
 (((vI d) = (vI d)) ∧
 (((Go.Value.pointer (Option.some (Go.Addr.mk 1000 3 Option.none))) = (Go.Value.pointer (Option.some (Go.Addr.mk 1000 3 Option.none)))) ∧
 (((Go.Value.pointer (Option.some (Go.Addr.mk 1000 3 Option.none))) = (Go.Value.pointer (Option.some (Go.Addr.mk 1000 3 Option.none)))) ∧
 (((vI a) = (vI a)) ∧
 (((Go.Value.pointer (Option.some (Go.Addr.mk 1000 0 Option.none))) = (Go.Value.pointer (Option.some (Go.Addr.mk 1000 0 Option.none)))) ∧
 True)))))))))))))))))) ∧
 (True ∧
 (bcase (n1 != 0)
 (k [(D.val (vI n1))])
 (bcase (decide (b > c))
 (k [(D.val (vI (3 : Int)))])
 (((((Go.Value.slice (Option.some (Go.Addr.mk 1012 0 Option.none)) 1 1) = (Go.Value.slice (Option.some (Go.Addr.mk 1012 0 Option.none)) 1 1)) ∧
 ((Option.some (AObj.cells [(vI a)] 3 false 1)) = (Option.some (AObj.cells [(vI a)] 3 false 1)))) ∧
 (((vI a) = (vI a)) ∧
 (((Go.Value.pointer (Option.some (Go.Addr.mk 1000 0 Option.none))) = (Go.Value.pointer (Option.some (Go.Addr.mk 1000 0 Option.none)))) ∧
 (((Go.Value.agg [(vI a), (vI b), (vI c), (vI d), (vI e), (vI f), (vI g)].toArray) = (Go.Value.agg [(vI a), (vI b), (vI c), (vI d), (vI e), (vI f), (vI g)].toArray)) ∧
 ((((Go.Value.slice (Option.some (Go.Addr.mk 1011 0 Option.none)) 2 2) = (Go.Value.slice (Option.some (Go.Addr.mk 1011 0 Option.none)) 2 2)) ∧
 ((Option.some (AObj.cells [(vI d), (vI e), (vI f), (vI g)] 56 false 2)) = (Option.some (AObj.cells [(vI d), (vI e), (vI f), (vI g)] 56 false 2)))) ∧
 (((Go.Value.agg [(vI f), (vI g)].toArray) = (Go.Value.agg [(vI f), (vI g)].toArray)) ∧
 (((Go.Value.pointer (Option.some (Go.Addr.mk 1000 5 Option.none))) = (Go.Value.pointer (Option.some (Go.Addr.mk 1000 5 Option.none)))) ∧
 (((Go.Value.agg [(vI d), (vI e)].toArray) = (Go.Value.agg [(vI d), (vI e)].toArray)) ∧
 (((Go.Value.pointer (Option.some (Go.Addr.mk 1000 3 Option.none))) = (Go.Value.pointer (Option.some (Go.Addr.mk 1000 3 Option.none)))) ∧
 True))))))))) ∧
 (bcase (decide (d > e))
 (((((Go.Value.slice (Option.some (Go.Addr.mk 1012 0 Option.none)) 1 1) = (Go.Value.slice (Option.some (Go.Addr.mk 1012 0 Option.none)) 1 1)) ∧
 ((Option.some (AObj.cells [(vI a)] 3 false 1)) = (Option.some (AObj.cells [(vI a)] 3 false 1)))) ∧
 (((vI a) = (vI a)) ∧
 (((Go.Value.pointer (Option.some (Go.Addr.mk 1000 0 Option.none))) = (Go.Value.pointer (Option.some (Go.Addr.mk 1000 0 Option.none)))) ∧
 (((Go.Value.agg [(vI a), (vI b), (vI c), (vI d), (vI e), (vI f), (vI g)].toArray) = (Go.Value.agg [(vI a), (vI b), (vI c), (vI d), (vI e), (vI f), (vI g)].toArray)) ∧
 (((Go.Value.agg [(vI f), (vI g)].toArray) = (Go.Value.agg [(vI f), (vI g)].toArray)) ∧
 (((Go.Value.pointer (Option.some (Go.Addr.mk 1000 5 Option.none))) = (Go.Value.pointer (Option.some (Go.Addr.mk 1000 5 Option.none)))) ∧
 (((Go.Value.agg [(vI d), (vI e)].toArray) = (Go.Value.agg [(vI d), (vI e)].toArray)) ∧
 (((Go.Value.pointer (Option.some (Go.Addr.mk 1000 3 Option.none))) = (Go.Value.pointer (Option.some (Go.Addr.mk 1000 3 Option.none)))) ∧
 True)))))))) ∧
 (∃ r4 : Int,
 ((Says witC 0 [(D.val (vI f)), (D.val (vI g)), (D.val (vI (22 : Int))), (D.sl 1 1 [(vI a)])] [(D.val (vI r4))]) ∧
 (((((Go.Value.slice (Option.some (Go.Addr.mk 1017 0 Option.none)) 2 2) = (Go.Value.slice (Option.some (Go.Addr.mk 1017 0 Option.none)) 2 2)) ∧
 ((Option.some (AObj.cells [(vI (9 : Int)), (vI r4)] 30 false 1)) = (Option.some (AObj.cells [(vI (9 : Int)), (vI r4)] 30 false 1)))) ∧
 (((vI a) = (vI a)) ∧
 (((Go.Value.pointer (Option.some (Go.Addr.mk 1000 0 Option.none))) = (Go.Value.pointer (Option.some (Go.Addr.mk 1000 0 Option.none)))) ∧
 (((Go.Value.agg [(vI f), (vI g)].toArray) = (Go.Value.agg [(vI f), (vI g)].toArray)) ∧
 (((Go.Value.pointer (Option.some (Go.Addr.mk 1000 5 Option.none))) = (Go.Value.pointer (Option.some (Go.Addr.mk 1000 5 Option.none)))) ∧
 (((Go.Value.agg [(vI d), (vI e)].toArray) = (Go.Value.agg [(vI d), (vI e)].toArray)) ∧
 (((Go.Value.pointer (Option.some (Go.Addr.mk 1000 3 Option.none))) = (Go.Value.pointer (Option.some (Go.Addr.mk 1000 3 Option.none)))) ∧
 True))))))) ∧
 (∃ n2 : Int,
 ((Says C 37 [(D.sl 2 1 [(vI (9 : Int)), (vI r4)])] [(D.val (vI n2))]) ∧
 ((((vI a) = (vI a)) ∧
 (((Go.Value.pointer (Option.some (Go.Addr.mk 1000 0 Option.none))) = (Go.Value.pointer (Option.some (Go.Addr.mk 1000 0 Option.none)))) ∧
 (((Go.Value.agg [(vI f), (vI g)].toArray) = (Go.Value.agg [(vI f), (vI g)].toArray)) ∧
 (((Go.Value.pointer (Option.some (Go.Addr.mk 1000 5 Option.none))) = (Go.Value.pointer (Option.some (Go.Addr.mk 1000 5 Option.none)))) ∧
 (((Go.Value.agg [(vI d), (vI e)].toArray) = (Go.Value.agg [(vI d), (vI e)].toArray)) ∧
 (((Go.Value.pointer (Option.some (Go.Addr.mk 1000 3 Option.none))) = (Go.Value.pointer (Option.some (Go.Addr.mk 1000 3 Option.none)))) ∧
 True)))))) ∧
 (True ∧
 (k [(D.val (vI n2))])))))))))
 (bcase (decide (f > g))
 (((((Go.Value.slice (Option.some (Go.Addr.mk 1012 0 Option.none)) 1 1) = (Go.Value.slice (Option.some (Go.Addr.mk 1012 0 Option.none)) 1 1)) ∧
 ((Option.some (AObj.cells [(vI a)] 3 false 1)) = (Option.some (AObj.cells [(vI a)] 3 false 1)))) ∧
 (((vI a) = (vI a)) ∧
 (((Go.Value.pointer (Option.some (Go.Addr.mk 1000 0 Option.none))) = (Go.Value.pointer (Option.some (Go.Addr.mk 1000 0 Option.none)))) ∧
 (((Go.Value.agg [(vI a), (vI b), (vI c), (vI d), (vI e), (vI f), (vI g)].toArray) = (Go.Value.agg [(vI a), (vI b), (vI c), (vI d), (vI e), (vI f), (vI g)].toArray)) ∧
 (((Go.Value.agg [(vI f), (vI g)].toArray) = (Go.Value.agg [(vI f), (vI g)].toArray)) ∧
 (((Go.Value.pointer (Option.some (Go.Addr.mk 1000 5 Option.none))) = (Go.Value.pointer (Option.some (Go.Addr.mk 1000 5 Option.none)))) ∧
 (((Go.Value.agg [(vI d), (vI e)].toArray) = (Go.Value.agg [(vI d), (vI e)].toArray)) ∧
 (((Go.Value.pointer (Option.some (Go.Addr.mk 1000 3 Option.none))) = (Go.Value.pointer (Option.some (Go.Addr.mk 1000 3 Option.none)))) ∧
 True)))))))) ∧
 (∃ r4 : Int,
 ((Says witC 0 [(D.val (vI f)), (D.val (vI g)), (D.val (vI (22 : Int))), (D.sl 1 1 [(vI a)])] [(D.val (vI r4))]) ∧
 (((((Go.Value.slice (Option.some (Go.Addr.mk 1018 0 Option.none)) 2 2) = (Go.Value.slice (Option.some (Go.Addr.mk 1018 0 Option.none)) 2 2)) ∧
 ((Option.some (AObj.cells [(vI (9 : Int)), (vI r4)] 30 false 1)) = (Option.some (AObj.cells [(vI (9 : Int)), (vI r4)] 30 false 1)))) ∧
 (((vI a) = (vI a)) ∧
 (((Go.Value.pointer (Option.some (Go.Addr.mk 1000 0 Option.none))) = (Go.Value.pointer (Option.some (Go.Addr.mk 1000 0 Option.none)))) ∧
 (((Go.Value.agg [(vI f), (vI g)].toArray) = (Go.Value.agg [(vI f), (vI g)].toArray)) ∧
 (((Go.Value.pointer (Option.some (Go.Addr.mk 1000 5 Option.none))) = (Go.Value.pointer (Option.some (Go.Addr.mk 1000 5 Option.none)))) ∧
 (((Go.Value.agg [(vI d), (vI e)].toArray) = (Go.Value.agg [(vI d), (vI e)].toArray)) ∧
 (((Go.Value.pointer (Option.some (Go.Addr.mk 1000 3 Option.none))) = (Go.Value.pointer (Option.some (Go.Addr.mk 1000 3 Option.none)))) ∧
 True))))))) ∧
 (∃ n2 : Int,
 ((Says C 37 [(D.sl 2 1 [(vI (9 : Int)), (vI r4)])] [(D.val (vI n2))]) ∧
 ((((vI a) = (vI a)) ∧
 (((Go.Value.pointer (Option.some (Go.Addr.mk 1000 0 Option.none))) = (Go.Value.pointer (Option.some (Go.Addr.mk 1000 0 Option.none)))) ∧
 (((Go.Value.agg [(vI f), (vI g)].toArray) = (Go.Value.agg [(vI f), (vI g)].toArray)) ∧
 (((Go.Value.pointer (Option.some (Go.Addr.mk 1000 5 Option.none))) = (Go.Value.pointer (Option.some (Go.Addr.mk 1000 5 Option.none)))) ∧
 (((Go.Value.agg [(vI d), (vI e)].toArray) = (Go.Value.agg [(vI d), (vI e)].toArray)) ∧
 (((Go.Value.pointer (Option.some (Go.Addr.mk 1000 3 Option.none))) = (Go.Value.pointer (Option.some (Go.Addr.mk 1000 3 Option.none)))) ∧
 True)))))) ∧
 (True ∧
 (k [(D.val (vI n2))])))))))))
 (((((Go.Value.slice (Option.some (Go.Addr.mk 1012 0 Option.none)) 1 1) = (Go.Value.slice (Option.some (Go.Addr.mk 1012 0 Option.none)) 1 1)) ∧
 ((Option.some (AObj.cells [(vI a)] 3 false 1)) = (Option.some (AObj.cells [(vI a)] 3 false 1)))) ∧
 (((vI a) = (vI a)) ∧
 (((Go.Value.pointer (Option.some (Go.Addr.mk 1000 0 Option.none))) = (Go.Value.pointer (Option.some (Go.Addr.mk 1000 0 Option.none)))) ∧
 (((Go.Value.agg [(vI a), (vI b), (vI c), (vI d), (vI e), (vI f), (vI g)].toArray) = (Go.Value.agg [(vI a), (vI b), (vI c), (vI d), (vI e), (vI f), (vI g)].toArray)) ∧
 (((Go.Value.agg [(vI f), (vI g)].toArray) = (Go.Value.agg [(vI f), (vI g)].toArray)) ∧
 (((Go.Value.pointer (Option.some (Go.Addr.mk 1000 5 Option.none))) = (Go.Value.pointer (Option.some (Go.Addr.mk 1000 5 Option.none)))) ∧
 (((Go.Value.agg [(vI d), (vI e)].toArray) = (Go.Value.agg [(vI d), (vI e)].toArray)) ∧
 (((Go.Value.pointer (Option.some (Go.Addr.mk 1000 3 Option.none))) = (Go.Value.pointer (Option.some (Go.Addr.mk 1000 3 Option.none)))) ∧
 True)))))))) ∧
 (∃ r4 : Int,
 ((Says witC 0 [(D.val (vI f)), (D.val (vI g)), (D.val (vI (22 : Int))), (D.sl 1 1 [(vI a)])] [(D.val (vI r4))]) ∧
 (((((Go.Value.slice (Option.some (Go.Addr.mk 1018 0 Option.none)) 2 2) = (Go.Value.slice (Option.some (Go.Addr.mk 1018 0 Option.none)) 2 2)) ∧
 ((Option.some (AObj.cells [(vI (0 : Int)), (vI r4)] 30 false 1)) = (Option.some (AObj.cells [(vI (0 : Int)), (vI r4)] 30 false 1)))) ∧
 (((vI a) = (vI a)) ∧
 (((Go.Value.pointer (Option.some (Go.Addr.mk 1000 0 Option.none))) = (Go.Value.pointer (Option.some (Go.Addr.mk 1000 0 Option.none)))) ∧
 (((Go.Value.agg [(vI f), (vI g)].toArray) = (Go.Value.agg [(vI f), (vI g)].toArray)) ∧
 (((Go.Value.pointer (Option.some (Go.Addr.mk 1000 5 Option.none))) = (Go.Value.pointer (Option.some (Go.Addr.mk 1000 5 Option.none)))) ∧
 (((Go.Value.agg [(vI d), (vI e)].toArray) = (Go.Value.agg [(vI d), (vI e)].toArray)) ∧
 (((Go.Value.pointer (Option.some (Go.Addr.mk 1000 3 Option.none))) = (Go.Value.pointer (Option.some (Go.Addr.mk 1000 3 Option.none)))) ∧
 True))))))) ∧
 (∃ n2 : Int,
 ((Says C 37 [(D.sl 2 1 [(vI (0 : Int)), (vI r4)])] [(D.val (vI n2))]) ∧
 ((((vI a) = (vI a)) ∧
 (((Go.Value.pointer (Option.some (Go.Addr.mk 1000 0 Option.none))) = (Go.Value.pointer (Option.some (Go.Addr.mk 1000 0 Option.none)))) ∧
 (((Go.Value.agg [(vI f), (vI g)].toArray) = (Go.Value.agg [(vI f), (vI g)].toArray)) ∧
 (((Go.Value.pointer (Option.some (Go.Addr.mk 1000 5 Option.none))) = (Go.Value.pointer (Option.some (Go.Addr.mk 1000 5 Option.none)))) ∧
 (((Go.Value.agg [(vI d), (vI e)].toArray) = (Go.Value.agg [(vI d), (vI e)].toArray)) ∧
 (((Go.Value.pointer (Option.some (Go.Addr.mk 1000 3 Option.none))) = (Go.Value.pointer (Option.some (Go.Addr.mk 1000 3 Option.none)))) ∧
 True)))))) ∧
 (True ∧
 (k [(D.val (vI n2))]))))))))))))))))))))))))))))))) := by kernel_rfl
def gLE (C : Ct) (L : AtLoop) (a b c d e f g : Int) (k : List D → Prop) : Prop := wpFn Try.prog (hB C) L 0 42 #[vL a b c d e f g] (heapOf []) (dataK k)
theorem gLE_text (C : Ct) (L : AtLoop) (a : Int) (b : Int) (c : Int) (d : Int) (e : Int) (f : Int) (g : Int) (k : List D → Prop) : gLE C L a b c d e f g k =
 (((Says C 26 [(D.val (vI a)), (D.val (vI (-(999 + 1) : Int))), (D.val (vI (1000 : Int)))] [(D.val (Value.bool true))]) ∧
 (((Says C 26 [(D.val (vI d)), (D.val (vI (-(999 + 1) : Int))), (D.val (vI (1000 : Int)))] [(D.val (Value.bool true))]) ∧
 (((Says C 26 [(D.val (vI e)), (D.val (vI (-(999 + 1) : Int))), (D.val (vI (1000 : Int)))] [(D.val (Value.bool true))]) ∧
 (((Says C 26 [(D.val (vI f)), (D.val (vI (-(999 + 1) : Int))), (D.val (vI (1000 : Int)))] [(D.val (Value.bool true))]) ∧
 (((Says C 26 [(D.val (vI g)), (D.val (vI (-(999 + 1) : Int))), (D.val (vI (1000 : Int)))] [(D.val (Value.bool true))]) ∧
 (((Says C 26 [(D.val (vI b)), (D.val (vI (0 : Int))), (D.val (vI (100 : Int)))] [(D.val (Value.bool true))]) ∧
 (((Says C 26 [(D.val (vI c)), (D.val (vI (1 : Int))), (D.val (vI (100 : Int)))] [(D.val (Value.bool true))]) ∧
 (bcase (decide (b > c))
 (k [(D.val (vI (3 : Int)))])
 (bcase (decide (d > e))
 (k [(D.val (vI (9 : Int)))])
 (bcase (decide (f > g))
 (k [(D.val (vI (9 : Int)))])
 (((Says C 26 [(D.val (vI a)), (D.val (vI f)), (D.val (vI g))] [(D.val (Value.bool true))]) ∧
 (k [(D.val (vI (0 : Int)))])) ∨
 ((Says C 26 [(D.val (vI a)), (D.val (vI f)), (D.val (vI g))] [(D.val (Value.bool false))]) ∧
 (k [(D.val (vI (22 : Int)))]))))))) ∨
 ((Says C 26 [(D.val (vI c)), (D.val (vI (1 : Int))), (D.val (vI (100 : Int)))] [(D.val (Value.bool false))]) ∧
 (k [(D.val (vI (2 : Int)))])))) ∨
 ((Says C 26 [(D.val (vI b)), (D.val (vI (0 : Int))), (D.val (vI (100 : Int)))] [(D.val (Value.bool false))]) ∧
 (k [(D.val (vI (2 : Int)))])))) ∨
 ((Says C 26 [(D.val (vI g)), (D.val (vI (-(999 + 1) : Int))), (D.val (vI (1000 : Int)))] [(D.val (Value.bool false))]) ∧
 (k [(D.val (vI (2 : Int)))])))) ∨
 ((Says C 26 [(D.val (vI f)), (D.val (vI (-(999 + 1) : Int))), (D.val (vI (1000 : Int)))] [(D.val (Value.bool false))]) ∧
 (k [(D.val (vI (2 : Int)))])))) ∨
 ((Says C 26 [(D.val (vI e)), (D.val (vI (-(999 + 1) : Int))), (D.val (vI (1000 : Int)))] [(D.val (Value.bool false))]) ∧
 (k [(D.val (vI (2 : Int)))])))) ∨
 ((Says C 26 [(D.val (vI d)), (D.val (vI (-(999 + 1) : Int))), (D.val (vI (1000 : Int)))] [(D.val (Value.bool false))]) ∧
 (k [(D.val (vI (2 : Int)))])))) ∨
 ((Says C 26 [(D.val (vI a)), (D.val (vI (-(999 + 1) : Int))), (D.val (vI (1000 : Int)))] [(D.val (Value.bool false))]) ∧
 (k [(D.val (vI (2 : Int)))]))) := by kernel_rfl
def gCA (C : Ct) (L : AtLoop) (n cap : Nat) (l : List Value) (i : Int) (m cap2 : Nat) (l2 : List Value) (k : List D → Prop) : Prop := wpFn Try.prog (hB C) L 0 67 #[S500 n cap, vI i, S501 m cap2] (heapOf [L500 l, Q501 l2]) (dataK k)
theorem gCA_text (C : Ct) (L : AtLoop) (n : Nat) (cap : Nat) (l : List Go.Value) (i : Int) (m : Nat) (cap2 : Nat) (l2 : List Go.Value) (k : List D → Prop) : gCA C L n cap l i m cap2 l2 k =
 (bcase (i == (↑n : Int))
 (k [(D.val (vI (0 : Int)))])
 (bcase (decide (0 ≤ i))
 (bcase (decide (i < (↑n : Int)))
 (∃ n1 : Int,
 ((At (l) (Go.Addr.off { block := 500, off := 0 + Int.toNat i * 7 } + 1) 1 [(vI n1)]) ∧
 (bcase (decide (0 ≤ i))
 (bcase (decide (i < (↑m : Int)))
 (∃ n2 : Int,
 ((At (l2) (0 + Int.toNat i * 1) 1 [(vI n2)]) ∧
 (bcase (decide (0 ≤ i))
 (bcase (decide (i < (↑n : Int)))
 (∃ n3 : Int,
 ((At (l) (0 + Int.toNat i * 7) 1 [(vI n3)]) ∧
 (bcase (decide (0 ≤ i))
 (bcase (decide (i < (↑n : Int)))
 (∃ n4 : Int,
 ((At (l) (Go.Addr.off { block := 500, off := 0 + Int.toNat i * 7 } + 2) 1 [(vI n4)]) ∧
 (bcase (n4 != 0)
 (((bcase (n4 != 0)
 ((vI (IntKind.wrap .i64 (Int.tdiv (IntKind.wrap .i64 (n1 * IntKind.wrap .i64 (n2 - n3))) n4))) = (vI (IntKind.wrap .i64 (Int.tdiv (IntKind.wrap .i64 (n1 * IntKind.wrap .i64 (n2 - n3))) n4))))
 False) ∧
 ((∃ n5 : Int,
 ((At (l) (Go.Addr.off { block := 500, off := 0 + Int.toNat i * 7 } + 2) 1 [(vI n5)]) ∧
 ((vI n5) = (vI n4)))) ∧
 (((Go.Value.pointer (Option.some (Go.Addr.mk 500 (Go.Addr.off { block := 500, off := 0 + Int.toNat i * 7 } + 2) Option.none))) = (Go.Value.pointer (Option.some (Go.Addr.mk 500 (Go.Addr.off { block := 500, off := 0 + Int.toNat i * 7 } + 2) Option.none)))) ∧
 ((bcase (decide (0 ≤ i))
 (bcase (decide (i < (↑n : Int)))
 ((Go.Value.pointer (Option.some (Go.Addr.mk 500 (0 + Int.toNat i * 7) Option.none))) = (Go.Value.pointer (Option.some (Go.Addr.mk 500 (0 + Int.toNat i * 7) Option.none))))
 False)
 False) ∧
 (((vI i) = (vI i)) ∧
 (((Go.Value.slice (Option.some (Go.Addr.mk 500 0 Option.none)) (n) (cap)) = (Go.Value.slice (Option.some (Go.Addr.mk 500 0 Option.none)) (n) (cap))) ∧
 (((vI (IntKind.wrap .i64 (n1 * IntKind.wrap .i64 (n2 - n3)))) = (vI (IntKind.wrap .i64 (n1 * IntKind.wrap .i64 (n2 - n3))))) ∧
 (((vI (IntKind.wrap .i64 (n2 - n3))) = (vI (IntKind.wrap .i64 (n2 - n3)))) ∧
 ((∃ n5 : Int,
 ((At (l) (0 + Int.toNat i * 7) 1 [(vI n5)]) ∧
 ((vI n5) = (vI n3)))) ∧
 (((Go.Value.pointer (Option.some (Go.Addr.mk 500 (0 + Int.toNat i * 7) Option.none))) = (Go.Value.pointer (Option.some (Go.Addr.mk 500 (0 + Int.toNat i * 7) Option.none)))) ∧
 ((bcase (decide (0 ≤ i))
 (bcase (decide (i < (↑n : Int)))
 ((Go.Value.pointer (Option.some (Go.Addr.mk 500 (0 + Int.toNat i * 7) Option.none))) = (Go.Value.pointer (Option.some (Go.Addr.mk 500 (0 + Int.toNat i * 7) Option.none))))
 False)
 False) ∧
 (((vI i) = (vI i)) ∧
 (((Go.Value.slice (Option.some (Go.Addr.mk 500 0 Option.none)) (n) (cap)) = (Go.Value.slice (Option.some (Go.Addr.mk 500 0 Option.none)) (n) (cap))) ∧
 ((∃ n5 : Int,
 ((At (l2) (0 + Int.toNat i * 1) 1 [(vI n5)]) ∧
 ((vI n5) = (vI n2)))) ∧
 ((bcase (decide (0 ≤ i))
 (bcase (decide (i < (↑m : Int)))
 ((Go.Value.pointer (Option.some (Go.Addr.mk 501 (0 + Int.toNat i * 1) Option.none))) = (Go.Value.pointer (Option.some (Go.Addr.mk 501 (0 + Int.toNat i * 1) Option.none))))
 False)
 False) ∧
 (((vI i) = (vI i)) ∧
 (((Go.Value.slice (Option.some (Go.Addr.mk 501 0 Option.none)) (m) (cap2)) = (Go.Value.slice (Option.some (Go.Addr.mk 501 0 Option.none)) (m) (cap2))) ∧
 ((∃ n5 : Int,
 ((At (l) (Go.Addr.off { block := 500, off := 0 + Int.toNat i * 7 } + 1) 1 [(vI n5)]) ∧
 ((vI n5) = (vI n1)))) ∧
 (((Go.Value.pointer (Option.some (Go.Addr.mk 500 (Go.Addr.off { block := 500, off := 0 + Int.toNat i * 7 } + 1) Option.none))) = (Go.Value.pointer (Option.some (Go.Addr.mk 500 (Go.Addr.off { block := 500, off := 0 + Int.toNat i * 7 } + 1) Option.none)))) ∧
 ((bcase (decide (0 ≤ i))
 (bcase (decide (i < (↑n : Int)))
 ((Go.Value.pointer (Option.some (Go.Addr.mk 500 (0 + Int.toNat i * 7) Option.none))) = (Go.Value.pointer (Option.some (Go.Addr.mk 500 (0 + Int.toNat i * 7) Option.none))))
 False)
 False) ∧
 (((vI i) = (vI i)) ∧
 (((Go.Value.slice (Option.some (Go.Addr.mk 500 0 Option.none)) (n) (cap)) = (Go.Value.slice (Option.some (Go.Addr.mk 500 0 Option.none)) (n) (cap))) ∧
 True)))))))))))))))))))))) ∧
 (True ∧
 (k [(D.val (vI (IntKind.wrap .i64 (Int.tdiv (IntKind.wrap .i64 (n1 * IntKind.wrap .i64 (n2 - n3))) n4))))])))
 False)))
 False)
 False)))
 False)
 False)))
 False)
 False)))
 False)
 False)) := by kernel_rfl
def gCC9 (C : Ct) (L : AtLoop) (n cap : Nat) (l : List Value) (k : List D → Prop) : Prop := wpFn Try.prog (hB C) L 0 9 #[.agg #[S500 n cap]] (heapOf [L500 l]) (dataK k)
theorem gCC9_text (C : Ct) (L : AtLoop) (n : Nat) (cap : Nat) (l : List Go.Value) (k : List D → Prop) : gCC9 C L n cap l k =
 (∃ n1 : Int,
 ((Says C 34 [(D.val (vI ((↑n : Int)))), (D.val (vI (5 : Int)))] [(D.val (vI n1))]) ∧
 (bcase (n1 != 0)
 (k [(D.val (vI (0 : Int))), (D.val (vI n1))])
 (L 0 [(Prod.mk 16 (Go.Value.slice (Option.some (Go.Addr.mk 500 0 Option.none)) (n) (cap))), (Prod.mk 17 (vI ((↑n : Int)))), (Prod.mk 18 (vI (0 : Int)))] [(Prod.mk 500 (AObj.sym (l) false 7))])))) := by kernel_rfl
def gRC9 (C : Ct) (L : AtLoop) (n cap : Nat) (l : List Value) (k : List D → Prop) : Prop := wpFn Try.prog (hB C) L 0 13 #[.agg #[S500 n cap]] (heapOf [L500 l]) (dataK k)
theorem gRC9_text (C : Ct) (L : AtLoop) (n : Nat) (cap : Nat) (l : List Go.Value) (k : List D → Prop) : gRC9 C L n cap l k =
 (bcase ((↑n : Int) == 0)
 (k [(D.val (vI (0 : Int))), (D.val (vI (10 : Int)))])
 (bcase (decide ((↑n : Int) > 5))
 (k [(D.val (vI (0 : Int))), (D.val (vI (8 : Int)))])
 (L 0 [(Prod.mk 1 (Go.Value.pointer (Option.some (Go.Addr.mk 1000 0 Option.none)))), (Prod.mk 4 (vI (0 : Int)))] [(Prod.mk 1000 (AObj.cells [(Go.Value.slice (Option.some (Go.Addr.mk 500 0 Option.none)) (n) (cap))] 24 false 1)), (Prod.mk 500 (AObj.sym (l) false 7))]))) := by kernel_rfl
def sC9 (n cap : Nat) (i : Int) : Slots := [(16, S500 n cap), (17, .int .i64 n), (18, vI i)]
def rC9 (C : Ct) (L : AtLoop) (n cap : Nat) (l : List Value) (i : Int) (B : Bx) (X : Xx) (k : List D → Prop) : Prop := wpRound Try.prog (hB C) L 9 0 (sC9 n cap i) [L500 l] B X (dataK k)
theorem rC9_text (C : Ct) (L : AtLoop) (n : Nat) (cap : Nat) (l : List Go.Value) (i : Int) (B : Bx) (X : Xx) (k : List D → Prop) : rC9 C L n cap l i B X k =
 (bcase (decide (i < (↑n : Int)))
 (bcase (decide (0 ≤ i))
 (bcase (decide (i < (↑n : Int)))
 (∃ n1 : Int,
 (∃ n2 : Int,
 (∃ n3 : Int,
 (∃ n4 : Int,
 (∃ n5 : Int,
 (∃ n6 : Int,
 (∃ n7 : Int,
 ((At (l) (0 + Int.toNat i * 7) 7 [(vI n1), (vI n2), (vI n3), (vI n4), (vI n5), (vI n6), (vI n7)]) ∧
 (∃ n8 : Int,
 ((Says C 35 [(D.agg [(D.val (vI n1)), (D.val (vI n2)), (D.val (vI n3)), (D.val (vI n4)), (D.val (vI n5)), (D.val (vI n6)), (D.val (vI n7))])] [(D.val (vI n8))]) ∧
 (bcase (n8 != 0)
 (k [(D.val (vI i)), (D.val (vI n8))])
 (B [(Prod.mk 16 (Go.Value.slice (Option.some (Go.Addr.mk 500 0 Option.none)) (n) (cap))), (Prod.mk 17 (vI ((↑n : Int)))), (Prod.mk 18 (vI (IntKind.wrap .i64 (i + 1))))] [(Prod.mk 500 (AObj.sym (l) false 7))]))))))))))))
 False)
 False)
 (X 0 [] [])) := by kernel_rfl
def nC9 (C : Ct) (L : AtLoop) (k : List D → Prop) : Prop := wpNext Try.prog (hB C) L 9 0 .normal [] [] (dataK k)
theorem nC9_text (C : Ct) (L : AtLoop) (k : List D → Prop) : nC9 C L k =
 (k [(D.val (vI (0 : Int))), (D.val (vI (0 : Int)))]) := by kernel_rfl
abbrev oCh (i : Nat) (n cap : Nat) : Nat × AObj := (i, .cells [S500 n cap] 24 false 1)
def sR9 (i : Int) : Slots := [(1, P1 1000 0), (4, vI i)]
def rR9 (C : Ct) (L : AtLoop) (n cap : Nat) (l : List Value) (i : Int) (B : Bx) (X : Xx) (k : List D → Prop) : Prop := wpRound Try.prog (hB C) L 13 0 (sR9 i) [oCh 1000 n cap, L500 l] B X (dataK k)
theorem rR9_text (C : Ct) (L : AtLoop) (n : Nat) (cap : Nat) (l : List Go.Value) (i : Int) (B : Bx) (X : Xx) (k : List D → Prop) : rR9 C L n cap l i B X k =
 (bcase (decide (i < (↑n : Int)))
 (bcase (decide (0 ≤ i))
 (bcase (decide (i < (↑n : Int)))
 (∃ n1 : Int,
 (∃ n2 : Int,
 (∃ n3 : Int,
 (∃ n4 : Int,
 (∃ n5 : Int,
 (∃ n6 : Int,
 (∃ n7 : Int,
 ((At (l) (0 + Int.toNat i * 7) 7 [(vI n1), (vI n2), (vI n3), (vI n4), (vI n5), (vI n6), (vI n7)]) ∧
 (∃ n8 : Int,
 ((Says C 42 [(D.agg [(D.val (vI n1)), (D.val (vI n2)), (D.val (vI n3)), (D.val (vI n4)), (D.val (vI n5)), (D.val (vI n6)), (D.val (vI n7))])] [(D.val (vI n8))]) ∧
 (bcase (n8 != 0)
 (k [(D.val (vI i)), (D.val (vI n8))])
 (B [(Prod.mk 1 (Go.Value.pointer (Option.some (Go.Addr.mk 1000 0 Option.none)))), (Prod.mk 4 (vI (IntKind.wrap .i64 (i + 1))))] [(Prod.mk 1000 (AObj.cells [(Go.Value.slice (Option.some (Go.Addr.mk 500 0 Option.none)) (n) (cap))] 24 false 1)), (Prod.mk 500 (AObj.sym (l) false 7))]))))))))))))
 False)
 False)
 (X 0 [] [])) := by kernel_rfl
def nR9 (C : Ct) (L : AtLoop) (k : List D → Prop) : Prop := wpNext Try.prog (hB C) L 13 0 .normal [] [] (dataK k)
theorem nR9_text (C : Ct) (L : AtLoop) (k : List D → Prop) : nR9 C L k =
 (k [(D.val (vI (0 : Int))), (D.val (vI (0 : Int)))]) := by kernel_rfl
abbrev Q502 (l : List Value) : Nat × AObj := (502, .sym l false 1)
def gAe (C : Ct) (L : AtLoop) (n cap : Nat) (l : List Value) (m cap2 : Nat) (l2 : List Value) (o cap3 : Nat) (l3 : List Value) (k : List D → Prop) : Prop := wpFn Try.prog (hB C) L 0 41 #[S500 n cap, .agg #[S501 m cap2, S502 o cap3]] (heapOf [L500 l, Q501 l2, Q502 l3]) (dataK k)
theorem gAe_text (C : Ct) (L : AtLoop) (n : Nat) (cap : Nat) (l : List Go.Value) (m : Nat) (cap2 : Nat) (l2 : List Go.Value) (o : Nat) (cap3 : Nat) (l3 : List Go.Value) (k : List D → Prop) : gAe C L n cap l m cap2 l2 o cap3 l3 k =
 (L 0 [(Prod.mk 0 (Go.Value.slice (Option.some (Go.Addr.mk 500 0 Option.none)) (n) (cap))), (Prod.mk 3 (Go.Value.pointer (Option.some (Go.Addr.mk 1000 0 Option.none)))), (Prod.mk 5 (Go.Value.slice Option.none 0 0)), (Prod.mk 9 (Go.Value.slice (Option.some (Go.Addr.mk 501 0 Option.none)) (m) (cap2))), (Prod.mk 10 (vI ((↑m : Int)))), (Prod.mk 11 (vI (0 : Int)))] [(Prod.mk 500 (AObj.sym (l) false 7)), (Prod.mk 1000 (AObj.cells [(Go.Value.slice (Option.some (Go.Addr.mk 501 0 Option.none)) (m) (cap2)), (Go.Value.slice (Option.some (Go.Addr.mk 502 0 Option.none)) (o) (cap3))] 27 false 1)), (Prod.mk 501 (AObj.sym (l2) false 1)), (Prod.mk 502 (AObj.sym (l3) false 1))]) := by kernel_rfl
def gSt (C : Ct) (L : AtLoop) (n cap : Nat) (l : List Value) (m cap2 : Nat) (l2 : List Value) (o cap3 : Nat) (l3 : List Value) (k : List D → Prop) : Prop := wpFn Try.prog (hB C) L 0 11 #[.agg #[S500 n cap], .agg #[S501 m cap2, S502 o cap3]] (heapOf [L500 l, Q501 l2, Q502 l3]) (dataK k)
theorem gSt_text (C : Ct) (L : AtLoop) (n : Nat) (cap : Nat) (l : List Go.Value) (m : Nat) (cap2 : Nat) (l2 : List Go.Value) (o : Nat) (cap3 : Nat) (l3 : List Go.Value) (k : List D → Prop) : gSt C L n cap l m cap2 l2 o cap3 l3 k =
 (bcase (decide (0 + n * 7 ≤ List.length l))
 (∃ n1 : Int,
 (∃ n2 : Int,
 ((Says C 9 [(D.agg [(D.sl (n) 7 (List.take (n * 7) (List.drop 0 l)))])] [(D.val (vI n1)), (D.val (vI n2))]) ∧
 (bcase (n2 != 0)
 (∃ n3 : Int,
 ((Says C 38 [(D.val (vI (0 : Int))), (D.sl 2 1 [(vI ((↑m : Int))), (vI ((↑o : Int)))])] [(D.val (vI n3))]) ∧
 (∃ n4 : Int,
 ((Says C 37 [(D.sl 2 1 [(vI n2), (vI n3)])] [(D.val (vI n4))]) ∧
 (bcase (n4 != 0)
 (k [D.nil, (D.val (vI n4))])
 (L 0 [(Prod.mk 3 (Go.Value.pointer (Option.some (Go.Addr.mk 1000 0 Option.none)))), (Prod.mk 6 (Go.Value.slice Option.none 0 0)), (Prod.mk 33 (Go.Value.slice Option.none 0 0)), (Prod.mk 34 (vI (0 : Int))), (Prod.mk 35 (vI (0 : Int)))] [(Prod.mk 1000 (AObj.cells [(Go.Value.slice (Option.some (Go.Addr.mk 501 0 Option.none)) (m) (cap2)), (Go.Value.slice (Option.some (Go.Addr.mk 502 0 Option.none)) (o) (cap3))] 27 false 1)), (Prod.mk 501 (AObj.sym (l2) false 1)), (Prod.mk 502 (AObj.sym (l3) false 1))]))))))
 (∃ n3 : Int,
 ((Says C 38 [(D.val (vI ((↑n : Int)))), (D.sl 2 1 [(vI ((↑m : Int))), (vI ((↑o : Int)))])] [(D.val (vI n3))]) ∧
 (∃ n4 : Int,
 ((Says C 37 [(D.sl 2 1 [(vI (0 : Int)), (vI n3)])] [(D.val (vI n4))]) ∧
 (bcase (n4 != 0)
 (k [D.nil, (D.val (vI n4))])
 (L 0 [(Prod.mk 3 (Go.Value.pointer (Option.some (Go.Addr.mk 1000 0 Option.none)))), (Prod.mk 6 (Go.Value.slice (Option.some (Go.Addr.mk 500 0 Option.none)) (n) (cap))), (Prod.mk 33 (Go.Value.slice (Option.some (Go.Addr.mk 500 0 Option.none)) (n) (cap))), (Prod.mk 34 (vI ((↑n : Int)))), (Prod.mk 35 (vI (0 : Int)))] [(Prod.mk 1000 (AObj.cells [(Go.Value.slice (Option.some (Go.Addr.mk 501 0 Option.none)) (m) (cap2)), (Go.Value.slice (Option.some (Go.Addr.mk 502 0 Option.none)) (o) (cap3))] 27 false 1)), (Prod.mk 500 (AObj.sym (l) false 7)), (Prod.mk 501 (AObj.sym (l2) false 1)), (Prod.mk 502 (AObj.sym (l3) false 1))]))))))))))
 False) := by kernel_rfl
end Go.Proofs.G5b

/- Chapter 5: loopers and chains, in data. -/
namespace Go.Proofs.G5b
open Go Go.Abs Go.Proofs Go.Proofs.G5
set_option maxRecDepth 100000
theorem preBOK : PreOK Try.prog (preB C5) := by
  intro g h he args ats H k hk
  unfold preB at he
  split at he
  · rename_i e
    obtain rfl := Option.some.inj he
    rw [beq_iff_eq] at e
    subst e
    exact wpState_call (fun args bs K hk => wit_ok hk) hk
  · split at he
    · obtain rfl := Option.some.inj he
      exact fixH_ok (fun _ _ _ h => h) _ _ _ _ _ hk
    · split at he
      · obtain rfl := Option.some.inj he
        exact fixH_ok (fun _ _ _ h => h) _ _ _ _ _ hk
      · split at he
        · obtain rfl := Option.some.inj he
          exact saidH_ok (fun _ _ _ h => h) _ _ _ _ _ hk
        · cases he
theorem hokB : HandlerOK Try.prog (hB C5) := handlerX_ok mixed preBOK (by decide) 6
abbrev dS (p : Sv) : D := .agg [dI p.a, dI p.b, dI p.c, dI p.d, dI p.e, dI p.f, dI p.g]
theorem conCL (p : Sv) : C5 35 [dS p] [dI (lpE p)] := by
  refine con_flat hokB mixed Try.func35 rfl (by show 0 ≤ 400; omega) rfl (by kernel_rfl) (fun caps => ?_)
  show gCL _ _ p.a p.b p.c p.d p.e p.f p.g _
  rw [gCL_text]
  try simp only [eq_self, true_and, and_true]
  refine ⟨witE (-1000) 1000 2 [vI p.a, vI p.d, vI p.e, vI p.f, vI p.g], ⟨rfl⟩, _, wit_rng, _, wit_rng, ?_⟩
  refine ⟨_, ⟨conFE [witE (-1000) 1000 2 [vI p.a, vI p.d, vI p.e, vI p.f, vI p.g], rngE 0 100 2 p.b, rngE 1 100 2 p.c] (by simp)⟩, ?_⟩
  by_cases hin : (hgt p.a ∧ hgt p.d ∧ hgt p.e ∧ hgt p.f ∧ hgt p.g) ∧ (0 ≤ p.b ∧ p.b ≤ 100) ∧ (1 ≤ p.c ∧ p.c ≤ 100)
  · have hf : fst0 [witE (-1000) 1000 2 [vI p.a, vI p.d, vI p.e, vI p.f, vI p.g], rngE 0 100 2 p.b, rngE 1 100 2 p.c] = 0 := by
      simp only [fst0, witE, rngE]
      repeat' split
      all_goals first | rfl | omega
    have hl : lpE p = if p.b > p.c then 3 else if p.d > p.e ∨ p.f > p.g then 9 else if p.f ≤ p.a ∧ p.a ≤ p.g then 0 else 22 := if_pos hin
    rw [hf, hl]
    refine bc_bne (fun h => absurd rfl h) (fun _ => bc_dec (fun h1 => ?_) (fun h1 => ?_))
    · rw [if_pos h1]
    · rw [if_neg h1]
      refine bc_dec (fun h2 => ?_) (fun h2 => ?_)
      · refine ⟨_, wit_rng, _, ⟨conFE [9, rngE p.f p.g 22 p.a] (by simp)⟩, ?_⟩
        rw [if_pos (.inl h2)]; rfl
      · refine bc_dec (fun h3 => ?_) (fun h3 => ?_)
        · refine ⟨_, wit_rng, _, ⟨conFE [9, rngE p.f p.g 22 p.a] (by simp)⟩, ?_⟩
          rw [if_pos (.inr h3)]; rfl
        · refine ⟨_, wit_rng, _, ⟨conFE [0, rngE p.f p.g 22 p.a] (by simp)⟩, ?_⟩
          rw [if_neg (fun h => h.elim h2 h3), fst0_two, if_pos rfl]; rfl
  · have hf : fst0 [witE (-1000) 1000 2 [vI p.a, vI p.d, vI p.e, vI p.f, vI p.g], rngE 0 100 2 p.b, rngE 1 100 2 p.c] = 2 := by
      simp only [fst0, witE, rngE]
      repeat' split
      all_goals first | rfl | omega
    have hl : lpE p = 2 := if_neg hin
    rw [hf, hl]
    exact bc_bne (fun _ => rfl) (fun h => absurd h (by decide))
theorem conLE (p : Sv) : C5 42 [dS p] [dI (lpE p)] := by
  refine con_flat hokB mixed Try.func42 rfl (by show 0 ≤ 400; omega) rfl (by kernel_rfl) (fun caps => ?_)
  show gLE _ _ p.a p.b p.c p.d p.e p.f p.g _
  rw [gLE_text]
  try simp only [eq_self, true_and, and_true]
  have bad : ¬ ((hgt p.a ∧ hgt p.d ∧ hgt p.e ∧ hgt p.f ∧ hgt p.g) ∧ (0 ≤ p.b ∧ p.b ≤ 100) ∧ (1 ≤ p.c ∧ p.c ≤ 100)) → [dI 2] = [dI (lpE p)] := fun h => by rw [lpE, if_neg h]
  by_cases h1 : (-1000 : Int) ≤ p.a ∧ p.a ≤ 1000
  · refine .inl ⟨sayWt h1, ?_⟩
    by_cases h2 : (-1000 : Int) ≤ p.d ∧ p.d ≤ 1000
    · refine .inl ⟨sayWt h2, ?_⟩
      by_cases h3 : (-1000 : Int) ≤ p.e ∧ p.e ≤ 1000
      · refine .inl ⟨sayWt h3, ?_⟩
        by_cases h4 : (-1000 : Int) ≤ p.f ∧ p.f ≤ 1000
        · refine .inl ⟨sayWt h4, ?_⟩
          by_cases h5 : (-1000 : Int) ≤ p.g ∧ p.g ≤ 1000
          · refine .inl ⟨sayWt h5, ?_⟩
            by_cases h6 : (0 : Int) ≤ p.b ∧ p.b ≤ 100
            · refine .inl ⟨sayWt h6, ?_⟩
              by_cases h7 : (1 : Int) ≤ p.c ∧ p.c ≤ 100
              · refine .inl ⟨sayWt h7, ?_⟩
                have hl : lpE p = if p.b > p.c then 3 else if p.d > p.e ∨ p.f > p.g then 9 else if p.f ≤ p.a ∧ p.a ≤ p.g then 0 else 22 := if_pos ⟨⟨h1, h2, h3, h4, h5⟩, h6, h7⟩
                rw [hl]
                refine bc_dec (fun q1 => ?_) (fun q1 => ?_)
                · rw [if_pos q1]
                · rw [if_neg q1]
                  refine bc_dec (fun q2 => ?_) (fun q2 => ?_)
                  · rw [if_pos (.inl q2)]
                  · refine bc_dec (fun q3 => ?_) (fun q3 => ?_)
                    · rw [if_pos (.inr q3)]
                    · rw [if_neg (fun h => h.elim q2 q3)]
                      by_cases q4 : p.f ≤ p.a ∧ p.a ≤ p.g
                      · exact .inl ⟨sayWt q4, by rw [if_pos q4]⟩
                      · exact .inr ⟨sayWf q4, by rw [if_neg q4]⟩
              · exact .inr ⟨sayWf h7, bad (fun h => h7 h.2.2)⟩
            · exact .inr ⟨sayWf h6, bad (fun h => h6 h.2.1)⟩
          · exact .inr ⟨sayWf h5, bad (fun h => h5 h.1.2.2.2.2)⟩
        · exact .inr ⟨sayWf h4, bad (fun h => h4 h.1.2.2.2.1)⟩
      · exact .inr ⟨sayWf h3, bad (fun h => h3 h.1.2.2.1)⟩
    · exact .inr ⟨sayWf h2, bad (fun h => h2 h.1.2.1)⟩
  · exact .inr ⟨sayWf h1, bad (fun h => h1 h.1.1)⟩
theorem conC9 (l : List Sv) (hlen : l.length < 1000000) : C5 9 [.agg [.sl l.length 7 (vs7 l)]] [dI (chE l).1, dI (chE l).2] := by
  let inv : Nat × Nat → Prop := fun y => y.1 ≤ l.length ∧ chE l = lpGo y.1 (l.drop y.1)
  let st : Nat × Nat → Slots × Blocks := fun y => (sC9 l.length y.2 y.1, [L500 (vs7 l)])
  refine con_of (L := fun _ s b => ∃ x, inv x ∧ st x = (s, b)) hokB mixed Try.func9 rfl (by show 1 ≤ 400; omega) rfl (ids := [0]) (by kernel_rfl) rfl (fun caps => ?_) (fun id hid => ?_)
  · show gCC9 _ _ l.length (caps 500) (vs7 l) _
    rw [gCC9_text]
    try simp only [eq_self, true_and, and_true]
    refine ⟨_, ⟨conCC _ _⟩, ?_⟩
    by_cases h0 : l.length = 0
    · rw [if_pos (by omega)]
      refine bc_bne (fun _ => ?_) (fun h => absurd h (by decide))
      rw [chE, if_pos h0]
    · rw [if_neg (by omega)]
      by_cases h5 : l.length > 5
      · rw [if_pos (by omega)]
        refine bc_bne (fun _ => ?_) (fun h => absurd h (by decide))
        rw [chE, if_neg h0, if_pos h5]
      · rw [if_neg (by omega)]
        refine bc_bne (fun h => absurd rfl h) (fun _ => ?_)
        exact ⟨(0, caps 500), ⟨Nat.zero_le _, by rw [chE, if_neg h0, if_neg h5]; rfl⟩, rfl⟩
  · obtain rfl := List.mem_singleton.1 hid
    refine ⟨Nat × Nat, st, inv, fun y => l.length - y.1, ⟨fun s b h => h, by kernel_rfl, ?_⟩⟩
    rintro ⟨i, cap⟩ ⟨hi, hr⟩
    simp only at hi hr
    show rC9 _ _ l.length cap (vs7 l) (i : Int) _ _ _
    rw [rC9_text]
    refine bc_dec (fun h => ?_) (fun h => ?_)
    · have h1 : i < l.length := by omega
      rw [List.drop_eq_getElem_cons h1, lpGo] at hr
      simp only [bc_t h, bc_t (show (0 : Int) ≤ (i : Int) by omega), Int.toNat_natCast, at7 (vs7_all l i h1), eq_self, true_and]
      refine ⟨_, ⟨conCL l[i]⟩, ?_⟩
      refine bc_bne (fun hc => ?_) (fun hc => ?_)
      · rw [if_pos hc] at hr
        show _ = _
        rw [hr]
      · rw [if_neg (fun x => x hc)] at hr
        refine ⟨(i + 1, cap), ⟨h1, hr⟩, by show l.length - (i + 1) < l.length - i; omega, ?_⟩
        rw [w64 (by omega) (by omega)]; rfl
    · show (if 0 = 0 then _ else _)
      rw [if_pos rfl]
      show nC9 _ _ _
      rw [nC9_text]
      have : i = l.length := by omega
      rw [this, List.drop_length] at hr
      show _ = _
      rw [hr]; rfl
theorem conR9 (l : List Sv) (hlen : l.length < 1000000) : C5 13 [.agg [.sl l.length 7 (vs7 l)]] [dI (chE l).1, dI (chE l).2] := by
  let inv : Nat × Nat → Prop := fun y => y.1 ≤ l.length ∧ chE l = lpGo y.1 (l.drop y.1)
  let st : Nat × Nat → Slots × Blocks := fun y => (sR9 y.1, [oCh 1000 l.length y.2, L500 (vs7 l)])
  refine con_of (L := fun _ s b => ∃ x, inv x ∧ st x = (s, b)) hokB mixed Try.func13 rfl (by show 1 ≤ 400; omega) rfl (ids := [0]) (by kernel_rfl) rfl (fun caps => ?_) (fun id hid => ?_)
  · show gRC9 _ _ l.length (caps 500) (vs7 l) _
    rw [gRC9_text]
    try simp only [eq_self, true_and, and_true]
    refine bc_beq (fun h0 => ?_) (fun h0 => ?_)
    · rw [chE, if_pos (by omega)]
    · refine bc_dec (fun h5 => ?_) (fun h5 => ?_)
      · rw [chE, if_neg (by omega), if_pos (by omega)]
      · exact ⟨(0, caps 500), ⟨Nat.zero_le _, by rw [chE, if_neg (by omega), if_neg (by omega)]; rfl⟩, rfl⟩
  · obtain rfl := List.mem_singleton.1 hid
    refine ⟨Nat × Nat, st, inv, fun y => l.length - y.1, ⟨fun s b h => h, by kernel_rfl, ?_⟩⟩
    rintro ⟨i, cap⟩ ⟨hi, hr⟩
    simp only at hi hr
    show rR9 _ _ l.length cap (vs7 l) (i : Int) _ _ _
    rw [rR9_text]
    refine bc_dec (fun h => ?_) (fun h => ?_)
    · have h1 : i < l.length := by omega
      rw [List.drop_eq_getElem_cons h1, lpGo] at hr
      simp only [bc_t h, bc_t (show (0 : Int) ≤ (i : Int) by omega), Int.toNat_natCast, at7 (vs7_all l i h1), eq_self, true_and]
      refine ⟨_, ⟨conLE l[i]⟩, ?_⟩
      refine bc_bne (fun hc => ?_) (fun hc => ?_)
      · rw [if_pos hc] at hr
        show _ = _
        rw [hr]
      · rw [if_neg (fun x => x hc)] at hr
        refine ⟨(i + 1, cap), ⟨h1, hr⟩, by show l.length - (i + 1) < l.length - i; omega, ?_⟩
        rw [w64 (by omega) (by omega)]; rfl
    · show (if 0 = 0 then _ else _)
      rw [if_pos rfl]
      show nR9 _ _ _
      rw [nR9_text]
      have : i = l.length := by omega
      rw [this, List.drop_length] at hr
      show _ = _
      rw [hr]; rfl
end Go.Proofs.G5b

/- What is left to show of each function, written out; the kernel reckons it. -/
namespace Go.Proofs.G5b
open Go Go.Abs Go.Proofs
set_option maxRecDepth 100000
set_option linter.unusedVariables false
end Go.Proofs.G5b

/- What is left to show of each function, written out; the kernel reckons it. -/
namespace Go.Proofs.G5b
open Go Go.Abs Go.Proofs
set_option maxRecDepth 100000
set_option linter.unusedVariables false
abbrev oMv (i m cap2 o cap3 : Nat) : Nat × AObj := (i, .cells [S501 m cap2, S502 o cap3] 27 false 1)
abbrev nilS : Value := .slice none 0 0
abbrev S1001 (n : Nat) : Value := .slice (some ⟨1001, 0, none⟩) n n
abbrev Q1001 (l : List Value) : Nat × AObj := (1001, .sym l true 1)
def sAe (n cap m cap2 : Nat) (out : Value) (i : Int) : Slots := [(0, S500 n cap), (3, P1 1000 0), (5, out), (9, S501 m cap2), (10, vI m), (11, vI i)]
def rAe0 (C : Ct) (L : AtLoop) (n cap : Nat) (l : List Value) (m cap2 : Nat) (l2 : List Value) (o cap3 : Nat) (l3 : List Value) (i : Int) (B : Bx) (X : Xx) (k : List D → Prop) : Prop := wpRound Try.prog (hB C) L 41 0 (sAe n cap m cap2 nilS i) [L500 l, oMv 1000 m cap2 o cap3, Q501 l2, Q502 l3] B X (dataK k)
theorem rAe0_text (C : Ct) (L : AtLoop) (n : Nat) (cap : Nat) (l : List Go.Value) (m : Nat) (cap2 : Nat) (l2 : List Go.Value) (o : Nat) (cap3 : Nat) (l3 : List Go.Value) (i : Int) (B : Bx) (X : Xx) (k : List D → Prop) : rAe0 C L n cap l m cap2 l2 o cap3 l3 i B X k =
 (bcase (decide (i < (↑m : Int)))
 (bcase (decide (0 ≤ i))
 (bcase (decide (i < (↑m : Int)))
 (∃ n1 : Int,
 ((At (l2) (0 + Int.toNat i * 1) 1 [(vI n1)]) ∧
 (bcase (decide (0 ≤ i))
 (bcase (decide (i < (↑o : Int)))
 (∃ n2 : Int,
 ((At (l3) (0 + Int.toNat i * 1) 1 [(vI n2)]) ∧
 (((∃ n3 : Int,
 ((At (l3) (0 + Int.toNat i * 1) 1 [(vI n3)]) ∧
 ((vI n3) = (vI n2)))) ∧
 ((bcase (decide (0 ≤ i))
 (bcase (decide (i < (↑o : Int)))
 ((Go.Value.pointer (Option.some (Go.Addr.mk 502 (0 + Int.toNat i * 1) Option.none))) = (Go.Value.pointer (Option.some (Go.Addr.mk 502 (0 + Int.toNat i * 1) Option.none))))
 False)
 False) ∧
 (((vI i) = (vI i)) ∧
 (((Go.Value.slice (Option.some (Go.Addr.mk 502 0 Option.none)) (o) (cap3)) = (Go.Value.slice (Option.some (Go.Addr.mk 502 0 Option.none)) (o) (cap3))) ∧
 (((Go.Value.pointer (Option.some (Go.Addr.mk 1000 1 Option.none))) = (Go.Value.pointer (Option.some (Go.Addr.mk 1000 1 Option.none)))) ∧
 (((Go.Value.slice (Option.some (Go.Addr.mk 501 0 Option.none)) (m) (cap2)) = (Go.Value.slice (Option.some (Go.Addr.mk 501 0 Option.none)) (m) (cap2))) ∧
 (((Go.Value.pointer (Option.some (Go.Addr.mk 1000 0 Option.none))) = (Go.Value.pointer (Option.some (Go.Addr.mk 1000 0 Option.none)))) ∧
 (((vI (IntKind.wrap .i64 (i + 1))) = (vI (IntKind.wrap .i64 (i + 1)))) ∧
 (((vI i) = (vI i)) ∧
 (((Go.Value.slice (Option.some (Go.Addr.mk 500 0 Option.none)) (n) (cap)) = (Go.Value.slice (Option.some (Go.Addr.mk 500 0 Option.none)) (n) (cap))) ∧
 (((Go.Value.slice (Option.some (Go.Addr.mk 501 0 Option.none)) (m) (cap2)) = (Go.Value.slice (Option.some (Go.Addr.mk 501 0 Option.none)) (m) (cap2))) ∧
 (((Go.Value.pointer (Option.some (Go.Addr.mk 1000 0 Option.none))) = (Go.Value.pointer (Option.some (Go.Addr.mk 1000 0 Option.none)))) ∧
 (((vI i) = (vI i)) ∧
 (((Go.Value.slice (Option.some (Go.Addr.mk 500 0 Option.none)) (n) (cap)) = (Go.Value.slice (Option.some (Go.Addr.mk 500 0 Option.none)) (n) (cap))) ∧
 (((vI n1) = (vI n1)) ∧
 (((Go.Value.slice Option.none 0 0) = (Go.Value.slice Option.none 0 0)) ∧
 True)))))))))))))))) ∧
 (bcase (decide (0 + n * 7 ≤ List.length l))
 (bcase (decide (0 + m * 1 ≤ List.length l2))
 (∃ n3 : Int,
 ((Says C 67 [(D.sl (n) 7 (List.take (n * 7) (List.drop 0 l))), (D.val (vI i)), (D.sl (m) 1 (List.take (m * 1) (List.drop 0 l2)))] [(D.val (vI n3))]) ∧
 ((((vI (IntKind.wrap .i64 (n1 - n3))) = (vI (IntKind.wrap .i64 (n1 - n3)))) ∧
 ((∃ n4 : Int,
 ((At (l3) (0 + Int.toNat i * 1) 1 [(vI n4)]) ∧
 ((vI n4) = (vI n2)))) ∧
 ((bcase (decide (0 ≤ i))
 (bcase (decide (i < (↑o : Int)))
 ((Go.Value.pointer (Option.some (Go.Addr.mk 502 (0 + Int.toNat i * 1) Option.none))) = (Go.Value.pointer (Option.some (Go.Addr.mk 502 (0 + Int.toNat i * 1) Option.none))))
 False)
 False) ∧
 (((vI i) = (vI i)) ∧
 (((Go.Value.slice (Option.some (Go.Addr.mk 502 0 Option.none)) (o) (cap3)) = (Go.Value.slice (Option.some (Go.Addr.mk 502 0 Option.none)) (o) (cap3))) ∧
 (((Go.Value.pointer (Option.some (Go.Addr.mk 1000 1 Option.none))) = (Go.Value.pointer (Option.some (Go.Addr.mk 1000 1 Option.none)))) ∧
 (((Go.Value.slice (Option.some (Go.Addr.mk 501 0 Option.none)) (m) (cap2)) = (Go.Value.slice (Option.some (Go.Addr.mk 501 0 Option.none)) (m) (cap2))) ∧
 (((Go.Value.pointer (Option.some (Go.Addr.mk 1000 0 Option.none))) = (Go.Value.pointer (Option.some (Go.Addr.mk 1000 0 Option.none)))) ∧
 (((vI (IntKind.wrap .i64 (i + 1))) = (vI (IntKind.wrap .i64 (i + 1)))) ∧
 (((vI i) = (vI i)) ∧
 (((Go.Value.slice (Option.some (Go.Addr.mk 500 0 Option.none)) (n) (cap)) = (Go.Value.slice (Option.some (Go.Addr.mk 500 0 Option.none)) (n) (cap))) ∧
 (((Go.Value.pointer (Option.some (Go.Addr.mk 1000 0 Option.none))) = (Go.Value.pointer (Option.some (Go.Addr.mk 1000 0 Option.none)))) ∧
 (((vI n1) = (vI n1)) ∧
 (((Go.Value.slice Option.none 0 0) = (Go.Value.slice Option.none 0 0)) ∧
 True)))))))))))))) ∧
 (bcase (decide (0 + n * 7 ≤ List.length l))
 (bcase (decide (0 + m * 1 ≤ List.length l2))
 (∃ n4 : Int,
 ((Says C 67 [(D.sl (n) 7 (List.take (n * 7) (List.drop 0 l))), (D.val (vI (IntKind.wrap .i64 (i + 1)))), (D.sl (m) 1 (List.take (m * 1) (List.drop 0 l2)))] [(D.val (vI n4))]) ∧
 (((((Go.Value.slice (Option.some (Go.Addr.mk 1001 0 Option.none)) 1 1) = (Go.Value.slice (Option.some (Go.Addr.mk 1001 0 Option.none)) 1 1)) ∧
 ((Option.some (AObj.cells [(vI (IntKind.wrap .i64 (IntKind.wrap .i64 (IntKind.wrap .i64 (n1 - n3) + n4) + n2)))] 3 false 1)) = (Option.some (AObj.cells [(vI (IntKind.wrap .i64 (IntKind.wrap .i64 (IntKind.wrap .i64 (n1 - n3) + n4) + n2)))] 3 false 1)))) ∧
 (((vI (IntKind.wrap .i64 (IntKind.wrap .i64 (IntKind.wrap .i64 (n1 - n3) + n4) + n2))) = (vI (IntKind.wrap .i64 (IntKind.wrap .i64 (IntKind.wrap .i64 (n1 - n3) + n4) + n2)))) ∧
 (((vI (IntKind.wrap .i64 (IntKind.wrap .i64 (n1 - n3) + n4))) = (vI (IntKind.wrap .i64 (IntKind.wrap .i64 (n1 - n3) + n4)))) ∧
 (((vI (IntKind.wrap .i64 (n1 - n3))) = (vI (IntKind.wrap .i64 (n1 - n3)))) ∧
 ((∃ n5 : Int,
 ((At (l3) (0 + Int.toNat i * 1) 1 [(vI n5)]) ∧
 ((vI n5) = (vI n2)))) ∧
 ((bcase (decide (0 ≤ i))
 (bcase (decide (i < (↑o : Int)))
 ((Go.Value.pointer (Option.some (Go.Addr.mk 502 (0 + Int.toNat i * 1) Option.none))) = (Go.Value.pointer (Option.some (Go.Addr.mk 502 (0 + Int.toNat i * 1) Option.none))))
 False)
 False) ∧
 (((vI i) = (vI i)) ∧
 (((Go.Value.slice (Option.some (Go.Addr.mk 502 0 Option.none)) (o) (cap3)) = (Go.Value.slice (Option.some (Go.Addr.mk 502 0 Option.none)) (o) (cap3))) ∧
 (((Go.Value.pointer (Option.some (Go.Addr.mk 1000 1 Option.none))) = (Go.Value.pointer (Option.some (Go.Addr.mk 1000 1 Option.none)))) ∧
 (((Go.Value.pointer (Option.some (Go.Addr.mk 1000 0 Option.none))) = (Go.Value.pointer (Option.some (Go.Addr.mk 1000 0 Option.none)))) ∧
 (((vI i) = (vI i)) ∧
 (((Go.Value.pointer (Option.some (Go.Addr.mk 1000 0 Option.none))) = (Go.Value.pointer (Option.some (Go.Addr.mk 1000 0 Option.none)))) ∧
 (((vI n1) = (vI n1)) ∧
 (((Go.Value.slice Option.none 0 0) = (Go.Value.slice Option.none 0 0)) ∧
 True)))))))))))))) ∧
 ((((vI (IntKind.wrap .i64 (IntKind.wrap .i64 (IntKind.wrap .i64 (n1 - n3) + n4) + n2))) = (vI (IntKind.wrap .i64 (IntKind.wrap .i64 (IntKind.wrap .i64 (n1 - n3) + n4) + n2)))) ∧
 (((vI (IntKind.wrap .i64 (IntKind.wrap .i64 (n1 - n3) + n4))) = (vI (IntKind.wrap .i64 (IntKind.wrap .i64 (n1 - n3) + n4)))) ∧
 (((vI (IntKind.wrap .i64 (n1 - n3))) = (vI (IntKind.wrap .i64 (n1 - n3)))) ∧
 ((∃ n5 : Int,
 ((At (l3) (0 + Int.toNat i * 1) 1 [(vI n5)]) ∧
 ((vI n5) = (vI n2)))) ∧
 ((bcase (decide (0 ≤ i))
 (bcase (decide (i < (↑o : Int)))
 ((Go.Value.pointer (Option.some (Go.Addr.mk 502 (0 + Int.toNat i * 1) Option.none))) = (Go.Value.pointer (Option.some (Go.Addr.mk 502 (0 + Int.toNat i * 1) Option.none))))
 False)
 False) ∧
 (((vI i) = (vI i)) ∧
 (((Go.Value.slice (Option.some (Go.Addr.mk 502 0 Option.none)) (o) (cap3)) = (Go.Value.slice (Option.some (Go.Addr.mk 502 0 Option.none)) (o) (cap3))) ∧
 (((Go.Value.pointer (Option.some (Go.Addr.mk 1000 1 Option.none))) = (Go.Value.pointer (Option.some (Go.Addr.mk 1000 1 Option.none)))) ∧
 (((Go.Value.pointer (Option.some (Go.Addr.mk 1000 0 Option.none))) = (Go.Value.pointer (Option.some (Go.Addr.mk 1000 0 Option.none)))) ∧
 (((vI i) = (vI i)) ∧
 (((Go.Value.pointer (Option.some (Go.Addr.mk 1000 0 Option.none))) = (Go.Value.pointer (Option.some (Go.Addr.mk 1000 0 Option.none)))) ∧
 (((vI n1) = (vI n1)) ∧
 True)))))))))))) ∧
 (True ∧
 (B [(Prod.mk 0 (Go.Value.slice (Option.some (Go.Addr.mk 500 0 Option.none)) (n) (cap))), (Prod.mk 3 (Go.Value.pointer (Option.some (Go.Addr.mk 1000 0 Option.none)))), (Prod.mk 5 (Go.Value.slice (Option.some (Go.Addr.mk 1001 0 Option.none)) 1 1)), (Prod.mk 9 (Go.Value.slice (Option.some (Go.Addr.mk 501 0 Option.none)) (m) (cap2))), (Prod.mk 10 (vI ((↑m : Int)))), (Prod.mk 11 (vI (IntKind.wrap .i64 (i + 1))))] [(Prod.mk 500 (AObj.sym (l) false 7)), (Prod.mk 1000 (AObj.cells [(Go.Value.slice (Option.some (Go.Addr.mk 501 0 Option.none)) (m) (cap2)), (Go.Value.slice (Option.some (Go.Addr.mk 502 0 Option.none)) (o) (cap3))] 27 false 1)), (Prod.mk 1001 (AObj.sym [(vI (IntKind.wrap .i64 (IntKind.wrap .i64 (IntKind.wrap .i64 (n1 - n3) + n4) + n2)))] true 1)), (Prod.mk 501 (AObj.sym (l2) false 1)), (Prod.mk 502 (AObj.sym (l3) false 1))]))))))
 False)
 False))))
 False)
 False))))
 False)
 False)))
 False)
 False)
 (X 0 [(Prod.mk 5 (Go.Value.slice Option.none 0 0))] [])) := by kernel_rfl
def rAe1 (C : Ct) (L : AtLoop) (n cap : Nat) (l : List Value) (m cap2 : Nat) (l2 : List Value) (o cap3 : Nat) (l3 : List Value) (j : Nat) (r : List Value) (i : Int) (B : Bx) (X : Xx) (k : List D → Prop) : Prop := wpRound Try.prog (hB C) L 41 0 (sAe n cap m cap2 (S1001 j) i) [L500 l, oMv 1000 m cap2 o cap3, Q1001 r, Q501 l2, Q502 l3] B X (dataK k)
theorem rAe1_text (C : Ct) (L : AtLoop) (n : Nat) (cap : Nat) (l : List Go.Value) (m : Nat) (cap2 : Nat) (l2 : List Go.Value) (o : Nat) (cap3 : Nat) (l3 : List Go.Value) (j : Nat) (r : List Go.Value) (i : Int) (B : Bx) (X : Xx) (k : List D → Prop) : rAe1 C L n cap l m cap2 l2 o cap3 l3 j r i B X k =
 (bcase (decide (i < (↑m : Int)))
 (bcase (decide (0 ≤ i))
 (bcase (decide (i < (↑m : Int)))
 (∃ n1 : Int,
 ((At (l2) (0 + Int.toNat i * 1) 1 [(vI n1)]) ∧
 (bcase (decide (0 ≤ i))
 (bcase (decide (i < (↑o : Int)))
 (∃ n2 : Int,
 ((At (l3) (0 + Int.toNat i * 1) 1 [(vI n2)]) ∧
 (((∃ n3 : Int,
 ((At (l3) (0 + Int.toNat i * 1) 1 [(vI n3)]) ∧
 ((vI n3) = (vI n2)))) ∧
 ((bcase (decide (0 ≤ i))
 (bcase (decide (i < (↑o : Int)))
 ((Go.Value.pointer (Option.some (Go.Addr.mk 502 (0 + Int.toNat i * 1) Option.none))) = (Go.Value.pointer (Option.some (Go.Addr.mk 502 (0 + Int.toNat i * 1) Option.none))))
 False)
 False) ∧
 (((vI i) = (vI i)) ∧
 (((Go.Value.slice (Option.some (Go.Addr.mk 502 0 Option.none)) (o) (cap3)) = (Go.Value.slice (Option.some (Go.Addr.mk 502 0 Option.none)) (o) (cap3))) ∧
 (((Go.Value.pointer (Option.some (Go.Addr.mk 1000 1 Option.none))) = (Go.Value.pointer (Option.some (Go.Addr.mk 1000 1 Option.none)))) ∧
 (((Go.Value.slice (Option.some (Go.Addr.mk 501 0 Option.none)) (m) (cap2)) = (Go.Value.slice (Option.some (Go.Addr.mk 501 0 Option.none)) (m) (cap2))) ∧
 (((Go.Value.pointer (Option.some (Go.Addr.mk 1000 0 Option.none))) = (Go.Value.pointer (Option.some (Go.Addr.mk 1000 0 Option.none)))) ∧
 (((vI (IntKind.wrap .i64 (i + 1))) = (vI (IntKind.wrap .i64 (i + 1)))) ∧
 (((vI i) = (vI i)) ∧
 (((Go.Value.slice (Option.some (Go.Addr.mk 500 0 Option.none)) (n) (cap)) = (Go.Value.slice (Option.some (Go.Addr.mk 500 0 Option.none)) (n) (cap))) ∧
 (((Go.Value.slice (Option.some (Go.Addr.mk 501 0 Option.none)) (m) (cap2)) = (Go.Value.slice (Option.some (Go.Addr.mk 501 0 Option.none)) (m) (cap2))) ∧
 (((Go.Value.pointer (Option.some (Go.Addr.mk 1000 0 Option.none))) = (Go.Value.pointer (Option.some (Go.Addr.mk 1000 0 Option.none)))) ∧
 (((vI i) = (vI i)) ∧
 (((Go.Value.slice (Option.some (Go.Addr.mk 500 0 Option.none)) (n) (cap)) = (Go.Value.slice (Option.some (Go.Addr.mk 500 0 Option.none)) (n) (cap))) ∧
 (((vI n1) = (vI n1)) ∧
 (((Go.Value.slice (Option.some (Go.Addr.mk 1001 0 Option.none)) (j) (j)) = (Go.Value.slice (Option.some (Go.Addr.mk 1001 0 Option.none)) (j) (j))) ∧
 True)))))))))))))))) ∧
 (bcase (decide (0 + n * 7 ≤ List.length l))
 (bcase (decide (0 + m * 1 ≤ List.length l2))
 (∃ n3 : Int,
 ((Says C 67 [(D.sl (n) 7 (List.take (n * 7) (List.drop 0 l))), (D.val (vI i)), (D.sl (m) 1 (List.take (m * 1) (List.drop 0 l2)))] [(D.val (vI n3))]) ∧
 ((((vI (IntKind.wrap .i64 (n1 - n3))) = (vI (IntKind.wrap .i64 (n1 - n3)))) ∧
 ((∃ n4 : Int,
 ((At (l3) (0 + Int.toNat i * 1) 1 [(vI n4)]) ∧
 ((vI n4) = (vI n2)))) ∧
 ((bcase (decide (0 ≤ i))
 (bcase (decide (i < (↑o : Int)))
 ((Go.Value.pointer (Option.some (Go.Addr.mk 502 (0 + Int.toNat i * 1) Option.none))) = (Go.Value.pointer (Option.some (Go.Addr.mk 502 (0 + Int.toNat i * 1) Option.none))))
 False)
 False) ∧
 (((vI i) = (vI i)) ∧
 (((Go.Value.slice (Option.some (Go.Addr.mk 502 0 Option.none)) (o) (cap3)) = (Go.Value.slice (Option.some (Go.Addr.mk 502 0 Option.none)) (o) (cap3))) ∧
 (((Go.Value.pointer (Option.some (Go.Addr.mk 1000 1 Option.none))) = (Go.Value.pointer (Option.some (Go.Addr.mk 1000 1 Option.none)))) ∧
 (((Go.Value.slice (Option.some (Go.Addr.mk 501 0 Option.none)) (m) (cap2)) = (Go.Value.slice (Option.some (Go.Addr.mk 501 0 Option.none)) (m) (cap2))) ∧
 (((Go.Value.pointer (Option.some (Go.Addr.mk 1000 0 Option.none))) = (Go.Value.pointer (Option.some (Go.Addr.mk 1000 0 Option.none)))) ∧
 (((vI (IntKind.wrap .i64 (i + 1))) = (vI (IntKind.wrap .i64 (i + 1)))) ∧
 (((vI i) = (vI i)) ∧
 (((Go.Value.slice (Option.some (Go.Addr.mk 500 0 Option.none)) (n) (cap)) = (Go.Value.slice (Option.some (Go.Addr.mk 500 0 Option.none)) (n) (cap))) ∧
 (((Go.Value.pointer (Option.some (Go.Addr.mk 1000 0 Option.none))) = (Go.Value.pointer (Option.some (Go.Addr.mk 1000 0 Option.none)))) ∧
 (((vI n1) = (vI n1)) ∧
 (((Go.Value.slice (Option.some (Go.Addr.mk 1001 0 Option.none)) (j) (j)) = (Go.Value.slice (Option.some (Go.Addr.mk 1001 0 Option.none)) (j) (j))) ∧
 True)))))))))))))) ∧
 (bcase (decide (0 + n * 7 ≤ List.length l))
 (bcase (decide (0 + m * 1 ≤ List.length l2))
 (∃ n4 : Int,
 ((Says C 67 [(D.sl (n) 7 (List.take (n * 7) (List.drop 0 l))), (D.val (vI (IntKind.wrap .i64 (i + 1)))), (D.sl (m) 1 (List.take (m * 1) (List.drop 0 l2)))] [(D.val (vI n4))]) ∧
 (((((Go.Value.slice (Option.some (Go.Addr.mk 1002 0 Option.none)) 1 1) = (Go.Value.slice (Option.some (Go.Addr.mk 1002 0 Option.none)) 1 1)) ∧
 ((Option.some (AObj.cells [(vI (IntKind.wrap .i64 (IntKind.wrap .i64 (IntKind.wrap .i64 (n1 - n3) + n4) + n2)))] 3 false 1)) = (Option.some (AObj.cells [(vI (IntKind.wrap .i64 (IntKind.wrap .i64 (IntKind.wrap .i64 (n1 - n3) + n4) + n2)))] 3 false 1)))) ∧
 (((vI (IntKind.wrap .i64 (IntKind.wrap .i64 (IntKind.wrap .i64 (n1 - n3) + n4) + n2))) = (vI (IntKind.wrap .i64 (IntKind.wrap .i64 (IntKind.wrap .i64 (n1 - n3) + n4) + n2)))) ∧
 (((vI (IntKind.wrap .i64 (IntKind.wrap .i64 (n1 - n3) + n4))) = (vI (IntKind.wrap .i64 (IntKind.wrap .i64 (n1 - n3) + n4)))) ∧
 (((vI (IntKind.wrap .i64 (n1 - n3))) = (vI (IntKind.wrap .i64 (n1 - n3)))) ∧
 ((∃ n5 : Int,
 ((At (l3) (0 + Int.toNat i * 1) 1 [(vI n5)]) ∧
 ((vI n5) = (vI n2)))) ∧
 ((bcase (decide (0 ≤ i))
 (bcase (decide (i < (↑o : Int)))
 ((Go.Value.pointer (Option.some (Go.Addr.mk 502 (0 + Int.toNat i * 1) Option.none))) = (Go.Value.pointer (Option.some (Go.Addr.mk 502 (0 + Int.toNat i * 1) Option.none))))
 False)
 False) ∧
 (((vI i) = (vI i)) ∧
 (((Go.Value.slice (Option.some (Go.Addr.mk 502 0 Option.none)) (o) (cap3)) = (Go.Value.slice (Option.some (Go.Addr.mk 502 0 Option.none)) (o) (cap3))) ∧
 (((Go.Value.pointer (Option.some (Go.Addr.mk 1000 1 Option.none))) = (Go.Value.pointer (Option.some (Go.Addr.mk 1000 1 Option.none)))) ∧
 (((Go.Value.pointer (Option.some (Go.Addr.mk 1000 0 Option.none))) = (Go.Value.pointer (Option.some (Go.Addr.mk 1000 0 Option.none)))) ∧
 (((vI i) = (vI i)) ∧
 (((Go.Value.pointer (Option.some (Go.Addr.mk 1000 0 Option.none))) = (Go.Value.pointer (Option.some (Go.Addr.mk 1000 0 Option.none)))) ∧
 (((vI n1) = (vI n1)) ∧
 (((Go.Value.slice (Option.some (Go.Addr.mk 1001 0 Option.none)) (j) (j)) = (Go.Value.slice (Option.some (Go.Addr.mk 1001 0 Option.none)) (j) (j))) ∧
 True)))))))))))))) ∧
 (bcase (decide (j < j + 1))
 (bcase (decide ((2 * (j + 1) + 768) * 8 ≤ 281474976710656))
 (bcase (decide (j + 1 ≤ 1099511627776))
 (bcase (decide (0 + j * 1 ≤ List.length r))
 (bcase (decide (0 + j * 1 = List.length r))
 ((((vI (IntKind.wrap .i64 (IntKind.wrap .i64 (IntKind.wrap .i64 (n1 - n3) + n4) + n2))) = (vI (IntKind.wrap .i64 (IntKind.wrap .i64 (IntKind.wrap .i64 (n1 - n3) + n4) + n2)))) ∧
 (((vI (IntKind.wrap .i64 (IntKind.wrap .i64 (n1 - n3) + n4))) = (vI (IntKind.wrap .i64 (IntKind.wrap .i64 (n1 - n3) + n4)))) ∧
 (((vI (IntKind.wrap .i64 (n1 - n3))) = (vI (IntKind.wrap .i64 (n1 - n3)))) ∧
 ((∃ n5 : Int,
 ((At (l3) (0 + Int.toNat i * 1) 1 [(vI n5)]) ∧
 ((vI n5) = (vI n2)))) ∧
 ((bcase (decide (0 ≤ i))
 (bcase (decide (i < (↑o : Int)))
 ((Go.Value.pointer (Option.some (Go.Addr.mk 502 (0 + Int.toNat i * 1) Option.none))) = (Go.Value.pointer (Option.some (Go.Addr.mk 502 (0 + Int.toNat i * 1) Option.none))))
 False)
 False) ∧
 (((vI i) = (vI i)) ∧
 (((Go.Value.slice (Option.some (Go.Addr.mk 502 0 Option.none)) (o) (cap3)) = (Go.Value.slice (Option.some (Go.Addr.mk 502 0 Option.none)) (o) (cap3))) ∧
 (((Go.Value.pointer (Option.some (Go.Addr.mk 1000 1 Option.none))) = (Go.Value.pointer (Option.some (Go.Addr.mk 1000 1 Option.none)))) ∧
 (((Go.Value.pointer (Option.some (Go.Addr.mk 1000 0 Option.none))) = (Go.Value.pointer (Option.some (Go.Addr.mk 1000 0 Option.none)))) ∧
 (((vI i) = (vI i)) ∧
 (((Go.Value.pointer (Option.some (Go.Addr.mk 1000 0 Option.none))) = (Go.Value.pointer (Option.some (Go.Addr.mk 1000 0 Option.none)))) ∧
 (((vI n1) = (vI n1)) ∧
 True)))))))))))) ∧
 (True ∧
 (B [(Prod.mk 0 (Go.Value.slice (Option.some (Go.Addr.mk 500 0 Option.none)) (n) (cap))), (Prod.mk 3 (Go.Value.pointer (Option.some (Go.Addr.mk 1000 0 Option.none)))), (Prod.mk 5 (Go.Value.slice (Option.some (Go.Addr.mk 1001 0 Option.none)) (j + 1) (j + 1))), (Prod.mk 9 (Go.Value.slice (Option.some (Go.Addr.mk 501 0 Option.none)) (m) (cap2))), (Prod.mk 10 (vI ((↑m : Int)))), (Prod.mk 11 (vI (IntKind.wrap .i64 (i + 1))))] [(Prod.mk 500 (AObj.sym (l) false 7)), (Prod.mk 1000 (AObj.cells [(Go.Value.slice (Option.some (Go.Addr.mk 501 0 Option.none)) (m) (cap2)), (Go.Value.slice (Option.some (Go.Addr.mk 502 0 Option.none)) (o) (cap3))] 27 false 1)), (Prod.mk 1001 (AObj.sym ((List.take (j * 1) (List.drop 0 r)) ++ [(vI (IntKind.wrap .i64 (IntKind.wrap .i64 (IntKind.wrap .i64 (n1 - n3) + n4) + n2)))]) true 1)), (Prod.mk 501 (AObj.sym (l2) false 1)), (Prod.mk 502 (AObj.sym (l3) false 1))])))
 False)
 False)
 False)
 False)
 False))))
 False)
 False))))
 False)
 False))))
 False)
 False)))
 False)
 False)
 (X 0 [(Prod.mk 5 (Go.Value.slice (Option.some (Go.Addr.mk 1000 0 Option.none)) (j) (j)))] [(Prod.mk 1000 (AObj.sym (r) true 1))])) := by kernel_rfl
def nAe1 (C : Ct) (L : AtLoop) (j : Nat) (r : List Value) (k : List D → Prop) : Prop := wpNext Try.prog (hB C) L 41 0 .normal [(5, .slice (some ⟨1000, 0, none⟩) j j)] [(1000, .sym r true 1)] (dataK k)
theorem nAe1_text (C : Ct) (L : AtLoop) (j : Nat) (r : List Go.Value) (k : List D → Prop) : nAe1 C L j r k =
 ((((j) = (j)) ∧
 ((List.length r) = (j * 1))) ∧
 (k [(D.sl (j) 1 (r))])) := by kernel_rfl
def sSt (n cap : Nat) (i : Int) : Slots := [(3, P1 1000 0), (6, S500 n cap), (33, S500 n cap), (34, vI n), (35, vI i)]
def rSt (C : Ct) (L : AtLoop) (n cap : Nat) (l : List Value) (m cap2 : Nat) (l2 : List Value) (o cap3 : Nat) (l3 : List Value) (i : Int) (B : Bx) (X : Xx) (k : List D → Prop) : Prop := wpRound Try.prog (hB C) L 11 0 (sSt n cap i) [oMv 1000 m cap2 o cap3, L500 l, Q501 l2, Q502 l3] B X (dataK k)
theorem rSt_text (C : Ct) (L : AtLoop) (n : Nat) (cap : Nat) (l : List Go.Value) (m : Nat) (cap2 : Nat) (l2 : List Go.Value) (o : Nat) (cap3 : Nat) (l3 : List Go.Value) (i : Int) (B : Bx) (X : Xx) (k : List D → Prop) : rSt C L n cap l m cap2 l2 o cap3 l3 i B X k =
 (bcase (decide (i < (↑n : Int)))
 (bcase (decide (0 ≤ i))
 (bcase (decide (i < (↑n : Int)))
 (∃ n1 : Int,
 (∃ n2 : Int,
 (∃ n3 : Int,
 (∃ n4 : Int,
 (∃ n5 : Int,
 (∃ n6 : Int,
 (∃ n7 : Int,
 ((At (l) (0 + Int.toNat i * 7) 7 [(vI n1), (vI n2), (vI n3), (vI n4), (vI n5), (vI n6), (vI n7)]) ∧
 (bcase (decide (0 ≤ i))
 (bcase (decide (i < (↑m : Int)))
 (∃ n8 : Int,
 ((At (l2) (0 + Int.toNat i * 1) 1 [(vI n8)]) ∧
 (bcase (decide (0 ≤ i))
 (bcase (decide (i < (↑o : Int)))
 (∃ n9 : Int,
 ((At (l3) (0 + Int.toNat i * 1) 1 [(vI n9)]) ∧
 (((((Go.Value.slice (Option.some (Go.Addr.mk 1003 0 Option.none)) 1 1) = (Go.Value.slice (Option.some (Go.Addr.mk 1003 0 Option.none)) 1 1)) ∧
 ((Option.some (AObj.cells [(vI n9)] 3 false 1)) = (Option.some (AObj.cells [(vI n9)] 3 false 1)))) ∧
 ((∃ n10 : Int,
 ((At (l3) (0 + Int.toNat i * 1) 1 [(vI n10)]) ∧
 ((vI n10) = (vI n9)))) ∧
 ((bcase (decide (0 ≤ i))
 (bcase (decide (i < (↑o : Int)))
 ((Go.Value.pointer (Option.some (Go.Addr.mk 502 (0 + Int.toNat i * 1) Option.none))) = (Go.Value.pointer (Option.some (Go.Addr.mk 502 (0 + Int.toNat i * 1) Option.none))))
 False)
 False) ∧
 (((vI i) = (vI i)) ∧
 (((Go.Value.slice (Option.some (Go.Addr.mk 502 0 Option.none)) (o) (cap3)) = (Go.Value.slice (Option.some (Go.Addr.mk 502 0 Option.none)) (o) (cap3))) ∧
 (((Go.Value.pointer (Option.some (Go.Addr.mk 1000 1 Option.none))) = (Go.Value.pointer (Option.some (Go.Addr.mk 1000 1 Option.none)))) ∧
 (((Go.Value.agg [(vI n4), (vI n5)].toArray) = (Go.Value.agg [(vI n4), (vI n5)].toArray)) ∧
 (((Go.Value.pointer (Option.some (Go.Addr.mk 1001 3 Option.none))) = (Go.Value.pointer (Option.some (Go.Addr.mk 1001 3 Option.none)))) ∧
 ((((Go.Value.slice (Option.some (Go.Addr.mk 1002 0 Option.none)) 1 1) = (Go.Value.slice (Option.some (Go.Addr.mk 1002 0 Option.none)) 1 1)) ∧
 ((Option.some (AObj.cells [(vI n8)] 3 false 1)) = (Option.some (AObj.cells [(vI n8)] 3 false 1)))) ∧
 ((∃ n10 : Int,
 ((At (l2) (0 + Int.toNat i * 1) 1 [(vI n10)]) ∧
 ((vI n10) = (vI n8)))) ∧
 ((bcase (decide (0 ≤ i))
 (bcase (decide (i < (↑m : Int)))
 ((Go.Value.pointer (Option.some (Go.Addr.mk 501 (0 + Int.toNat i * 1) Option.none))) = (Go.Value.pointer (Option.some (Go.Addr.mk 501 (0 + Int.toNat i * 1) Option.none))))
 False)
 False) ∧
 (((vI i) = (vI i)) ∧
 (((Go.Value.slice (Option.some (Go.Addr.mk 501 0 Option.none)) (m) (cap2)) = (Go.Value.slice (Option.some (Go.Addr.mk 501 0 Option.none)) (m) (cap2))) ∧
 (((Go.Value.pointer (Option.some (Go.Addr.mk 1000 0 Option.none))) = (Go.Value.pointer (Option.some (Go.Addr.mk 1000 0 Option.none)))) ∧
 (((Go.Value.agg [(vI n1), (vI n2), (vI n3), (vI n4), (vI n5), (vI n6), (vI n7)].toArray) = (Go.Value.agg [(vI n1), (vI n2), (vI n3), (vI n4), (vI n5), (vI n6), (vI n7)].toArray)) ∧
 True))))))))))))))) ∧
 (∃ r1 : Int,
 ((Says witC 0 [(D.val (vI n6)), (D.val (vI n7)), (D.val (vI (22 : Int))), (D.sl 1 1 [(vI n8)])] [(D.val (vI r1))]) ∧
 (((((Go.Value.slice (Option.some (Go.Addr.mk 1003 0 Option.none)) 1 1) = (Go.Value.slice (Option.some (Go.Addr.mk 1003 0 Option.none)) 1 1)) ∧
 ((Option.some (AObj.cells [(vI n9)] 3 false 1)) = (Option.some (AObj.cells [(vI n9)] 3 false 1)))) ∧
 ((∃ n10 : Int,
 ((At (l3) (0 + Int.toNat i * 1) 1 [(vI n10)]) ∧
 ((vI n10) = (vI n9)))) ∧
 ((bcase (decide (0 ≤ i))
 (bcase (decide (i < (↑o : Int)))
 ((Go.Value.pointer (Option.some (Go.Addr.mk 502 (0 + Int.toNat i * 1) Option.none))) = (Go.Value.pointer (Option.some (Go.Addr.mk 502 (0 + Int.toNat i * 1) Option.none))))
 False)
 False) ∧
 (((vI i) = (vI i)) ∧
 (((Go.Value.slice (Option.some (Go.Addr.mk 502 0 Option.none)) (o) (cap3)) = (Go.Value.slice (Option.some (Go.Addr.mk 502 0 Option.none)) (o) (cap3))) ∧
 (((Go.Value.pointer (Option.some (Go.Addr.mk 1000 1 Option.none))) = (Go.Value.pointer (Option.some (Go.Addr.mk 1000 1 Option.none)))) ∧
 (((Go.Value.agg [(vI n4), (vI n5)].toArray) = (Go.Value.agg [(vI n4), (vI n5)].toArray)) ∧
 (((Go.Value.pointer (Option.some (Go.Addr.mk 1001 3 Option.none))) = (Go.Value.pointer (Option.some (Go.Addr.mk 1001 3 Option.none)))) ∧
 ((∃ n10 : Int,
 ((At (l2) (0 + Int.toNat i * 1) 1 [(vI n10)]) ∧
 ((vI n10) = (vI n8)))) ∧
 ((bcase (decide (0 ≤ i))
 (bcase (decide (i < (↑m : Int)))
 ((Go.Value.pointer (Option.some (Go.Addr.mk 501 (0 + Int.toNat i * 1) Option.none))) = (Go.Value.pointer (Option.some (Go.Addr.mk 501 (0 + Int.toNat i * 1) Option.none))))
 False)
 False) ∧
 (((vI i) = (vI i)) ∧
 (((Go.Value.slice (Option.some (Go.Addr.mk 501 0 Option.none)) (m) (cap2)) = (Go.Value.slice (Option.some (Go.Addr.mk 501 0 Option.none)) (m) (cap2))) ∧
 (((Go.Value.pointer (Option.some (Go.Addr.mk 1000 0 Option.none))) = (Go.Value.pointer (Option.some (Go.Addr.mk 1000 0 Option.none)))) ∧
 True))))))))))))) ∧
 (((((Go.Value.slice (Option.some (Go.Addr.mk 1003 0 Option.none)) 1 1) = (Go.Value.slice (Option.some (Go.Addr.mk 1003 0 Option.none)) 1 1)) ∧
 ((Option.some (AObj.cells [(vI n9)] 3 false 1)) = (Option.some (AObj.cells [(vI n9)] 3 false 1)))) ∧
 ((∃ n10 : Int,
 ((At (l3) (0 + Int.toNat i * 1) 1 [(vI n10)]) ∧
 ((vI n10) = (vI n9)))) ∧
 ((bcase (decide (0 ≤ i))
 (bcase (decide (i < (↑o : Int)))
 ((Go.Value.pointer (Option.some (Go.Addr.mk 502 (0 + Int.toNat i * 1) Option.none))) = (Go.Value.pointer (Option.some (Go.Addr.mk 502 (0 + Int.toNat i * 1) Option.none))))
 False)
 False) ∧
 (((vI i) = (vI i)) ∧
 (((Go.Value.slice (Option.some (Go.Addr.mk 502 0 Option.none)) (o) (cap3)) = (Go.Value.slice (Option.some (Go.Addr.mk 502 0 Option.none)) (o) (cap3))) ∧
 (((Go.Value.pointer (Option.some (Go.Addr.mk 1000 1 Option.none))) = (Go.Value.pointer (Option.some (Go.Addr.mk 1000 1 Option.none)))) ∧
 (((Go.Value.pointer (Option.some (Go.Addr.mk 1001 3 Option.none))) = (Go.Value.pointer (Option.some (Go.Addr.mk 1001 3 Option.none)))) ∧
 ((∃ n10 : Int,
 ((At (l2) (0 + Int.toNat i * 1) 1 [(vI n10)]) ∧
 ((vI n10) = (vI n8)))) ∧
 ((bcase (decide (0 ≤ i))
 (bcase (decide (i < (↑m : Int)))
 ((Go.Value.pointer (Option.some (Go.Addr.mk 501 (0 + Int.toNat i * 1) Option.none))) = (Go.Value.pointer (Option.some (Go.Addr.mk 501 (0 + Int.toNat i * 1) Option.none))))
 False)
 False) ∧
 (((vI i) = (vI i)) ∧
 (((Go.Value.slice (Option.some (Go.Addr.mk 501 0 Option.none)) (m) (cap2)) = (Go.Value.slice (Option.some (Go.Addr.mk 501 0 Option.none)) (m) (cap2))) ∧
 (((Go.Value.pointer (Option.some (Go.Addr.mk 1000 0 Option.none))) = (Go.Value.pointer (Option.some (Go.Addr.mk 1000 0 Option.none)))) ∧
 True)))))))))))) ∧
 (∃ r2 : Int,
 ((Says witC 0 [(D.val (vI n4)), (D.val (vI n5)), (D.val (vI (2 : Int))), (D.sl 1 1 [(vI n9)])] [(D.val (vI r2))]) ∧
 (((((Go.Value.slice (Option.some (Go.Addr.mk 1009 0 Option.none)) 2 2) = (Go.Value.slice (Option.some (Go.Addr.mk 1009 0 Option.none)) 2 2)) ∧
 ((Option.some (AObj.cells [(vI r1), (vI r2)] 30 false 1)) = (Option.some (AObj.cells [(vI r1), (vI r2)] 30 false 1)))) ∧
 ((∃ n10 : Int,
 ((At (l3) (0 + Int.toNat i * 1) 1 [(vI n10)]) ∧
 ((vI n10) = (vI n9)))) ∧
 ((bcase (decide (0 ≤ i))
 (bcase (decide (i < (↑o : Int)))
 ((Go.Value.pointer (Option.some (Go.Addr.mk 502 (0 + Int.toNat i * 1) Option.none))) = (Go.Value.pointer (Option.some (Go.Addr.mk 502 (0 + Int.toNat i * 1) Option.none))))
 False)
 False) ∧
 (((vI i) = (vI i)) ∧
 (((Go.Value.slice (Option.some (Go.Addr.mk 502 0 Option.none)) (o) (cap3)) = (Go.Value.slice (Option.some (Go.Addr.mk 502 0 Option.none)) (o) (cap3))) ∧
 (((Go.Value.pointer (Option.some (Go.Addr.mk 1000 1 Option.none))) = (Go.Value.pointer (Option.some (Go.Addr.mk 1000 1 Option.none)))) ∧
 (((Go.Value.pointer (Option.some (Go.Addr.mk 1001 3 Option.none))) = (Go.Value.pointer (Option.some (Go.Addr.mk 1001 3 Option.none)))) ∧
 ((∃ n10 : Int,
 ((At (l2) (0 + Int.toNat i * 1) 1 [(vI n10)]) ∧
 ((vI n10) = (vI n8)))) ∧
 ((bcase (decide (0 ≤ i))
 (bcase (decide (i < (↑m : Int)))
 ((Go.Value.pointer (Option.some (Go.Addr.mk 501 (0 + Int.toNat i * 1) Option.none))) = (Go.Value.pointer (Option.some (Go.Addr.mk 501 (0 + Int.toNat i * 1) Option.none))))
 False)
 False) ∧
 (((vI i) = (vI i)) ∧
 (((Go.Value.slice (Option.some (Go.Addr.mk 501 0 Option.none)) (m) (cap2)) = (Go.Value.slice (Option.some (Go.Addr.mk 501 0 Option.none)) (m) (cap2))) ∧
 (((Go.Value.pointer (Option.some (Go.Addr.mk 1000 0 Option.none))) = (Go.Value.pointer (Option.some (Go.Addr.mk 1000 0 Option.none)))) ∧
 True)))))))))))) ∧
 (∃ n10 : Int,
 ((Says C 37 [(D.sl 2 1 [(vI r1), (vI r2)])] [(D.val (vI n10))]) ∧
 (((∃ n11 : Int,
 ((At (l3) (0 + Int.toNat i * 1) 1 [(vI n11)]) ∧
 ((vI n11) = (vI n9)))) ∧
 ((bcase (decide (0 ≤ i))
 (bcase (decide (i < (↑o : Int)))
 ((Go.Value.pointer (Option.some (Go.Addr.mk 502 (0 + Int.toNat i * 1) Option.none))) = (Go.Value.pointer (Option.some (Go.Addr.mk 502 (0 + Int.toNat i * 1) Option.none))))
 False)
 False) ∧
 (((vI i) = (vI i)) ∧
 (((Go.Value.slice (Option.some (Go.Addr.mk 502 0 Option.none)) (o) (cap3)) = (Go.Value.slice (Option.some (Go.Addr.mk 502 0 Option.none)) (o) (cap3))) ∧
 (((Go.Value.pointer (Option.some (Go.Addr.mk 1000 1 Option.none))) = (Go.Value.pointer (Option.some (Go.Addr.mk 1000 1 Option.none)))) ∧
 (((Go.Value.pointer (Option.some (Go.Addr.mk 1001 3 Option.none))) = (Go.Value.pointer (Option.some (Go.Addr.mk 1001 3 Option.none)))) ∧
 ((∃ n11 : Int,
 ((At (l2) (0 + Int.toNat i * 1) 1 [(vI n11)]) ∧
 ((vI n11) = (vI n8)))) ∧
 ((bcase (decide (0 ≤ i))
 (bcase (decide (i < (↑m : Int)))
 ((Go.Value.pointer (Option.some (Go.Addr.mk 501 (0 + Int.toNat i * 1) Option.none))) = (Go.Value.pointer (Option.some (Go.Addr.mk 501 (0 + Int.toNat i * 1) Option.none))))
 False)
 False) ∧
 (((vI i) = (vI i)) ∧
 (((Go.Value.slice (Option.some (Go.Addr.mk 501 0 Option.none)) (m) (cap2)) = (Go.Value.slice (Option.some (Go.Addr.mk 501 0 Option.none)) (m) (cap2))) ∧
 (((Go.Value.pointer (Option.some (Go.Addr.mk 1000 0 Option.none))) = (Go.Value.pointer (Option.some (Go.Addr.mk 1000 0 Option.none)))) ∧
 True))))))))))) ∧
 (True ∧
 (bcase (n10 != 0)
 (k [D.nil, (D.val (vI n10))])
 (B [(Prod.mk 3 (Go.Value.pointer (Option.some (Go.Addr.mk 1000 0 Option.none)))), (Prod.mk 6 (Go.Value.slice (Option.some (Go.Addr.mk 500 0 Option.none)) (n) (cap))), (Prod.mk 33 (Go.Value.slice (Option.some (Go.Addr.mk 500 0 Option.none)) (n) (cap))), (Prod.mk 34 (vI ((↑n : Int)))), (Prod.mk 35 (vI (IntKind.wrap .i64 (i + 1))))] [(Prod.mk 1000 (AObj.cells [(Go.Value.slice (Option.some (Go.Addr.mk 501 0 Option.none)) (m) (cap2)), (Go.Value.slice (Option.some (Go.Addr.mk 502 0 Option.none)) (o) (cap3))] 27 false 1)), (Prod.mk 500 (AObj.sym (l) false 7)), (Prod.mk 501 (AObj.sym (l2) false 1)), (Prod.mk 502 (AObj.sym (l3) false 1))]))))))))))))))))
 False)
 False)))
 False)
 False)))))))))
 False)
 False)
 (X 0 [(Prod.mk 3 (Go.Value.pointer (Option.some (Go.Addr.mk 1000 0 Option.none)))), (Prod.mk 6 (Go.Value.slice (Option.some (Go.Addr.mk 500 0 Option.none)) (n) (cap)))] [(Prod.mk 1000 (AObj.cells [(Go.Value.slice (Option.some (Go.Addr.mk 501 0 Option.none)) (m) (cap2)), (Go.Value.slice (Option.some (Go.Addr.mk 502 0 Option.none)) (o) (cap3))] 27 false 1)), (Prod.mk 500 (AObj.sym (l) false 7)), (Prod.mk 501 (AObj.sym (l2) false 1)), (Prod.mk 502 (AObj.sym (l3) false 1))])) := by kernel_rfl
def nSt (C : Ct) (L : AtLoop) (n cap : Nat) (l : List Value) (m cap2 : Nat) (l2 : List Value) (o cap3 : Nat) (l3 : List Value) (k : List D → Prop) : Prop := wpNext Try.prog (hB C) L 11 0 .normal [(3, P1 1000 0), (6, S500 n cap)] [oMv 1000 m cap2 o cap3, L500 l, Q501 l2, Q502 l3] (dataK k)
theorem nSt_text (C : Ct) (L : AtLoop) (n : Nat) (cap : Nat) (l : List Go.Value) (m : Nat) (cap2 : Nat) (l2 : List Go.Value) (o : Nat) (cap3 : Nat) (l3 : List Go.Value) (k : List D → Prop) : nSt C L n cap l m cap2 l2 o cap3 l3 k =
 (bcase (decide (0 + n * 7 ≤ List.length l))
 (bcase (decide (0 + m * 1 ≤ List.length l2))
 (bcase (decide (0 + o * 1 ≤ List.length l3))
 (((Says C 41 [(D.sl (n) 7 (List.take (n * 7) (List.drop 0 l))), (D.agg [(D.sl (m) 1 (List.take (m * 1) (List.drop 0 l2))), (D.sl (o) 1 (List.take (o * 1) (List.drop 0 l3)))])] [D.nil]) ∧
 (k [D.nil, (D.val (vI (0 : Int)))])) ∨
 (∃ n1 : Nat,
 (∃ cs1 : List Go.Value,
 ((Says C 41 [(D.sl (n) 7 (List.take (n * 7) (List.drop 0 l))), (D.agg [(D.sl (m) 1 (List.take (m * 1) (List.drop 0 l2))), (D.sl (o) 1 (List.take (o * 1) (List.drop 0 l3)))])] [(D.sl (n1) 1 (cs1))]) ∧
 ((((n1) = (n1)) ∧
 ((List.length cs1) = (n1 * 1))) ∧
 (k [(D.sl (n1) 1 (cs1)), (D.val (vI (0 : Int)))]))))))
 False)
 False)
 False) := by kernel_rfl
def gCpC (C : Ct) (L : AtLoop) (n cap : Nat) (l : List Value) (k : List D → Prop) : Prop := wpFn Try.prog (hE C) L 0 10 #[.agg #[S500 n cap]] (heapOf [L500 l]) (dataK k)
theorem gCpC_text (C : Ct) (L : AtLoop) (n : Nat) (cap : Nat) (l : List Go.Value) (k : List D → Prop) : gCpC C L n cap l k =
 (bcase (decide (0 + n * 7 ≤ List.length l))
 (bcase (n == 0)
 (((0 = 0) ∧
 (0 = 0)) ∧
 (k [(D.agg [(D.sl 0 7 [])])]))
 (bcase (decide (0 < 0 + n))
 (bcase (decide ((2 * (0 + n) + 768) * 56 ≤ 281474976710656))
 (bcase (decide (0 + n ≤ 1099511627776))
 ((((0 + n) = (0 + n)) ∧
 ((List.length (List.take 0 (List.drop 0 []) ++ List.take (n * 7) (List.drop 0 l))) = ((0 + n) * 7))) ∧
 (k [(D.agg [(D.sl (0 + n) 7 ([] ++ (List.take (n * 7) (List.drop 0 l))))])]))
 False)
 False)
 False))
 False) := by kernel_rfl
def gSm (C : Ct) (L : AtLoop) (n cap : Nat) (l : List Value) (k : List D → Prop) : Prop := wpFn Try.prog (hE C) L 0 8 #[.agg #[S500 n cap]] (heapOf [L500 l]) (dataK k)
theorem gSm_text (C : Ct) (L : AtLoop) (n : Nat) (cap : Nat) (l : List Go.Value) (k : List D → Prop) : gSm C L n cap l k =
 (bcase (decide ((↑n : Int) ≤ 7))
 (k [(D.val (Value.bool true))])
 (k [(D.val (Value.bool false))])) := by kernel_rfl
def gSmn (C : Ct) (L : AtLoop) (k : List D → Prop) : Prop := wpFn Try.prog (hE C) L 0 8 #[.agg #[nilS]] (heapOf []) (dataK k)
theorem gSmn_text (C : Ct) (L : AtLoop) (k : List D → Prop) : gSmn C L k =
 (k [(D.val (Value.bool true))]) := by kernel_rfl
def gR9n (C : Ct) (L : AtLoop) (k : List D → Prop) : Prop := wpFn Try.prog (hB C) L 0 13 #[.agg #[nilS]] (heapOf []) (dataK k)
theorem gR9n_text (C : Ct) (L : AtLoop) (k : List D → Prop) : gR9n C L k =
 (k [(D.val (vI (0 : Int))), (D.val (vI (10 : Int)))]) := by kernel_rfl
def gCI (C : Ct) (L : AtLoop) (n cap : Nat) (l : List Value) (k : List D → Prop) : Prop := wpFn Try.prog (hE C) L 0 20 #[S500 n cap] (heapOf [Q500 l]) (dataK k)
theorem gCI_text (C : Ct) (L : AtLoop) (n : Nat) (cap : Nat) (l : List Go.Value) (k : List D → Prop) : gCI C L n cap l k =
 (bcase (decide (0 + n * 1 ≤ List.length l))
 (bcase (n == 0)
 (((0 = 0) ∧
 (0 = 0)) ∧
 (k [(D.sl 0 1 [])]))
 (bcase (decide (0 < 0 + n))
 (bcase (decide ((2 * (0 + n) + 768) * 8 ≤ 281474976710656))
 (bcase (decide (0 + n ≤ 1099511627776))
 ((((0 + n) = (0 + n)) ∧
 ((List.length (List.take 0 (List.drop 0 []) ++ List.take (n * 1) (List.drop 0 l))) = ((0 + n) * 1))) ∧
 (k [(D.sl (0 + n) 1 ([] ++ (List.take (n * 1) (List.drop 0 l))))]))
 False)
 False)
 False))
 False) := by kernel_rfl
end Go.Proofs.G5b

/- Chapter 5: lists of numbers compared, in data. -/
namespace Go.Proofs.G5b
open Go Go.Abs Go.Proofs Go.Proofs.G5
set_option maxRecDepth 100000
end Go.Proofs.G5b

/- Chapter 5: corrections, heights after a tick, ticks of a chain, in data. -/
namespace Go.Proofs.G5b
open Go Go.Abs Go.Proofs Go.Proofs.G5
set_option maxRecDepth 100000
theorem conCA {ps : List Sv} {hs : List Int} (hv : ∀ p ∈ ps, LpV p) (hh : ∀ h ∈ hs, hgt h) (hl : hs.length = ps.length) (hn : ps.length ≤ 1000) {i : Nat} (hi : i ≤ ps.length) : C5 67 [.sl ps.length 7 (vs7 ps), dI i, .sl hs.length 1 (vi hs)] [dI (cA ps hs i)] := by
  refine con_flat hokB mixed Try.func67 rfl (by show 2 ≤ 400; omega) rfl (by kernel_rfl) (fun caps => ?_)
  show gCA _ _ ps.length (caps 500) (vs7 ps) i hs.length (caps 501) (vi hs) _
  rw [gCA_text]
  refine bc_beq (fun h => ?_) (fun h => ?_)
  · have : i = ps.length := by omega
    show _ = _
    rw [cA, if_pos this]
  · have h1 : i < ps.length := by omega
    have h2 : i < hs.length := by omega
    have hp := hv _ (List.getElem_mem h1)
    have hg := hh _ (List.getElem_mem h2)
    have ha := hp.a; have hc := hp.c0; have hb := prod_bd hp hg; have hr := corr_bd hp hg
    unfold corr at hr
    have e1 : At (vs7 ps) (Addr.off ⟨500, 0 + i * 7, none⟩ + 1) 1 [vI ps[i].b] := vs7_one ps i h1 1 _ rfl
    have e2 : At (vs7 ps) (Addr.off ⟨500, 0 + i * 7, none⟩ + 2) 1 [vI ps[i].c] := vs7_one ps i h1 2 _ rfl
    have e0 : At (vs7 ps) (0 + i * 7) 1 [vI ps[i].a] := vs7_one ps i h1 0 _ rfl
    simp only [bc_t (show (0 : Int) ≤ (i : Int) by omega), bc_t (show (i : Int) < (ps.length : Int) by omega), bc_t (show (i : Int) < (hs.length : Int) by omega), Int.toNat_natCast, at1 e0, at1 e1, at1 e2, at1 (vi_at hs i h2), bc_n (show ps[i].c ≠ 0 by omega), eq_self, true_and, and_true]
    rw [w64 (z := hs[i] - ps[i].a) (by omega) (by omega), w64 (z := ps[i].b * (hs[i] - ps[i].a)) (by omega) (by omega), w64 (by omega) (by omega)]
    show _ = _
    rw [cA, if_neg (by omega), gd_at h1, gd_at h2]
    rfl
abbrev aeS (ps : List Sv) (hs ds : List Int) (c1 c2 c3 : Nat) : Nat → Slots × Blocks
  | 0 => (sAe ps.length c1 hs.length c2 nilS 0, [L500 (vs7 ps), oMv 1000 hs.length c2 ds.length c3, Q501 (vi hs), Q502 (vi ds)])
  | i + 1 => (sAe ps.length c1 hs.length c2 (S1001 (i + 1)) ((i + 1 : Nat) : Int), [L500 (vs7 ps), oMv 1000 hs.length c2 ds.length c3, Q1001 (vi ((List.range (i + 1)).map (aftV ps hs ds))), Q501 (vi hs), Q502 (vi ds)])
theorem conAe {ps : List Sv} {hs ds : List Int} (hv : ∀ p ∈ ps, LpV p) (hh : ∀ h ∈ hs, hgt h) (hd : ∀ d ∈ ds, hgt d) (h0 : 0 < ps.length) (hl : hs.length = ps.length) (hm : ds.length = ps.length) (hn : ps.length ≤ 1000) :
    C5 41 [.sl ps.length 7 (vs7 ps), .agg [.sl hs.length 1 (vi hs), .sl ds.length 1 (vi ds)]] [.sl ps.length 1 (vi (aft ps hs ds))] := by
  let inv : Nat × Nat × Nat × Nat → Prop := fun y => y.1 ≤ ps.length
  let st : Nat × Nat × Nat × Nat → Slots × Blocks := fun y => aeS ps hs ds y.2.1 y.2.2.1 y.2.2.2 y.1
  refine con_of (L := fun _ s b => ∃ x, inv x ∧ st x = (s, b)) hokB mixed Try.func41 rfl (by show 3 ≤ 400; omega) rfl (ids := [0]) (by kernel_rfl) rfl (fun caps => ?_) (fun id hid => ?_)
  · show gAe _ _ ps.length (caps 500) (vs7 ps) hs.length (caps 501) (vi hs) ds.length (caps 502) (vi ds) _
    rw [gAe_text]
    exact ⟨(0, caps 500, caps 501, caps 502), Nat.zero_le _, rfl⟩
  · obtain rfl := List.mem_singleton.1 hid
    refine ⟨Nat × Nat × Nat × Nat, st, inv, fun y => ps.length - y.1, ⟨fun s b h => h, by kernel_rfl, ?_⟩⟩
    rintro ⟨i, c1, c2, c3⟩ hi
    have hi : i ≤ ps.length := hi
    have step : ∀ (h : i < ps.length), IntKind.wrap .i64 (IntKind.wrap .i64 (IntKind.wrap .i64 (hs[i]'(by omega) - cA ps hs i) + cA ps hs (i + 1)) + ds[i]'(by omega)) = aftV ps hs ds i := by
      intro h
      have b1 := cA_bd hv hh hl (i := i) (by omega)
      have b2 := cA_bd hv hh hl (i := i + 1) (by omega)
      have b3 := hh _ (List.getElem_mem (show i < hs.length by omega))
      have b4 := hd _ (List.getElem_mem (show i < ds.length by omega))
      rw [w64 (z := hs[i]'(by omega) - cA ps hs i) (by omega) (by omega), w64 (z := hs[i]'(by omega) - cA ps hs i + cA ps hs (i + 1)) (by omega) (by omega), w64 (by omega) (by omega), aftV, gd_at (show i < hs.length by omega), gd_at (show i < ds.length by omega)]
    have wi : i < ps.length → IntKind.wrap .i64 ((i : Int) + 1) = ((i + 1 : Nat) : Int) := fun h => by rw [w64 (by omega) (by omega)]; rfl
    cases i with
    | zero =>
      show rAe0 _ _ ps.length c1 (vs7 ps) hs.length c2 (vi hs) ds.length c3 (vi ds) ((0 : Nat) : Int) _ _ _
      rw [rAe0_text]
      simp only [bc_t (show ((0 : Nat) : Int) < (hs.length : Int) by omega), bc_t (show ((0 : Nat) : Int) < (ds.length : Int) by omega), bc_t (show (0 : Int) ≤ ((0 : Nat) : Int) by omega), Int.toNat_natCast, at1 (vi_at hs 0 (by omega)), at1 (vi_at ds 0 (by omega)), bc_t (v7le ps), bc_t (v1le hs), vs7_whole, vi_whole, wi h0, eq_self, true_and, and_true]
      refine ⟨_, ⟨conCA hv hh hl hn (i := 0) (by omega)⟩, _, ⟨conCA hv hh hl hn (i := 1) (by omega)⟩, ?_⟩
      refine ⟨(1, c1, c2, c3), h0, by show ps.length - 1 < ps.length - 0; omega, ?_⟩
      have := step h0
      rw [this]
      rfl
    | succ i =>
      show rAe1 _ _ ps.length c1 (vs7 ps) hs.length c2 (vi hs) ds.length c3 (vi ds) (i + 1) (vi ((List.range (i + 1)).map (aftV ps hs ds))) ((i + 1 : Nat) : Int) _ _ _
      rw [rAe1_text]
      refine bc_dec (fun h => ?_) (fun h => ?_)
      · have h1 : i + 1 < ps.length := by omega
        simp only [bc_t h, bc_t (show ((i + 1 : Nat) : Int) < (ds.length : Int) by omega), bc_t (show (0 : Int) ≤ ((i + 1 : Nat) : Int) by omega), Int.toNat_natCast, at1 (vi_at hs (i + 1) (by omega)), at1 (vi_at ds (i + 1) (by omega)), bc_t (v7le ps), bc_t (v1le hs), vs7_whole, vi_whole, wi h1, rg_take, eq_self, true_and, and_true]
        refine ⟨_, ⟨conCA hv hh hl hn (i := i + 1) (by omega)⟩, _, ⟨conCA hv hh hl hn (i := i + 2) (by omega)⟩, ?_⟩
        refine bc_yes (by omega) (bc_yes (by omega) (bc_yes (by omega) (bc_yes (by simp) (bc_yes (by simp) ⟨(i + 2, c1, c2, c3), h1, by show ps.length - (i + 2) < ps.length - (i + 1); omega, ?_⟩))))
        have := step h1
        rw [this]
        have e := rg_snoc (aftV ps hs ds) (i + 1)
        show (_, [L500 (vs7 ps), oMv 1000 hs.length c2 ds.length c3, (1001, AObj.sym (vi ((List.range (i + 1 + 1)).map (aftV ps hs ds))) true 1), Q501 (vi hs), Q502 (vi ds)]) = _
        rw [← e]; rfl
      · show (if 0 = 0 then _ else _)
        rw [if_pos rfl]
        show nAe1 _ _ (i + 1) (vi ((List.range (i + 1)).map (aftV ps hs ds))) _
        rw [nAe1_text]
        refine ⟨by simp, ?_⟩
        have : i + 1 = ps.length := by omega
        show _ = _
        rw [aft, ← this]
end Go.Proofs.G5b

/- Chapter 5: a tick of a chain, with its errors, in data. -/
namespace Go.Proofs.G5b
open Go Go.Abs Go.Proofs Go.Proofs.G5
set_option maxRecDepth 100000
theorem mvGo_at {ps : List Sv} {hs ds : List Int} {i : Nat} (h1 : i < ps.length) (h2 : i < hs.length) (h3 : i < ds.length) :
    mvGo (ps.drop i) (hs.drop i) (ds.drop i) = if ps[i].f ≤ hs[i] ∧ hs[i] ≤ ps[i].g then (if ps[i].d ≤ ds[i] ∧ ds[i] ≤ ps[i].e then mvGo (ps.drop (i + 1)) (hs.drop (i + 1)) (ds.drop (i + 1)) else 2) else 22 := by
  rw [List.drop_eq_getElem_cons h1, List.drop_eq_getElem_cons h2, List.drop_eq_getElem_cons h3]; rfl
theorem mvGo_end {ps : List Sv} {hs ds : List Int} {i : Nat} (h : ps.length ≤ i) : mvGo (ps.drop i) (hs.drop i) (ds.drop i) = 0 := by
  rw [List.drop_eq_nil_of_le h]; simp [mvGo]
def stD (ps : List Sv) (hs ds : List Int) : List D :=
  if (chE ps).2 ≠ 0 then [.nil, dI (chE ps).2] else if mvE ps hs ds ≠ 0 then [.nil, dI (mvE ps hs ds)] else [.sl ps.length 1 (vi (aft ps hs ds)), dI 0]
theorem sameE2 (a b c : Int) : sameE a [b, c] = if b ≠ a ∨ c ≠ a then 10 else 0 := by
  simp only [sameE]
  repeat' split
  all_goals first | rfl | omega
theorem conSt (ps : List Sv) (hs ds : List Int) (hn : ps.length ≤ 1000) : C5 11 [.agg [.sl ps.length 7 (vs7 ps)], .agg [.sl hs.length 1 (vi hs), .sl ds.length 1 (vi ds)]] (stD ps hs ds) := by
  let inv : Nat × Nat × Nat × Nat → Prop := fun y => y.1 ≤ ps.length ∧ (chE ps).2 = 0 ∧ hs.length = ps.length ∧ ds.length = ps.length ∧ mvE ps hs ds = mvGo (ps.drop y.1) (hs.drop y.1) (ds.drop y.1)
  let st : Nat × Nat × Nat × Nat → Slots × Blocks := fun y => (sSt ps.length y.2.1 y.1, [oMv 1000 hs.length y.2.2.1 ds.length y.2.2.2, L500 (vs7 ps), Q501 (vi hs), Q502 (vi ds)])
  refine con_of (L := fun _ s b => ∃ x, inv x ∧ st x = (s, b)) hokB mixed Try.func11 rfl (by show 3 ≤ 400; omega) rfl (ids := [0]) (by kernel_rfl) rfl (fun caps => ?_) (fun id hid => ?_)
  · show gSt _ _ ps.length (caps 500) (vs7 ps) hs.length (caps 501) (vi hs) ds.length (caps 502) (vi ds) _
    rw [gSt_text]
    simp only [bc_t (v7le ps), vs7_whole, eq_self, true_and, and_true]
    refine ⟨_, _, ⟨conC9 ps (by omega)⟩, bc_bne (fun h => ?_) (fun h => ?_)⟩
    · refine ⟨_, ⟨conCS 0 [(hs.length : Int), (ds.length : Int)] (by simp)⟩, _, ⟨conFE [(chE ps).2, sameE 0 [(hs.length : Int), (ds.length : Int)]] (by simp)⟩, ?_⟩
      rw [fst0_two, if_neg h]
      refine bc_bne (fun _ => ?_) (fun h' => absurd h' h)
      show _ = _
      rw [stD, if_pos h]
    · refine ⟨_, ⟨conCS (ps.length : Int) [(hs.length : Int), (ds.length : Int)] (by simp)⟩, _, ⟨conFE [0, sameE (ps.length : Int) [(hs.length : Int), (ds.length : Int)]] (by simp)⟩, ?_⟩
      rw [fst0_two, if_pos rfl, sameE2]
      by_cases hl : hs.length ≠ ps.length ∨ ds.length ≠ ps.length
      · rw [if_pos (show (hs.length : Int) ≠ (ps.length : Int) ∨ (ds.length : Int) ≠ (ps.length : Int) by omega)]
        refine bc_bne (fun _ => ?_) (fun h' => absurd h' (by decide))
        have hm : mvE ps hs ds = 10 := if_pos hl
        show _ = _
        rw [stD, if_neg (fun x => x h), hm, if_pos (by decide)]
      · rw [if_neg (show ¬ ((hs.length : Int) ≠ (ps.length : Int) ∨ (ds.length : Int) ≠ (ps.length : Int)) by omega)]
        refine bc_bne (fun h' => absurd rfl h') (fun _ => ?_)
        exact ⟨(0, caps 500, caps 501, caps 502), ⟨Nat.zero_le _, h, by omega, by omega, if_neg hl⟩, rfl⟩
  · obtain rfl := List.mem_singleton.1 hid
    refine ⟨Nat × Nat × Nat × Nat, st, inv, fun y => ps.length - y.1, ⟨fun s b h => h, by kernel_rfl, ?_⟩⟩
    rintro ⟨i, c1, c2, c3⟩ ⟨hi, hc, hl, hm, hr⟩
    simp only at hi hr
    show rSt _ _ ps.length c1 (vs7 ps) hs.length c2 (vi hs) ds.length c3 (vi ds) (i : Int) _ _ _
    rw [rSt_text]
    refine bc_dec (fun h => ?_) (fun h => ?_)
    · have h1 : i < ps.length := by omega
      rw [mvGo_at h1 (by omega) (by omega)] at hr
      simp only [bc_t h, bc_t (show (0 : Int) ≤ (i : Int) by omega), bc_t (show (i : Int) < (hs.length : Int) by omega), bc_t (show (i : Int) < (ds.length : Int) by omega), Int.toNat_natCast, at1 (vi_at hs i (by omega)), at1 (vi_at ds i (by omega)), at7 (vs7_all ps i h1), eq_self, true_and, and_true]
      refine ⟨_, wit_rng, _, wit_rng, _, ⟨conFE [rngE ps[i].f ps[i].g 22 hs[i], rngE ps[i].d ps[i].e 2 ds[i]] (by simp)⟩, ?_⟩
      have he : fst0 [rngE ps[i].f ps[i].g 22 hs[i], rngE ps[i].d ps[i].e 2 ds[i]] = if ps[i].f ≤ hs[i] ∧ hs[i] ≤ ps[i].g then (if ps[i].d ≤ ds[i] ∧ ds[i] ≤ ps[i].e then 0 else 2) else 22 := by
        rw [fst0_rng (by decide), fst0_rng (by decide)]; rfl
      rw [he]
      by_cases q1 : ps[i].f ≤ hs[i] ∧ hs[i] ≤ ps[i].g
      · rw [if_pos q1] at hr ⊢
        by_cases q2 : ps[i].d ≤ ds[i] ∧ ds[i] ≤ ps[i].e
        · rw [if_pos q2] at hr ⊢
          refine bc_bne (fun h' => absurd rfl h') (fun _ => ?_)
          refine ⟨(i + 1, c1, c2, c3), ⟨h1, hc, hl, hm, hr⟩, by show ps.length - (i + 1) < ps.length - i; omega, ?_⟩
          rw [w64 (by omega) (by omega)]; rfl
        · rw [if_neg q2] at hr ⊢
          refine bc_bne (fun _ => ?_) (fun h' => absurd h' (by decide))
          show _ = _
          rw [stD, if_neg (fun x => x hc), hr, if_pos (by decide)]
      · rw [if_neg q1] at hr ⊢
        refine bc_bne (fun _ => ?_) (fun h' => absurd h' (by decide))
        show _ = _
        rw [stD, if_neg (fun x => x hc), hr, if_pos (by decide)]
    · show (if 0 = 0 then _ else _)
      rw [if_pos rfl]
      show nSt _ _ ps.length c1 (vs7 ps) hs.length c2 (vi hs) ds.length c3 (vi ds) _
      rw [nSt_text]
      rw [mvGo_end (by omega)] at hr
      have hok := chE_ok hc
      have hmv : mvGo ps hs ds = 0 := by
        unfold mvE at hr
        rwa [if_neg (by omega)] at hr
      have hb := mvGo_ok hl hm hmv hok.2.2
      simp only [bc_t (v7le ps), bc_t (v1le hs), bc_t (v1le ds), vs7_whole, vi_whole, eq_self, true_and, and_true]
      refine .inr ⟨_, _, ⟨conAe hok.2.2 hb.1 hb.2 hok.1 hl hm hn⟩, by simp [aft_length], ?_⟩
      show _ = _
      rw [stD, if_neg (fun x => x hc), hr, if_neg (by decide)]
end Go.Proofs.G5b

/- GaugeChains in data. -/
namespace Go.Proofs.G5b
open Go Go.Abs Go.Proofs Go.Proofs.G5
set_option maxRecDepth 100000
theorem hokE' : HandlerOK Try.prog (hE C5) := handlerX_ok mixed (fun g h he => by cases he) (by decide) 6
theorem conCpC (l : List Sv) (hl : l.length ≤ 1000000) : C5 10 [.agg [.sl l.length 7 (vs7 l)]] [.agg [.sl l.length 7 (vs7 l)]] := by
  refine con_flat hokE' mixed Try.func10 rfl (by show 1 ≤ 400; omega) rfl (by kernel_rfl) (fun caps => ?_)
  show gCpC _ _ l.length (caps 500) (vs7 l) _
  rw [gCpC_text]
  refine bc_yes (by simp) (bc_beq (fun h0 => ⟨⟨rfl, rfl⟩, ?_⟩) (fun h0 => bc_yes (by omega) (bc_yes (by omega) (bc_yes (by omega) ⟨⟨rfl, by simp⟩, ?_⟩))))
  · obtain rfl : l = [] := List.length_eq_zero_iff.1 h0
    rfl
  · rw [vs7_whole, Nat.zero_add, List.nil_append]
theorem conSm (l : List Sv) : C5 8 [.agg [.sl l.length 7 (vs7 l)]] [.val (.bool (decide (l.length ≤ 7)))] := by
  refine con_flat hokE' mixed Try.func8 rfl (by show 1 ≤ 400; omega) rfl (by kernel_rfl) (fun caps => ?_)
  show gSm _ _ l.length (caps 500) (vs7 l) _
  rw [gSm_text]
  refine bc_dec (fun h => ?_) (fun h => ?_)
  · show _ = _; rw [decide_eq_true (by omega)]
  · show _ = _; rw [decide_eq_false (by omega)]
theorem conSmn : C5 8 [.agg [.nil]] [.val (.bool true)] := by
  refine con_flat hokE' mixed Try.func8 rfl (by show 0 ≤ 400; omega) rfl (by kernel_rfl) (fun caps => ?_)
  show gSmn _ _ _
  rw [gSmn_text]
theorem conR9n : C5 13 [.agg [.nil]] [dI 0, dI 10] := by
  refine con_of (L := fun _ _ _ => False) hokB mixed Try.func13 rfl (by show 0 ≤ 400; omega) rfl (ids := [0]) (by kernel_rfl) rfl (fun caps => ?_) (fun id hid => ?_)
  · show gR9n _ _ _
    rw [gR9n_text]
  · obtain rfl := List.mem_singleton.1 hid
    exact ⟨Unit, fun _ => ([], []), fun _ => False, fun _ => 0, ⟨fun s b h => h.elim, by kernel_rfl, fun _ h => h.elim⟩⟩
theorem conCIx (l : List Int) (hl : l.length ≤ 1000000) : C5 20 [.sl l.length 1 (vi l)] [.sl l.length 1 (vi l)] := by
  refine con_flat hokE' mixed Try.func20 rfl (by show 1 ≤ 400; omega) rfl (by kernel_rfl) (fun caps => ?_)
  show gCI _ _ l.length (caps 500) (vi l) _
  rw [gCI_text]
  refine bc_yes (by simp) (bc_beq (fun h0 => ⟨⟨rfl, rfl⟩, ?_⟩) (fun h0 => bc_yes (by omega) (bc_yes (by omega) (bc_yes (by omega) ⟨⟨rfl, by simp⟩, ?_⟩))))
  · obtain rfl : l = [] := List.length_eq_zero_iff.1 h0
    rfl
  · rw [vi_whole, Nat.zero_add, List.nil_append]
end Go.Proofs.G5b

/- Chapter 5: boxes of heights: what they become after a tick, and the smallest box that is kept. -/
namespace Go.Abs
abbrev Bxs := List (Int × Int)
def los (b : Bxs) : List Int := b.map Prod.fst
def his (b : Bxs) : List Int := b.map Prod.snd
def dls (ps : List Sv) : List Int := ps.map Sv.d
def dhs (ps : List Sv) : List Int := ps.map Sv.e
@[simp] theorem los_length (b : Bxs) : (los b).length = b.length := by simp [los]
@[simp] theorem his_length (b : Bxs) : (his b).length = b.length := by simp [his]
@[simp] theorem dls_length (ps : List Sv) : (dls ps).length = ps.length := by simp [dls]
@[simp] theorem dhs_length (ps : List Sv) : (dhs ps).length = ps.length := by simp [dhs]
/-- two lists as one of pairs -/
def bxOf (a b : List Int) : Bxs := (List.range a.length).map fun j => (a.getD j 0, b.getD j 0)
def img (ps : List Sv) (b : Bxs) : Bxs := bxOf (aft ps (los b) (dls ps)) (aft ps (his b) (dhs ps))
def mnI (x y : Int) : Int := if y < x then y else x
def mxI (x y : Int) : Int := if y > x then y else x
def bth (b c : Bxs) : Bxs := (List.range b.length).map fun j => (mnI (b.getD j (0, 0)).1 (c.getD j (0, 0)).1, mxI (b.getD j (0, 0)).2 (c.getD j (0, 0)).2)
@[simp] theorem bxOf_length (a b : List Int) : (bxOf a b).length = a.length := by simp [bxOf]
@[simp] theorem img_length (ps : List Sv) (b : Bxs) : (img ps b).length = ps.length := by simp [img, aft_length]
@[simp] theorem bth_length (b c : Bxs) : (bth b c).length = b.length := by simp [bth]
theorem vp_snoc : ∀ (r : Bxs) (a b : Int), vp r ++ [.int .i64 a, .int .i64 b] = vp (r ++ [(a, b)])
  | [], _, _ => rfl
  | p :: r, a, b => by simp only [vp, List.cons_append, vp_snoc r a b]
theorem rp_snoc (f : Nat → Int × Int) (i : Nat) : vp ((List.range i).map f) ++ [.int .i64 (f i).1, .int .i64 (f i).2] = vp ((List.range (i + 1)).map f) := by
  rw [vp_snoc, List.range_succ, List.map_append]; rfl
theorem rp_take (f : Nat → Int × Int) (i : Nat) : List.take (i * 2) (List.drop 0 (vp ((List.range i).map f))) = vp ((List.range i).map f) := by
  rw [List.drop_zero, List.take_of_length_le (by simp)]
theorem vple (l : Bxs) : 0 + l.length * 2 ≤ (vp l).length := by simp
theorem rg_get {f : Nat → Int × Int} {n i : Nat} (h : i < n) : ((List.range n).map f).getD i (0, 0) = f i := by simp [List.getD, h]
theorem rg_getI {f : Nat → Int} {n i : Nat} (h : i < n) : ((List.range n).map f).getD i 0 = f i := by simp [List.getD, h]
theorem los_at {b : Bxs} {i : Nat} (h : i < b.length) : (los b).getD i 0 = b[i].1 := by simp [los, List.getD, h]
theorem his_at {b : Bxs} {i : Nat} (h : i < b.length) : (his b).getD i 0 = b[i].2 := by simp [his, List.getD, h]
theorem dls_at {ps : List Sv} {i : Nat} (h : i < ps.length) : (dls ps).getD i 0 = ps[i].d := by simp [dls, List.getD, h]
theorem dhs_at {ps : List Sv} {i : Nat} (h : i < ps.length) : (dhs ps).getD i 0 = ps[i].e := by simp [dhs, List.getD, h]
theorem vs7_de (l : List Sv) (i : Nat) (h : i < l.length) (b : Nat) : At (vs7 l) (Addr.off ⟨b, 0 + i * 7, none⟩ + 3) 2 [.int .i64 l[i].d, .int .i64 l[i].e] := by
  refine ⟨by rw [vs7_length]; show 0 + i * 7 + 3 + 2 ≤ _; omega, ?_⟩
  show ((vs7 l).drop (0 + i * 7 + 3)).take 2 = _
  rw [Nat.zero_add, ← List.drop_drop, vs7_drop, List.drop_eq_getElem_cons h, vs7_cons]
  rfl
theorem vs7_fg (l : List Sv) (i : Nat) (h : i < l.length) (b : Nat) : At (vs7 l) (Addr.off ⟨b, 0 + i * 7, none⟩ + 5) 2 [.int .i64 l[i].f, .int .i64 l[i].g] := by
  refine ⟨by rw [vs7_length]; show 0 + i * 7 + 5 + 2 ≤ _; omega, ?_⟩
  show ((vs7 l).drop (0 + i * 7 + 5)).take 2 = _
  rw [Nat.zero_add, ← List.drop_drop, vs7_drop, List.drop_eq_getElem_cons h, vs7_cons]
  rfl
/-- a box lies in the limits -/
def ilB : List Sv → Bxs → Bool
  | p :: ps, r :: rs => if (p.f ≤ r.1 ∧ r.1 ≤ p.g) ∧ (p.f ≤ r.2 ∧ r.2 ≤ p.g) then ilB ps rs else false
  | _, _ => true
/-- the first range of a box that is wrong, from an index on -/
def cbGo : Nat → List Sv → Bxs → Int × Int
  | i, p :: ps, r :: rs => if r.1 > r.2 then (i, 9) else if (p.f ≤ r.1 ∧ r.1 ≤ p.g) ∧ (p.f ≤ r.2 ∧ r.2 ≤ p.g) then cbGo (i + 1) ps rs else (i, 22)
  | _, _, _ => (0, 0)
/-- the first range that is left -/
def pfGo : Nat → Bxs → Bxs → Int × Int
  | i, r :: rs, o :: os => if o.1 < r.1 ∨ o.1 > r.2 ∨ o.2 < r.1 ∨ o.2 > r.2 then (i, 19) else pfGo (i + 1) rs os
  | _, _, _ => (0, 0)
def cbP (ps : List Sv) (b : Bxs) : Int × Int :=
  if (chE ps).2 ≠ 0 then (0, (chE ps).2) else if b.length ≠ ps.length then (0, 10) else if (cbGo 0 ps b).2 ≠ 0 then cbGo 0 ps b else pfGo 0 b (img ps b)
/-- the first height out of the limits -/
def stGo : List Sv → List Int → Int
  | p :: ps, h :: hs => if p.f ≤ h ∧ h ≤ p.g then stGo ps hs else 22
  | _, _ => 0
/-- how a box grows until it is kept, or leaves the limits -/
inductive Grow (ps : List Sv) : Bxs → Option Bxs → Prop
  | stop {b : Bxs} (h : bth b (img ps b) = b) : Grow ps b (some b)
  | out {b : Bxs} (h : bth b (img ps b) ≠ b) (h2 : ilB ps (bth b (img ps b)) = false) : Grow ps b none
  | step {b : Bxs} {r : Option Bxs} (h : bth b (img ps b) ≠ b) (h2 : ilB ps (bth b (img ps b)) = true) (h3 : Grow ps (bth b (img ps b)) r) : Grow ps b r
def slack : List Sv → Bxs → Nat
  | p :: ps, r :: rs => (r.1 - p.f).toNat + (p.g - r.2).toNat + slack ps rs
  | _, _ => 0
theorem bth_cons (r o : Int × Int) (rs os : Bxs) : bth (r :: rs) (o :: os) = (mnI r.1 o.1, mxI r.2 o.2) :: bth rs os := by
  simp [bth, List.range_succ_eq_map, List.map_map, Function.comp_def]
theorem mnI_le (x y : Int) : mnI x y ≤ x ∧ mnI x y ≤ y ∧ (mnI x y = x ∨ mnI x y = y) := by unfold mnI; split <;> omega
theorem mxI_le (x y : Int) : x ≤ mxI x y ∧ y ≤ mxI x y ∧ (mxI x y = x ∨ mxI x y = y) := by unfold mxI; split <;> omega
theorem slack_bth : ∀ {ps : List Sv} {b c : Bxs}, b.length = ps.length → c.length = ps.length → ilB ps (bth b c) = true → slack ps (bth b c) ≤ slack ps b ∧ (slack ps (bth b c) = slack ps b → bth b c = b)
  | [], [], [], _, _, _ => by simp [bth, slack]
  | p :: ps, r :: rs, o :: os, h1, h2, h => by
    simp only [List.length_cons, Nat.add_right_cancel_iff] at h1 h2
    rw [bth_cons] at h ⊢
    unfold ilB at h
    split at h
    · rename_i hc
      have ih := slack_bth h1 h2 h
      have a1 := mnI_le r.1 o.1
      have a2 := mxI_le r.2 o.2
      simp only [slack]
      refine ⟨by omega, fun he => ?_⟩
      have e1 : mnI r.1 o.1 = r.1 := by omega
      have e2 : mxI r.2 o.2 = r.2 := by omega
      rw [ih.2 (by omega), e1, e2]
    · cases h
  | [], _ :: _, _, h1, _, _ => by simp at h1
  | _ :: _, [], _, h1, _, _ => by simp at h1
  | [], [], _ :: _, _, h2, _ => by simp at h2
  | _ :: _, _ :: _, [], _, h2, _ => by simp at h2
theorem slack_lt {ps : List Sv} {b c : Bxs} (h1 : b.length = ps.length) (h2 : c.length = ps.length) (h : ilB ps (bth b c) = true) (hne : bth b c ≠ b) : slack ps (bth b c) < slack ps b := by
  have := slack_bth h1 h2 h
  rcases Nat.lt_or_ge (slack ps (bth b c)) (slack ps b) with h3 | h3
  · exact h3
  · exact absurd (this.2 (by omega)) hne
theorem ilB_hgt : ∀ {ps : List Sv} {b : Bxs}, (∀ p ∈ ps, LpV p) → b.length = ps.length → ilB ps b = true → (∀ h ∈ los b, hgt h) ∧ (∀ h ∈ his b, hgt h)
  | [], [], _, _, _ => by simp [los, his]
  | p :: ps, r :: rs, hv, h1, h => by
    simp only [List.length_cons, Nat.add_right_cancel_iff] at h1
    unfold ilB at h
    split at h
    · rename_i hc
      have hp := hv p (List.mem_cons_self ..)
      have a1 := hp.f; have a2 := hp.g
      have ih := ilB_hgt (fun q hq => hv q (List.mem_cons_of_mem _ hq)) h1 h
      refine ⟨fun x hx => ?_, fun x hx => ?_⟩
      · rcases List.mem_cons.1 hx with rfl | hx
        · exact ⟨by omega, by omega⟩
        · exact ih.1 x hx
      · rcases List.mem_cons.1 hx with rfl | hx
        · exact ⟨by omega, by omega⟩
        · exact ih.2 x hx
    · cases h
  | [], _ :: _, _, h1, _ => by simp at h1
  | _ :: _, [], _, h1, _ => by simp at h1
theorem grow_all {ps : List Sv} : ∀ (n : Nat) {b : Bxs}, slack ps b ≤ n → b.length = ps.length → ∃ r, Grow ps b r := by
  intro n
  induction n with
  | zero =>
    intro b hs hl
    by_cases h : bth b (img ps b) = b
    · exact ⟨_, .stop h⟩
    · cases h2 : ilB ps (bth b (img ps b)) with
      | false => exact ⟨_, .out h h2⟩
      | true => have := slack_lt hl (img_length ps b) h2 h; omega
  | succ n ih =>
    intro b hs hl
    by_cases h : bth b (img ps b) = b
    · exact ⟨_, .stop h⟩
    · cases h2 : ilB ps (bth b (img ps b)) with
      | false => exact ⟨_, .out h h2⟩
      | true =>
        have := slack_lt hl (img_length ps b) h2 h
        obtain ⟨r, hr⟩ := ih (b := bth b (img ps b)) (by omega) (by rw [bth_length]; exact hl)
        exact ⟨r, .step h h2 hr⟩
theorem cbGo_ok : ∀ {ps : List Sv} {b : Bxs} {i : Nat}, b.length = ps.length → (cbGo i ps b).2 = 0 → ilB ps b = true ∧ ∀ r ∈ b, r.1 ≤ r.2
  | [], [], _, _, _ => by simp [ilB]
  | p :: ps, r :: rs, i, h1, h => by
    simp only [List.length_cons, Nat.add_right_cancel_iff] at h1
    unfold cbGo at h
    split at h
    · simp at h
    · rename_i h9
      split at h
      · rename_i hc
        have ih := cbGo_ok h1 h
        refine ⟨by unfold ilB; rw [if_pos hc]; exact ih.1, fun x hx => ?_⟩
        rcases List.mem_cons.1 hx with rfl | hx
        · omega
        · exact ih.2 x hx
      · simp at h
  | [], _ :: _, _, h1, _ => by simp at h1
  | _ :: _, [], _, h1, _ => by simp at h1
theorem stGo_ok : ∀ {ps : List Sv} {hs : List Int}, hs.length = ps.length → stGo ps hs = 0 → ilB ps (bxOf hs hs) = true
  | [], [], _, _ => by simp [ilB]
  | p :: ps, h :: hs, h1, h0 => by
    simp only [List.length_cons, Nat.add_right_cancel_iff] at h1
    unfold stGo at h0
    split at h0
    · rename_i hc
      have ih := stGo_ok h1 h0
      have e : bxOf (h :: hs) (h :: hs) = (h, h) :: bxOf hs hs := by
        simp [bxOf, List.range_succ_eq_map, List.map_map, Function.comp_def]
      rw [e]
      unfold ilB
      rw [if_pos ⟨hc, hc⟩]; exact ih
    · omega
  | [], _ :: _, h1, _ => by simp at h1
  | _ :: _, [], h1, _ => by simp at h1
theorem ilB_at {ps : List Sv} {b : Bxs} {i : Nat} (h1 : i < ps.length) (h2 : i < b.length) : ilB (ps.drop i) (b.drop i) = if (ps[i].f ≤ b[i].1 ∧ b[i].1 ≤ ps[i].g) ∧ (ps[i].f ≤ b[i].2 ∧ b[i].2 ≤ ps[i].g) then ilB (ps.drop (i + 1)) (b.drop (i + 1)) else false := by
  rw [List.drop_eq_getElem_cons h1, List.drop_eq_getElem_cons h2]; rfl
theorem ilB_end {ps : List Sv} {b : Bxs} {i : Nat} (h : b.length ≤ i) : ilB (ps.drop i) (b.drop i) = true := by
  rw [List.drop_eq_nil_of_le h]; unfold ilB; split <;> simp_all
theorem cbGo_at {ps : List Sv} {b : Bxs} {i : Nat} (h1 : i < ps.length) (h2 : i < b.length) : cbGo i (ps.drop i) (b.drop i) = if b[i].1 > b[i].2 then ((i : Int), 9) else if (ps[i].f ≤ b[i].1 ∧ b[i].1 ≤ ps[i].g) ∧ (ps[i].f ≤ b[i].2 ∧ b[i].2 ≤ ps[i].g) then cbGo (i + 1) (ps.drop (i + 1)) (b.drop (i + 1)) else ((i : Int), 22) := by
  rw [List.drop_eq_getElem_cons h1, List.drop_eq_getElem_cons h2]; rfl
theorem cbGo_end {ps : List Sv} {b : Bxs} {i : Nat} (h : b.length ≤ i) : cbGo i (ps.drop i) (b.drop i) = (0, 0) := by
  rw [List.drop_eq_nil_of_le h]; unfold cbGo; split <;> simp_all
theorem pfGo_at {b c : Bxs} {i : Nat} (h1 : i < b.length) (h2 : i < c.length) : pfGo i (b.drop i) (c.drop i) = if c[i].1 < b[i].1 ∨ c[i].1 > b[i].2 ∨ c[i].2 < b[i].1 ∨ c[i].2 > b[i].2 then ((i : Int), 19) else pfGo (i + 1) (b.drop (i + 1)) (c.drop (i + 1)) := by
  rw [List.drop_eq_getElem_cons h1, List.drop_eq_getElem_cons h2]; rfl
theorem pfGo_end {b c : Bxs} {i : Nat} (h : b.length ≤ i) : pfGo i (b.drop i) (c.drop i) = (0, 0) := by
  rw [List.drop_eq_nil_of_le h]; unfold pfGo; rfl
theorem stGo_at {ps : List Sv} {hs : List Int} {i : Nat} (h1 : i < ps.length) (h2 : i < hs.length) : stGo (ps.drop i) (hs.drop i) = if ps[i].f ≤ hs[i] ∧ hs[i] ≤ ps[i].g then stGo (ps.drop (i + 1)) (hs.drop (i + 1)) else 22 := by
  rw [List.drop_eq_getElem_cons h1, List.drop_eq_getElem_cons h2]; rfl
theorem stGo_end {ps : List Sv} {hs : List Int} {i : Nat} (h : hs.length ≤ i) : stGo (ps.drop i) (hs.drop i) = 0 := by
  rw [List.drop_eq_nil_of_le h]; unfold stGo; split <;> simp_all
end Go.Abs
