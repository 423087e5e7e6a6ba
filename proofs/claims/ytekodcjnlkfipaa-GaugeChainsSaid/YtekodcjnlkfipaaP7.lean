/- Texts of the proof, put together: GbT8, GbB1, GbT3. -/
import Derived.Test.YtekodcjnlkfipaaP5
import Derived.Test.YtekodcjnlkfipaaGbA
import Derived.Test.YtekodcjnlkfipaaP4
/- What is left to show of each function, written out; the kernel reckons it. -/
namespace Go.Proofs.G5b
open Go Go.Abs Go.Proofs
set_option maxRecDepth 100000
set_option linter.unusedVariables false
abbrev vL (a b c d e f g : Int) : Value := .agg #[vI a, vI b, vI c, vI d, vI e, vI f, vI g]
abbrev L500 (l : List Value) : Nat × AObj := (500, .sym l false 7)
def copyChain : List D → Option (List D) := fun ds => match ds with | [.agg [.sl n es cs]] => some [.agg [.sl n es cs]] | [.agg [.nil]] => some [.agg [.sl 0 7 []]] | _ => none
def preB (C : Ct) : FuncId → Option Handler := fun g => if g == 66 then some (stateH (witAll 3 56 30)) else if g == 20 then some (fixH C copyInts) else if g == 10 then some (fixH C copyChain) else if [7, 37, 38, 34, 35, 42, 9, 13, 67, 43, 41, 16, 11, 14, 15, 26, 21, 8].contains g then some (saidH Try.prog C) else none
abbrev hB (C : Ct) : Handler := handlerX Try.prog (preB C) 12 6
def gCL (C : Ct) (L : AtLoop) (a b c d e f g : Int) (k : List D → Prop) : Prop := wpFn Try.prog (hB C) L 0 35 #[vL a b c d e f g] (heapOf []) (dataK k)
theorem gCL_text (C : Ct) (L : AtLoop) (a : Int) (b : Int) (c : Int) (d : Int) (e : Int) (f : Int) (g : Int) (k : List D → Prop) : gCL C L a b c d e f g k =
 (((((Go.Value.slice (Option.some (Go.Addr.mk 1003 0 Option.none)) 1 1) = (Go.Value.slice (Option.some (Go.Addr.mk 1003 0 Option.none)) 1 1)) ∧
 ((Option.some (AObj.cells [(vI c)] 3 false 1)) = (Option.some (AObj.cells [(vI c)] 3 false 1)))) ∧
 (((vI c) = (vI c)) ∧
 (((Go.Value.pointer (Option.some (Go.Addr.mk 1000 2 Option.none))) = (Go.Value.pointer (Option.some (Go.Addr.mk 1000 2 Option.none)))) ∧
 ((((Go.Value.slice (Option.some (Go.Addr.mk 1002 0 Option.none)) 1 1) = (Go.Value.slice (Option.some (Go.Addr.mk 1002 0 Option.none)) 1 1)) ∧
 ((Option.some (AObj.cells [(vI b)] 3 false 1)) = (Option.some (AObj.cells [(vI b)] 3 false 1)))) ∧
 (((vI b) = (vI b)) ∧
 (((Go.Value.pointer (Option.some (Go.Addr.mk 1000 1 Option.none))) = (Go.Value.pointer (Option.some (Go.Addr.mk 1000 1 Option.none)))) ∧
 ((((Go.Value.slice (Option.some (Go.Addr.mk 1001 0 Option.none)) 5 5) = (Go.Value.slice (Option.some (Go.Addr.mk 1001 0 Option.none)) 5 5)) ∧
 ((Option.some (AObj.cells [(vI a), (vI d), (vI e), (vI f), (vI g)] 3 false 1)) = (Option.some (AObj.cells [(vI a), (vI d), (vI e), (vI f), (vI g)] 3 false 1)))) ∧
 (((vI g) = (vI g)) ∧
 (((Go.Value.pointer (Option.some (Go.Addr.mk 1000 6 Option.none))) = (Go.Value.pointer (Option.some (Go.Addr.mk 1000 6 Option.none)))) ∧
 (((Go.Value.pointer (Option.some (Go.Addr.mk 1000 5 Option.none))) = (Go.Value.pointer (Option.some (Go.Addr.mk 1000 5 Option.none)))) ∧
 (((vI f) = (vI f)) ∧
 (((Go.Value.pointer (Option.some (Go.Addr.mk 1000 5 Option.none))) = (Go.Value.pointer (Option.some (Go.Addr.mk 1000 5 Option.none)))) ∧
 (((Go.Value.pointer (Option.some (Go.Addr.mk 1000 5 Option.none))) = (Go.Value.pointer (Option.some (Go.Addr.mk 1000 5 Option.none)))) ∧
 (((vI e) = (vI e)) ∧
 (((Go.Value.pointer (Option.some (Go.Addr.mk 1000 4 Option.none))) = (Go.Value.pointer (Option.some (Go.Addr.mk 1000 4 Option.none)))) ∧
 (((Go.Value.pointer (Option.some (Go.Addr.mk 1000 3 Option.none))) = (Go.Value.pointer (Option.some (Go.Addr.mk 1000 3 Option.none)))) ∧
 (((vI d) = (vI d)) ∧
 (((Go.Value.pointer (Option.some (Go.Addr.mk 1000 3 Option.none))) = (Go.Value.pointer (Option.some (Go.Addr.mk 1000 3 Option.none)))) ∧
 (((Go.Value.pointer (Option.some (Go.Addr.mk 1000 3 Option.none))) = (Go.Value.pointer (Option.some (Go.Addr.mk 1000 3 Option.none)))) ∧
 (((vI a) = (vI a)) ∧
 (((Go.Value.pointer (Option.some (Go.Addr.mk 1000 0 Option.none))) = (Go.Value.pointer (Option.some (Go.Addr.mk 1000 0 Option.none)))) ∧
 True))))))))))))))))))))) ∧
 (((((Go.Value.slice (Option.some (Go.Addr.mk 1003 0 Option.none)) 1 1) = (Go.Value.slice (Option.some (Go.Addr.mk 1003 0 Option.none)) 1 1)) ∧
 ((Option.some (AObj.cells [(vI c)] 3 false 1)) = (Option.some (AObj.cells [(vI c)] 3 false 1)))) ∧
 (((vI c) = (vI c)) ∧
 (((Go.Value.pointer (Option.some (Go.Addr.mk 1000 2 Option.none))) = (Go.Value.pointer (Option.some (Go.Addr.mk 1000 2 Option.none)))) ∧
 ((((Go.Value.slice (Option.some (Go.Addr.mk 1002 0 Option.none)) 1 1) = (Go.Value.slice (Option.some (Go.Addr.mk 1002 0 Option.none)) 1 1)) ∧
 ((Option.some (AObj.cells [(vI b)] 3 false 1)) = (Option.some (AObj.cells [(vI b)] 3 false 1)))) ∧
 (((vI b) = (vI b)) ∧
 (((Go.Value.pointer (Option.some (Go.Addr.mk 1000 1 Option.none))) = (Go.Value.pointer (Option.some (Go.Addr.mk 1000 1 Option.none)))) ∧
 ((((Go.Value.slice (Option.some (Go.Addr.mk 1001 0 Option.none)) 5 5) = (Go.Value.slice (Option.some (Go.Addr.mk 1001 0 Option.none)) 5 5)) ∧
 ((Option.some (AObj.cells [(vI a), (vI d), (vI e), (vI f), (vI g)] 3 false 1)) = (Option.some (AObj.cells [(vI a), (vI d), (vI e), (vI f), (vI g)] 3 false 1)))) ∧
 (((vI g) = (vI g)) ∧
 (((Go.Value.pointer (Option.some (Go.Addr.mk 1000 6 Option.none))) = (Go.Value.pointer (Option.some (Go.Addr.mk 1000 6 Option.none)))) ∧
 (((Go.Value.pointer (Option.some (Go.Addr.mk 1000 5 Option.none))) = (Go.Value.pointer (Option.some (Go.Addr.mk 1000 5 Option.none)))) ∧
 (((vI f) = (vI f)) ∧
 (((Go.Value.pointer (Option.some (Go.Addr.mk 1000 5 Option.none))) = (Go.Value.pointer (Option.some (Go.Addr.mk 1000 5 Option.none)))) ∧
 (((Go.Value.pointer (Option.some (Go.Addr.mk 1000 5 Option.none))) = (Go.Value.pointer (Option.some (Go.Addr.mk 1000 5 Option.none)))) ∧
 (((vI e) = (vI e)) ∧
 (((Go.Value.pointer (Option.some (Go.Addr.mk 1000 4 Option.none))) = (Go.Value.pointer (Option.some (Go.Addr.mk 1000 4 Option.none)))) ∧
 (((Go.Value.pointer (Option.some (Go.Addr.mk 1000 3 Option.none))) = (Go.Value.pointer (Option.some (Go.Addr.mk 1000 3 Option.none)))) ∧
 (((vI d) = (vI d)) ∧
 (((Go.Value.pointer (Option.some (Go.Addr.mk 1000 3 Option.none))) = (Go.Value.pointer (Option.some (Go.Addr.mk 1000 3 Option.none)))) ∧
 (((Go.Value.pointer (Option.some (Go.Addr.mk 1000 3 Option.none))) = (Go.Value.pointer (Option.some (Go.Addr.mk 1000 3 Option.none)))) ∧
 (((vI a) = (vI a)) ∧
 (((Go.Value.pointer (Option.some (Go.Addr.mk 1000 0 Option.none))) = (Go.Value.pointer (Option.some (Go.Addr.mk 1000 0 Option.none)))) ∧
 True))))))))))))))))))))) ∧
 (∃ r1 : Int,
 ((Says witC 0 [(D.val (vI (-(999 + 1) : Int))), (D.val (vI (1000 : Int))), (D.val (vI (2 : Int))), (D.sl 5 1 [(vI a), (vI d), (vI e), (vI f), (vI g)])] [(D.val (vI r1))]) ∧
 (((((Go.Value.slice (Option.some (Go.Addr.mk 1003 0 Option.none)) 1 1) = (Go.Value.slice (Option.some (Go.Addr.mk 1003 0 Option.none)) 1 1)) ∧
 ((Option.some (AObj.cells [(vI c)] 3 false 1)) = (Option.some (AObj.cells [(vI c)] 3 false 1)))) ∧
 (((vI c) = (vI c)) ∧
 (((Go.Value.pointer (Option.some (Go.Addr.mk 1000 2 Option.none))) = (Go.Value.pointer (Option.some (Go.Addr.mk 1000 2 Option.none)))) ∧
 ((((Go.Value.slice (Option.some (Go.Addr.mk 1002 0 Option.none)) 1 1) = (Go.Value.slice (Option.some (Go.Addr.mk 1002 0 Option.none)) 1 1)) ∧
 ((Option.some (AObj.cells [(vI b)] 3 false 1)) = (Option.some (AObj.cells [(vI b)] 3 false 1)))) ∧
 (((vI b) = (vI b)) ∧
 (((Go.Value.pointer (Option.some (Go.Addr.mk 1000 1 Option.none))) = (Go.Value.pointer (Option.some (Go.Addr.mk 1000 1 Option.none)))) ∧
 (((vI g) = (vI g)) ∧
 (((Go.Value.pointer (Option.some (Go.Addr.mk 1000 6 Option.none))) = (Go.Value.pointer (Option.some (Go.Addr.mk 1000 6 Option.none)))) ∧
 (((Go.Value.pointer (Option.some (Go.Addr.mk 1000 5 Option.none))) = (Go.Value.pointer (Option.some (Go.Addr.mk 1000 5 Option.none)))) ∧
 (((vI f) = (vI f)) ∧
 (((Go.Value.pointer (Option.some (Go.Addr.mk 1000 5 Option.none))) = (Go.Value.pointer (Option.some (Go.Addr.mk 1000 5 Option.none)))) ∧
 (((Go.Value.pointer (Option.some (Go.Addr.mk 1000 5 Option.none))) = (Go.Value.pointer (Option.some (Go.Addr.mk 1000 5 Option.none)))) ∧
 (((vI e) = (vI e)) ∧
 (((Go.Value.pointer (Option.some (Go.Addr.mk 1000 4 Option.none))) = (Go.Value.pointer (Option.some (Go.Addr.mk 1000 4 Option.none)))) ∧
 (((Go.Value.pointer (Option.some (Go.Addr.mk 1000 3 Option.none))) = (Go.Value.pointer (Option.some (Go.Addr.mk 1000 3 Option.none)))) ∧
 (((vI d) = (vI d)) ∧
 (((Go.Value.pointer (Option.some (Go.Addr.mk 1000 3 Option.none))) = (Go.Value.pointer (Option.some (Go.Addr.mk 1000 3 Option.none)))) ∧
 (((Go.Value.pointer (Option.some (Go.Addr.mk 1000 3 Option.none))) = (Go.Value.pointer (Option.some (Go.Addr.mk 1000 3 Option.none)))) ∧
 (((vI a) = (vI a)) ∧
 (((Go.Value.pointer (Option.some (Go.Addr.mk 1000 0 Option.none))) = (Go.Value.pointer (Option.some (Go.Addr.mk 1000 0 Option.none)))) ∧
 True)))))))))))))))))))) ∧
 (((((Go.Value.slice (Option.some (Go.Addr.mk 1003 0 Option.none)) 1 1) = (Go.Value.slice (Option.some (Go.Addr.mk 1003 0 Option.none)) 1 1)) ∧
 ((Option.some (AObj.cells [(vI c)] 3 false 1)) = (Option.some (AObj.cells [(vI c)] 3 false 1)))) ∧
 (((vI c) = (vI c)) ∧
 (((Go.Value.pointer (Option.some (Go.Addr.mk 1000 2 Option.none))) = (Go.Value.pointer (Option.some (Go.Addr.mk 1000 2 Option.none)))) ∧
 ((((Go.Value.slice (Option.some (Go.Addr.mk 1002 0 Option.none)) 1 1) = (Go.Value.slice (Option.some (Go.Addr.mk 1002 0 Option.none)) 1 1)) ∧
 ((Option.some (AObj.cells [(vI b)] 3 false 1)) = (Option.some (AObj.cells [(vI b)] 3 false 1)))) ∧
 (((vI b) = (vI b)) ∧
 (((Go.Value.pointer (Option.some (Go.Addr.mk 1000 1 Option.none))) = (Go.Value.pointer (Option.some (Go.Addr.mk 1000 1 Option.none)))) ∧
 (((vI g) = (vI g)) ∧
 (((Go.Value.pointer (Option.some (Go.Addr.mk 1000 6 Option.none))) = (Go.Value.pointer (Option.some (Go.Addr.mk 1000 6 Option.none)))) ∧
 (((Go.Value.pointer (Option.some (Go.Addr.mk 1000 5 Option.none))) = (Go.Value.pointer (Option.some (Go.Addr.mk 1000 5 Option.none)))) ∧
 (((vI f) = (vI f)) ∧
 (((Go.Value.pointer (Option.some (Go.Addr.mk 1000 5 Option.none))) = (Go.Value.pointer (Option.some (Go.Addr.mk 1000 5 Option.none)))) ∧
 (((Go.Value.pointer (Option.some (Go.Addr.mk 1000 5 Option.none))) = (Go.Value.pointer (Option.some (Go.Addr.mk 1000 5 Option.none)))) ∧
 (((vI e) = (vI e)) ∧
 (((Go.Value.pointer (Option.some (Go.Addr.mk 1000 4 Option.none))) = (Go.Value.pointer (Option.some (Go.Addr.mk 1000 4 Option.none)))) ∧
 (((Go.Value.pointer (Option.some (Go.Addr.mk 1000 3 Option.none))) = (Go.Value.pointer (Option.some (Go.Addr.mk 1000 3 Option.none)))) ∧
 (((vI d) = (vI d)) ∧
 (((Go.Value.pointer (Option.some (Go.Addr.mk 1000 3 Option.none))) = (Go.Value.pointer (Option.some (Go.Addr.mk 1000 3 Option.none)))) ∧
 (((Go.Value.pointer (Option.some (Go.Addr.mk 1000 3 Option.none))) = (Go.Value.pointer (Option.some (Go.Addr.mk 1000 3 Option.none)))) ∧
 (((vI a) = (vI a)) ∧
 (((Go.Value.pointer (Option.some (Go.Addr.mk 1000 0 Option.none))) = (Go.Value.pointer (Option.some (Go.Addr.mk 1000 0 Option.none)))) ∧
 True)))))))))))))))))))) ∧
 (∃ r2 : Int,
 ((Says witC 0 [(D.val (vI (0 : Int))), (D.val (vI (100 : Int))), (D.val (vI (2 : Int))), (D.sl 1 1 [(vI b)])] [(D.val (vI r2))]) ∧
 (((((Go.Value.slice (Option.some (Go.Addr.mk 1003 0 Option.none)) 1 1) = (Go.Value.slice (Option.some (Go.Addr.mk 1003 0 Option.none)) 1 1)) ∧
 ((Option.some (AObj.cells [(vI c)] 3 false 1)) = (Option.some (AObj.cells [(vI c)] 3 false 1)))) ∧
 (((vI c) = (vI c)) ∧
 (((Go.Value.pointer (Option.some (Go.Addr.mk 1000 2 Option.none))) = (Go.Value.pointer (Option.some (Go.Addr.mk 1000 2 Option.none)))) ∧
 (((vI b) = (vI b)) ∧
 (((Go.Value.pointer (Option.some (Go.Addr.mk 1000 1 Option.none))) = (Go.Value.pointer (Option.some (Go.Addr.mk 1000 1 Option.none)))) ∧
 (((vI g) = (vI g)) ∧
 (((Go.Value.pointer (Option.some (Go.Addr.mk 1000 6 Option.none))) = (Go.Value.pointer (Option.some (Go.Addr.mk 1000 6 Option.none)))) ∧
 (((Go.Value.pointer (Option.some (Go.Addr.mk 1000 5 Option.none))) = (Go.Value.pointer (Option.some (Go.Addr.mk 1000 5 Option.none)))) ∧
 (((vI f) = (vI f)) ∧
 (((Go.Value.pointer (Option.some (Go.Addr.mk 1000 5 Option.none))) = (Go.Value.pointer (Option.some (Go.Addr.mk 1000 5 Option.none)))) ∧
 (((Go.Value.pointer (Option.some (Go.Addr.mk 1000 5 Option.none))) = (Go.Value.pointer (Option.some (Go.Addr.mk 1000 5 Option.none)))) ∧
 (((vI e) = (vI e)) ∧
 (((Go.Value.pointer (Option.some (Go.Addr.mk 1000 4 Option.none))) = (Go.Value.pointer (Option.some (Go.Addr.mk 1000 4 Option.none)))) ∧
 (((Go.Value.pointer (Option.some (Go.Addr.mk 1000 3 Option.none))) = (Go.Value.pointer (Option.some (Go.Addr.mk 1000 3 Option.none)))) ∧
 (((vI d) = (vI d)) ∧
 (((Go.Value.pointer (Option.some (Go.Addr.mk 1000 3 Option.none))) = (Go.Value.pointer (Option.some (Go.Addr.mk 1000 3 Option.none)))) ∧
 (((Go.Value.pointer (Option.some (Go.Addr.mk 1000 3 Option.none))) = (Go.Value.pointer (Option.some (Go.Addr.mk 1000 3 Option.none)))) ∧
 (((vI a) = (vI a)) ∧
 (((Go.Value.pointer (Option.some (Go.Addr.mk 1000 0 Option.none))) = (Go.Value.pointer (Option.some (Go.Addr.mk 1000 0 Option.none)))) ∧
 True))))))))))))))))))) ∧
 (((((Go.Value.slice (Option.some (Go.Addr.mk 1003 0 Option.none)) 1 1) = (Go.Value.slice (Option.some (Go.Addr.mk 1003 0 Option.none)) 1 1)) ∧
 ((Option.some (AObj.cells [(vI c)] 3 false 1)) = (Option.some (AObj.cells [(vI c)] 3 false 1)))) ∧
 (((vI c) = (vI c)) ∧
 (((Go.Value.pointer (Option.some (Go.Addr.mk 1000 2 Option.none))) = (Go.Value.pointer (Option.some (Go.Addr.mk 1000 2 Option.none)))) ∧
 (((vI b) = (vI b)) ∧
 (((Go.Value.pointer (Option.some (Go.Addr.mk 1000 1 Option.none))) = (Go.Value.pointer (Option.some (Go.Addr.mk 1000 1 Option.none)))) ∧
 (((vI g) = (vI g)) ∧
 (((Go.Value.pointer (Option.some (Go.Addr.mk 1000 6 Option.none))) = (Go.Value.pointer (Option.some (Go.Addr.mk 1000 6 Option.none)))) ∧
 (((Go.Value.pointer (Option.some (Go.Addr.mk 1000 5 Option.none))) = (Go.Value.pointer (Option.some (Go.Addr.mk 1000 5 Option.none)))) ∧
 (((vI f) = (vI f)) ∧
 (((Go.Value.pointer (Option.some (Go.Addr.mk 1000 5 Option.none))) = (Go.Value.pointer (Option.some (Go.Addr.mk 1000 5 Option.none)))) ∧
 (((Go.Value.pointer (Option.some (Go.Addr.mk 1000 5 Option.none))) = (Go.Value.pointer (Option.some (Go.Addr.mk 1000 5 Option.none)))) ∧
 (((vI e) = (vI e)) ∧
 (((Go.Value.pointer (Option.some (Go.Addr.mk 1000 4 Option.none))) = (Go.Value.pointer (Option.some (Go.Addr.mk 1000 4 Option.none)))) ∧
 (((Go.Value.pointer (Option.some (Go.Addr.mk 1000 3 Option.none))) = (Go.Value.pointer (Option.some (Go.Addr.mk 1000 3 Option.none)))) ∧
 (((vI d) = (vI d)) ∧
 (((Go.Value.pointer (Option.some (Go.Addr.mk 1000 3 Option.none))) = (Go.Value.pointer (Option.some (Go.Addr.mk 1000 3 Option.none)))) ∧
 (((Go.Value.pointer (Option.some (Go.Addr.mk 1000 3 Option.none))) = (Go.Value.pointer (Option.some (Go.Addr.mk 1000 3 Option.none)))) ∧
 (((vI a) = (vI a)) ∧
 (((Go.Value.pointer (Option.some (Go.Addr.mk 1000 0 Option.none))) = (Go.Value.pointer (Option.some (Go.Addr.mk 1000 0 Option.none)))) ∧
 True))))))))))))))))))) ∧
 (∃ r3 : Int,
 ((Says witC 0 [(D.val (vI (1 : Int))), (D.val (vI (100 : Int))), (D.val (vI (2 : Int))), (D.sl 1 1 [(vI c)])] [(D.val (vI r3))]) ∧
 (((((Go.Value.slice (Option.some (Go.Addr.mk 1010 0 Option.none)) 3 3) = (Go.Value.slice (Option.some (Go.Addr.mk 1010 0 Option.none)) 3 3)) ∧
 ((Option.some (AObj.cells [(vI r1), (vI r2), (vI r3)] 30 false 1)) = (Option.some (AObj.cells [(vI r1), (vI r2), (vI r3)] 30 false 1)))) ∧
 (((vI c) = (vI c)) ∧
 (((Go.Value.pointer (Option.some (Go.Addr.mk 1000 2 Option.none))) = (Go.Value.pointer (Option.some (Go.Addr.mk 1000 2 Option.none)))) ∧
 (((vI b) = (vI b)) ∧
 (((Go.Value.pointer (Option.some (Go.Addr.mk 1000 1 Option.none))) = (Go.Value.pointer (Option.some (Go.Addr.mk 1000 1 Option.none)))) ∧
 (((vI g) = (vI g)) ∧
 (((Go.Value.pointer (Option.some (Go.Addr.mk 1000 6 Option.none))) = (Go.Value.pointer (Option.some (Go.Addr.mk 1000 6 Option.none)))) ∧
 (((Go.Value.pointer (Option.some (Go.Addr.mk 1000 5 Option.none))) = (Go.Value.pointer (Option.some (Go.Addr.mk 1000 5 Option.none)))) ∧
 (((vI f) = (vI f)) ∧
 (((Go.Value.pointer (Option.some (Go.Addr.mk 1000 5 Option.none))) = (Go.Value.pointer (Option.some (Go.Addr.mk 1000 5 Option.none)))) ∧
 (((Go.Value.pointer (Option.some (Go.Addr.mk 1000 5 Option.none))) = (Go.Value.pointer (Option.some (Go.Addr.mk 1000 5 Option.none)))) ∧
 (((vI e) = (vI e)) ∧
 (((Go.Value.pointer (Option.some (Go.Addr.mk 1000 4 Option.none))) = (Go.Value.pointer (Option.some (Go.Addr.mk 1000 4 Option.none)))) ∧
 (((Go.Value.pointer (Option.some (Go.Addr.mk 1000 3 Option.none))) = (Go.Value.pointer (Option.some (Go.Addr.mk 1000 3 Option.none)))) ∧
 (((vI d) = (vI d)) ∧
 (((Go.Value.pointer (Option.some (Go.Addr.mk 1000 3 Option.none))) = (Go.Value.pointer (Option.some (Go.Addr.mk 1000 3 Option.none)))) ∧
 (((Go.Value.pointer (Option.some (Go.Addr.mk 1000 3 Option.none))) = (Go.Value.pointer (Option.some (Go.Addr.mk 1000 3 Option.none)))) ∧
 (((vI a) = (vI a)) ∧
 (((Go.Value.pointer (Option.some (Go.Addr.mk 1000 0 Option.none))) = (Go.Value.pointer (Option.some (Go.Addr.mk 1000 0 Option.none)))) ∧
 True))))))))))))))))))) ∧
 (∃ n1 : Int,
 ((Says C 37 [(D.sl 3 1 [(vI r1), (vI r2), (vI r3)])] [(D.val (vI n1))]) ∧
 ((((vI c) = (vI c)) ∧
 (((Go.Value.pointer (Option.some (Go.Addr.mk 1000 2 Option.none))) = (Go.Value.pointer (Option.some (Go.Addr.mk 1000 2 Option.none)))) ∧
 (((vI b) = (vI b)) ∧
 (((Go.Value.pointer (Option.some (Go.Addr.mk 1000 1 Option.none))) = (Go.Value.pointer (Option.some (Go.Addr.mk 1000 1 Option.none)))) ∧
 (((vI g) = (vI g)) ∧
 (((Go.Value.pointer (Option.some (Go.Addr.mk 1000 6 Option.none))) = (Go.Value.pointer (Option.some (Go.Addr.mk 1000 6 Option.none)))) ∧
 (((Go.Value.pointer (Option.some (Go.Addr.mk 1000 5 Option.none))) = (Go.Value.pointer (Option.some (Go.Addr.mk 1000 5 Option.none)))) ∧
 (((vI f) = (vI f)) ∧
 (((Go.Value.pointer (Option.some (Go.Addr.mk 1000 5 Option.none))) = (Go.Value.pointer (Option.some (Go.Addr.mk 1000 5 Option.none)))) ∧
 (((Go.Value.pointer (Option.some (Go.Addr.mk 1000 5 Option.none))) = (Go.Value.pointer (Option.some (Go.Addr.mk 1000 5 Option.none)))) ∧
 (((vI e) = (vI e)) ∧
 (((Go.Value.pointer (Option.some (Go.Addr.mk 1000 4 Option.none))) = (Go.Value.pointer (Option.some (Go.Addr.mk 1000 4 Option.none)))) ∧
 (((Go.Value.pointer (Option.some (Go.Addr.mk 1000 3 Option.none))) = (Go.Value.pointer (Option.some (Go.Addr.mk 1000 3 Option.none)))) ∧
 (((vI d) = (vI d)) ∧
 (((Go.Value.pointer (Option.some (Go.Addr.mk 1000 3 Option.none))) = (Go.Value.pointer (Option.some (Go.Addr.mk 1000 3 Option.none)))) ∧
 (((Go.Value.pointer (Option.some (Go.Addr.mk 1000 3 Option.none))) = (Go.Value.pointer (Option.some (Go.Addr.mk 1000 3 Option.none)))) ∧
 (((vI a) = (vI a)) ∧
 (((Go.Value.pointer (Option.some (Go.Addr.mk 1000 0 Option.none))) = (Go.Value.pointer (Option.some (Go.Addr.mk 1000 0 Option.none)))) ∧
 True)))))))))))))))))) ∧
 (True ∧
 (bcase (n1 != 0)
 (k [(D.val (vI n1))])
 (bcase (decide (b > c))
 (k [(D.val (vI (3 : Int)))])
 (((((Go.Value.slice (Option.some (Go.Addr.mk 1012 0 Option.none)) 1 1) = (Go.Value.slice (Option.some (Go.Addr.mk 1012 0 Option.none)) 1 1)) ∧
 ((Option.some (AObj.cells [(vI a)] 3 false 1)) = (Option.some (AObj.cells [(vI a)] 3 false 1)))) ∧
 (((vI a) = (vI a)) ∧
 (((Go.Value.pointer (Option.some (Go.Addr.mk 1000 0 Option.none))) = (Go.Value.pointer (Option.some (Go.Addr.mk 1000 0 Option.none)))) ∧
 (((Go.Value.agg [(vI a), (vI b), (vI c), (vI d), (vI e), (vI f), (vI g)].toArray) = (Go.Value.agg [(vI a), (vI b), (vI c), (vI d), (vI e), (vI f), (vI g)].toArray)) ∧
 ((((Go.Value.slice (Option.some (Go.Addr.mk 1011 0 Option.none)) 2 2) = (Go.Value.slice (Option.some (Go.Addr.mk 1011 0 Option.none)) 2 2)) ∧
 ((Option.some (AObj.cells [(vI d), (vI e), (vI f), (vI g)] 56 false 2)) = (Option.some (AObj.cells [(vI d), (vI e), (vI f), (vI g)] 56 false 2)))) ∧
 (((Go.Value.agg [(vI f), (vI g)].toArray) = (Go.Value.agg [(vI f), (vI g)].toArray)) ∧
 (((Go.Value.pointer (Option.some (Go.Addr.mk 1000 5 Option.none))) = (Go.Value.pointer (Option.some (Go.Addr.mk 1000 5 Option.none)))) ∧
 (((Go.Value.agg [(vI d), (vI e)].toArray) = (Go.Value.agg [(vI d), (vI e)].toArray)) ∧
 (((Go.Value.pointer (Option.some (Go.Addr.mk 1000 3 Option.none))) = (Go.Value.pointer (Option.some (Go.Addr.mk 1000 3 Option.none)))) ∧
 True))))))))) ∧
 (bcase (decide (d > e))
 (((((Go.Value.slice (Option.some (Go.Addr.mk 1012 0 Option.none)) 1 1) = (Go.Value.slice (Option.some (Go.Addr.mk 1012 0 Option.none)) 1 1)) ∧
 ((Option.some (AObj.cells [(vI a)] 3 false 1)) = (Option.some (AObj.cells [(vI a)] 3 false 1)))) ∧
 (((vI a) = (vI a)) ∧
 (((Go.Value.pointer (Option.some (Go.Addr.mk 1000 0 Option.none))) = (Go.Value.pointer (Option.some (Go.Addr.mk 1000 0 Option.none)))) ∧
 (((Go.Value.agg [(vI a), (vI b), (vI c), (vI d), (vI e), (vI f), (vI g)].toArray) = (Go.Value.agg [(vI a), (vI b), (vI c), (vI d), (vI e), (vI f), (vI g)].toArray)) ∧
 (((Go.Value.agg [(vI f), (vI g)].toArray) = (Go.Value.agg [(vI f), (vI g)].toArray)) ∧
 (((Go.Value.pointer (Option.some (Go.Addr.mk 1000 5 Option.none))) = (Go.Value.pointer (Option.some (Go.Addr.mk 1000 5 Option.none)))) ∧
 (((Go.Value.agg [(vI d), (vI e)].toArray) = (Go.Value.agg [(vI d), (vI e)].toArray)) ∧
 (((Go.Value.pointer (Option.some (Go.Addr.mk 1000 3 Option.none))) = (Go.Value.pointer (Option.some (Go.Addr.mk 1000 3 Option.none)))) ∧
 True)))))))) ∧
 (∃ r4 : Int,
 ((Says witC 0 [(D.val (vI f)), (D.val (vI g)), (D.val (vI (22 : Int))), (D.sl 1 1 [(vI a)])] [(D.val (vI r4))]) ∧
 (((((Go.Value.slice (Option.some (Go.Addr.mk 1017 0 Option.none)) 2 2) = (Go.Value.slice (Option.some (Go.Addr.mk 1017 0 Option.none)) 2 2)) ∧
 ((Option.some (AObj.cells [(vI (9 : Int)), (vI r4)] 30 false 1)) = (Option.some (AObj.cells [(vI (9 : Int)), (vI r4)] 30 false 1)))) ∧
 (((vI a) = (vI a)) ∧
 (((Go.Value.pointer (Option.some (Go.Addr.mk 1000 0 Option.none))) = (Go.Value.pointer (Option.some (Go.Addr.mk 1000 0 Option.none)))) ∧
 (((Go.Value.agg [(vI f), (vI g)].toArray) = (Go.Value.agg [(vI f), (vI g)].toArray)) ∧
 (((Go.Value.pointer (Option.some (Go.Addr.mk 1000 5 Option.none))) = (Go.Value.pointer (Option.some (Go.Addr.mk 1000 5 Option.none)))) ∧
 (((Go.Value.agg [(vI d), (vI e)].toArray) = (Go.Value.agg [(vI d), (vI e)].toArray)) ∧
 (((Go.Value.pointer (Option.some (Go.Addr.mk 1000 3 Option.none))) = (Go.Value.pointer (Option.some (Go.Addr.mk 1000 3 Option.none)))) ∧
 True))))))) ∧
 (∃ n2 : Int,
 ((Says C 37 [(D.sl 2 1 [(vI (9 : Int)), (vI r4)])] [(D.val (vI n2))]) ∧
 ((((vI a) = (vI a)) ∧
 (((Go.Value.pointer (Option.some (Go.Addr.mk 1000 0 Option.none))) = (Go.Value.pointer (Option.some (Go.Addr.mk 1000 0 Option.none)))) ∧
 (((Go.Value.agg [(vI f), (vI g)].toArray) = (Go.Value.agg [(vI f), (vI g)].toArray)) ∧
 (((Go.Value.pointer (Option.some (Go.Addr.mk 1000 5 Option.none))) = (Go.Value.pointer (Option.some (Go.Addr.mk 1000 5 Option.none)))) ∧
 (((Go.Value.agg [(vI d), (vI e)].toArray) = (Go.Value.agg [(vI d), (vI e)].toArray)) ∧
 (((Go.Value.pointer (Option.some (Go.Addr.mk 1000 3 Option.none))) = (Go.Value.pointer (Option.some (Go.Addr.mk 1000 3 Option.none)))) ∧
 True)))))) ∧
 (True ∧
 (k [(D.val (vI n2))])))))))))
 (bcase (decide (f > g))
 (((((Go.Value.slice (Option.some (Go.Addr.mk 1012 0 Option.none)) 1 1) = (Go.Value.slice (Option.some (Go.Addr.mk 1012 0 Option.none)) 1 1)) ∧
 ((Option.some (AObj.cells [(vI a)] 3 false 1)) = (Option.some (AObj.cells [(vI a)] 3 false 1)))) ∧
 (((vI a) = (vI a)) ∧
 (((Go.Value.pointer (Option.some (Go.Addr.mk 1000 0 Option.none))) = (Go.Value.pointer (Option.some (Go.Addr.mk 1000 0 Option.none)))) ∧
 (((Go.Value.agg [(vI a), (vI b), (vI c), (vI d), (vI e), (vI f), (vI g)].toArray) = (Go.Value.agg [(vI a), (vI b), (vI c), (vI d), (vI e), (vI f), (vI g)].toArray)) ∧
 (((Go.Value.agg [(vI f), (vI g)].toArray) = (Go.Value.agg [(vI f), (vI g)].toArray)) ∧
 (((Go.Value.pointer (Option.some (Go.Addr.mk 1000 5 Option.none))) = (Go.Value.pointer (Option.some (Go.Addr.mk 1000 5 Option.none)))) ∧
 (((Go.Value.agg [(vI d), (vI e)].toArray) = (Go.Value.agg [(vI d), (vI e)].toArray)) ∧
 (((Go.Value.pointer (Option.some (Go.Addr.mk 1000 3 Option.none))) = (Go.Value.pointer (Option.some (Go.Addr.mk 1000 3 Option.none)))) ∧
 True)))))))) ∧
 (∃ r4 : Int,
 ((Says witC 0 [(D.val (vI f)), (D.val (vI g)), (D.val (vI (22 : Int))), (D.sl 1 1 [(vI a)])] [(D.val (vI r4))]) ∧
 (((((Go.Value.slice (Option.some (Go.Addr.mk 1018 0 Option.none)) 2 2) = (Go.Value.slice (Option.some (Go.Addr.mk 1018 0 Option.none)) 2 2)) ∧
 ((Option.some (AObj.cells [(vI (9 : Int)), (vI r4)] 30 false 1)) = (Option.some (AObj.cells [(vI (9 : Int)), (vI r4)] 30 false 1)))) ∧
 (((vI a) = (vI a)) ∧
 (((Go.Value.pointer (Option.some (Go.Addr.mk 1000 0 Option.none))) = (Go.Value.pointer (Option.some (Go.Addr.mk 1000 0 Option.none)))) ∧
 (((Go.Value.agg [(vI f), (vI g)].toArray) = (Go.Value.agg [(vI f), (vI g)].toArray)) ∧
 (((Go.Value.pointer (Option.some (Go.Addr.mk 1000 5 Option.none))) = (Go.Value.pointer (Option.some (Go.Addr.mk 1000 5 Option.none)))) ∧
 (((Go.Value.agg [(vI d), (vI e)].toArray) = (Go.Value.agg [(vI d), (vI e)].toArray)) ∧
 (((Go.Value.pointer (Option.some (Go.Addr.mk 1000 3 Option.none))) = (Go.Value.pointer (Option.some (Go.Addr.mk 1000 3 Option.none)))) ∧
 True))))))) ∧
 (∃ n2 : Int,
 ((Says C 37 [(D.sl 2 1 [(vI (9 : Int)), (vI r4)])] [(D.val (vI n2))]) ∧
 ((((vI a) = (vI a)) ∧
 (((Go.Value.pointer (Option.some (Go.Addr.mk 1000 0 Option.none))) = (Go.Value.pointer (Option.some (Go.Addr.mk 1000 0 Option.none)))) ∧
 (((Go.Value.agg [(vI f), (vI g)].toArray) = (Go.Value.agg [(vI f), (vI g)].toArray)) ∧
 (((Go.Value.pointer (Option.some (Go.Addr.mk 1000 5 Option.none))) = (Go.Value.pointer (Option.some (Go.Addr.mk 1000 5 Option.none)))) ∧
 (((Go.Value.agg [(vI d), (vI e)].toArray) = (Go.Value.agg [(vI d), (vI e)].toArray)) ∧
 (((Go.Value.pointer (Option.some (Go.Addr.mk 1000 3 Option.none))) = (Go.Value.pointer (Option.some (Go.Addr.mk 1000 3 Option.none)))) ∧
 True)))))) ∧
 (True ∧
 (k [(D.val (vI n2))])))))))))
 (((((Go.Value.slice (Option.some (Go.Addr.mk 1012 0 Option.none)) 1 1) = (Go.Value.slice (Option.some (Go.Addr.mk 1012 0 Option.none)) 1 1)) ∧
 ((Option.some (AObj.cells [(vI a)] 3 false 1)) = (Option.some (AObj.cells [(vI a)] 3 false 1)))) ∧
 (((vI a) = (vI a)) ∧
 (((Go.Value.pointer (Option.some (Go.Addr.mk 1000 0 Option.none))) = (Go.Value.pointer (Option.some (Go.Addr.mk 1000 0 Option.none)))) ∧
 (((Go.Value.agg [(vI a), (vI b), (vI c), (vI d), (vI e), (vI f), (vI g)].toArray) = (Go.Value.agg [(vI a), (vI b), (vI c), (vI d), (vI e), (vI f), (vI g)].toArray)) ∧
 (((Go.Value.agg [(vI f), (vI g)].toArray) = (Go.Value.agg [(vI f), (vI g)].toArray)) ∧
 (((Go.Value.pointer (Option.some (Go.Addr.mk 1000 5 Option.none))) = (Go.Value.pointer (Option.some (Go.Addr.mk 1000 5 Option.none)))) ∧
 (((Go.Value.agg [(vI d), (vI e)].toArray) = (Go.Value.agg [(vI d), (vI e)].toArray)) ∧
 (((Go.Value.pointer (Option.some (Go.Addr.mk 1000 3 Option.none))) = (Go.Value.pointer (Option.some (Go.Addr.mk 1000 3 Option.none)))) ∧
 True)))))))) ∧
 (∃ r4 : Int,
 ((Says witC 0 [(D.val (vI f)), (D.val (vI g)), (D.val (vI (22 : Int))), (D.sl 1 1 [(vI a)])] [(D.val (vI r4))]) ∧
 (((((Go.Value.slice (Option.some (Go.Addr.mk 1018 0 Option.none)) 2 2) = (Go.Value.slice (Option.some (Go.Addr.mk 1018 0 Option.none)) 2 2)) ∧
 ((Option.some (AObj.cells [(vI (0 : Int)), (vI r4)] 30 false 1)) = (Option.some (AObj.cells [(vI (0 : Int)), (vI r4)] 30 false 1)))) ∧
 (((vI a) = (vI a)) ∧
 (((Go.Value.pointer (Option.some (Go.Addr.mk 1000 0 Option.none))) = (Go.Value.pointer (Option.some (Go.Addr.mk 1000 0 Option.none)))) ∧
 (((Go.Value.agg [(vI f), (vI g)].toArray) = (Go.Value.agg [(vI f), (vI g)].toArray)) ∧
 (((Go.Value.pointer (Option.some (Go.Addr.mk 1000 5 Option.none))) = (Go.Value.pointer (Option.some (Go.Addr.mk 1000 5 Option.none)))) ∧
 (((Go.Value.agg [(vI d), (vI e)].toArray) = (Go.Value.agg [(vI d), (vI e)].toArray)) ∧
 (((Go.Value.pointer (Option.some (Go.Addr.mk 1000 3 Option.none))) = (Go.Value.pointer (Option.some (Go.Addr.mk 1000 3 Option.none)))) ∧
 True))))))) ∧
 (∃ n2 : Int,
 ((Says C 37 [(D.sl 2 1 [(vI (0 : Int)), (vI r4)])] [(D.val (vI n2))]) ∧
 ((((vI a) = (vI a)) ∧
 (((Go.Value.pointer (Option.some (Go.Addr.mk 1000 0 Option.none))) = (Go.Value.pointer (Option.some (Go.Addr.mk 1000 0 Option.none)))) ∧
 (((Go.Value.agg [(vI f), (vI g)].toArray) = (Go.Value.agg [(vI f), (vI g)].toArray)) ∧
 (((Go.Value.pointer (Option.some (Go.Addr.mk 1000 5 Option.none))) = (Go.Value.pointer (Option.some (Go.Addr.mk 1000 5 Option.none)))) ∧
 (((Go.Value.agg [(vI d), (vI e)].toArray) = (Go.Value.agg [(vI d), (vI e)].toArray)) ∧
 (((Go.Value.pointer (Option.some (Go.Addr.mk 1000 3 Option.none))) = (Go.Value.pointer (Option.some (Go.Addr.mk 1000 3 Option.none)))) ∧
 True)))))) ∧
 (True ∧
 (k [(D.val (vI n2))]))))))))))))))))))))))))))))))) := by kernel_rfl
def gLE (C : Ct) (L : AtLoop) (a b c d e f g : Int) (k : List D → Prop) : Prop := wpFn Try.prog (hB C) L 0 42 #[vL a b c d e f g] (heapOf []) (dataK k)
theorem gLE_text (C : Ct) (L : AtLoop) (a : Int) (b : Int) (c : Int) (d : Int) (e : Int) (f : Int) (g : Int) (k : List D → Prop) : gLE C L a b c d e f g k =
 (((Says C 26 [(D.val (vI a)), (D.val (vI (-(999 + 1) : Int))), (D.val (vI (1000 : Int)))] [(D.val (Value.bool true))]) ∧
 (((Says C 26 [(D.val (vI d)), (D.val (vI (-(999 + 1) : Int))), (D.val (vI (1000 : Int)))] [(D.val (Value.bool true))]) ∧
 (((Says C 26 [(D.val (vI e)), (D.val (vI (-(999 + 1) : Int))), (D.val (vI (1000 : Int)))] [(D.val (Value.bool true))]) ∧
 (((Says C 26 [(D.val (vI f)), (D.val (vI (-(999 + 1) : Int))), (D.val (vI (1000 : Int)))] [(D.val (Value.bool true))]) ∧
 (((Says C 26 [(D.val (vI g)), (D.val (vI (-(999 + 1) : Int))), (D.val (vI (1000 : Int)))] [(D.val (Value.bool true))]) ∧
 (((Says C 26 [(D.val (vI b)), (D.val (vI (0 : Int))), (D.val (vI (100 : Int)))] [(D.val (Value.bool true))]) ∧
 (((Says C 26 [(D.val (vI c)), (D.val (vI (1 : Int))), (D.val (vI (100 : Int)))] [(D.val (Value.bool true))]) ∧
 (bcase (decide (b > c))
 (k [(D.val (vI (3 : Int)))])
 (bcase (decide (d > e))
 (k [(D.val (vI (9 : Int)))])
 (bcase (decide (f > g))
 (k [(D.val (vI (9 : Int)))])
 (((Says C 26 [(D.val (vI a)), (D.val (vI f)), (D.val (vI g))] [(D.val (Value.bool true))]) ∧
 (k [(D.val (vI (0 : Int)))])) ∨
 ((Says C 26 [(D.val (vI a)), (D.val (vI f)), (D.val (vI g))] [(D.val (Value.bool false))]) ∧
 (k [(D.val (vI (22 : Int)))]))))))) ∨
 ((Says C 26 [(D.val (vI c)), (D.val (vI (1 : Int))), (D.val (vI (100 : Int)))] [(D.val (Value.bool false))]) ∧
 (k [(D.val (vI (2 : Int)))])))) ∨
 ((Says C 26 [(D.val (vI b)), (D.val (vI (0 : Int))), (D.val (vI (100 : Int)))] [(D.val (Value.bool false))]) ∧
 (k [(D.val (vI (2 : Int)))])))) ∨
 ((Says C 26 [(D.val (vI g)), (D.val (vI (-(999 + 1) : Int))), (D.val (vI (1000 : Int)))] [(D.val (Value.bool false))]) ∧
 (k [(D.val (vI (2 : Int)))])))) ∨
 ((Says C 26 [(D.val (vI f)), (D.val (vI (-(999 + 1) : Int))), (D.val (vI (1000 : Int)))] [(D.val (Value.bool false))]) ∧
 (k [(D.val (vI (2 : Int)))])))) ∨
 ((Says C 26 [(D.val (vI e)), (D.val (vI (-(999 + 1) : Int))), (D.val (vI (1000 : Int)))] [(D.val (Value.bool false))]) ∧
 (k [(D.val (vI (2 : Int)))])))) ∨
 ((Says C 26 [(D.val (vI d)), (D.val (vI (-(999 + 1) : Int))), (D.val (vI (1000 : Int)))] [(D.val (Value.bool false))]) ∧
 (k [(D.val (vI (2 : Int)))])))) ∨
 ((Says C 26 [(D.val (vI a)), (D.val (vI (-(999 + 1) : Int))), (D.val (vI (1000 : Int)))] [(D.val (Value.bool false))]) ∧
 (k [(D.val (vI (2 : Int)))]))) := by kernel_rfl
def gCo (C : Ct) (L : AtLoop) (a b c d e f g h : Int) (k : List D → Prop) : Prop := wpFn Try.prog (hB C) L 0 43 #[vL a b c d e f g, vI h] (heapOf []) (dataK k)
theorem gCo_text (C : Ct) (L : AtLoop) (a : Int) (b : Int) (c : Int) (d : Int) (e : Int) (f : Int) (g : Int) (h : Int) (k : List D → Prop) : gCo C L a b c d e f g h k =
 (bcase (c != 0)
 (k [(D.val (vI (IntKind.wrap .i64 (Int.tdiv (IntKind.wrap .i64 (b * IntKind.wrap .i64 (h - a))) c))))])
 False) := by kernel_rfl
def gCA (C : Ct) (L : AtLoop) (n cap : Nat) (l : List Value) (i : Int) (m cap2 : Nat) (l2 : List Value) (k : List D → Prop) : Prop := wpFn Try.prog (hB C) L 0 67 #[S500 n cap, vI i, S501 m cap2] (heapOf [L500 l, Q501 l2]) (dataK k)
theorem gCA_text (C : Ct) (L : AtLoop) (n : Nat) (cap : Nat) (l : List Go.Value) (i : Int) (m : Nat) (cap2 : Nat) (l2 : List Go.Value) (k : List D → Prop) : gCA C L n cap l i m cap2 l2 k =
 (bcase (i == (↑n : Int))
 (k [(D.val (vI (0 : Int)))])
 (bcase (decide (0 ≤ i))
 (bcase (decide (i < (↑n : Int)))
 (∃ n1 : Int,
 ((At (l) (Go.Addr.off { block := 500, off := 0 + Int.toNat i * 7 } + 1) 1 [(vI n1)]) ∧
 (bcase (decide (0 ≤ i))
 (bcase (decide (i < (↑m : Int)))
 (∃ n2 : Int,
 ((At (l2) (0 + Int.toNat i * 1) 1 [(vI n2)]) ∧
 (bcase (decide (0 ≤ i))
 (bcase (decide (i < (↑n : Int)))
 (∃ n3 : Int,
 ((At (l) (0 + Int.toNat i * 7) 1 [(vI n3)]) ∧
 (bcase (decide (0 ≤ i))
 (bcase (decide (i < (↑n : Int)))
 (∃ n4 : Int,
 ((At (l) (Go.Addr.off { block := 500, off := 0 + Int.toNat i * 7 } + 2) 1 [(vI n4)]) ∧
 (bcase (n4 != 0)
 (((bcase (n4 != 0)
 ((vI (IntKind.wrap .i64 (Int.tdiv (IntKind.wrap .i64 (n1 * IntKind.wrap .i64 (n2 - n3))) n4))) = (vI (IntKind.wrap .i64 (Int.tdiv (IntKind.wrap .i64 (n1 * IntKind.wrap .i64 (n2 - n3))) n4))))
 False) ∧
 ((∃ n5 : Int,
 ((At (l) (Go.Addr.off { block := 500, off := 0 + Int.toNat i * 7 } + 2) 1 [(vI n5)]) ∧
 ((vI n5) = (vI n4)))) ∧
 (((Go.Value.pointer (Option.some (Go.Addr.mk 500 (Go.Addr.off { block := 500, off := 0 + Int.toNat i * 7 } + 2) Option.none))) = (Go.Value.pointer (Option.some (Go.Addr.mk 500 (Go.Addr.off { block := 500, off := 0 + Int.toNat i * 7 } + 2) Option.none)))) ∧
 ((bcase (decide (0 ≤ i))
 (bcase (decide (i < (↑n : Int)))
 ((Go.Value.pointer (Option.some (Go.Addr.mk 500 (0 + Int.toNat i * 7) Option.none))) = (Go.Value.pointer (Option.some (Go.Addr.mk 500 (0 + Int.toNat i * 7) Option.none))))
 False)
 False) ∧
 (((vI i) = (vI i)) ∧
 (((Go.Value.slice (Option.some (Go.Addr.mk 500 0 Option.none)) (n) (cap)) = (Go.Value.slice (Option.some (Go.Addr.mk 500 0 Option.none)) (n) (cap))) ∧
 (((vI (IntKind.wrap .i64 (n1 * IntKind.wrap .i64 (n2 - n3)))) = (vI (IntKind.wrap .i64 (n1 * IntKind.wrap .i64 (n2 - n3))))) ∧
 (((vI (IntKind.wrap .i64 (n2 - n3))) = (vI (IntKind.wrap .i64 (n2 - n3)))) ∧
 ((∃ n5 : Int,
 ((At (l) (0 + Int.toNat i * 7) 1 [(vI n5)]) ∧
 ((vI n5) = (vI n3)))) ∧
 (((Go.Value.pointer (Option.some (Go.Addr.mk 500 (0 + Int.toNat i * 7) Option.none))) = (Go.Value.pointer (Option.some (Go.Addr.mk 500 (0 + Int.toNat i * 7) Option.none)))) ∧
 ((bcase (decide (0 ≤ i))
 (bcase (decide (i < (↑n : Int)))
 ((Go.Value.pointer (Option.some (Go.Addr.mk 500 (0 + Int.toNat i * 7) Option.none))) = (Go.Value.pointer (Option.some (Go.Addr.mk 500 (0 + Int.toNat i * 7) Option.none))))
 False)
 False) ∧
 (((vI i) = (vI i)) ∧
 (((Go.Value.slice (Option.some (Go.Addr.mk 500 0 Option.none)) (n) (cap)) = (Go.Value.slice (Option.some (Go.Addr.mk 500 0 Option.none)) (n) (cap))) ∧
 ((∃ n5 : Int,
 ((At (l2) (0 + Int.toNat i * 1) 1 [(vI n5)]) ∧
 ((vI n5) = (vI n2)))) ∧
 ((bcase (decide (0 ≤ i))
 (bcase (decide (i < (↑m : Int)))
 ((Go.Value.pointer (Option.some (Go.Addr.mk 501 (0 + Int.toNat i * 1) Option.none))) = (Go.Value.pointer (Option.some (Go.Addr.mk 501 (0 + Int.toNat i * 1) Option.none))))
 False)
 False) ∧
 (((vI i) = (vI i)) ∧
 (((Go.Value.slice (Option.some (Go.Addr.mk 501 0 Option.none)) (m) (cap2)) = (Go.Value.slice (Option.some (Go.Addr.mk 501 0 Option.none)) (m) (cap2))) ∧
 ((∃ n5 : Int,
 ((At (l) (Go.Addr.off { block := 500, off := 0 + Int.toNat i * 7 } + 1) 1 [(vI n5)]) ∧
 ((vI n5) = (vI n1)))) ∧
 (((Go.Value.pointer (Option.some (Go.Addr.mk 500 (Go.Addr.off { block := 500, off := 0 + Int.toNat i * 7 } + 1) Option.none))) = (Go.Value.pointer (Option.some (Go.Addr.mk 500 (Go.Addr.off { block := 500, off := 0 + Int.toNat i * 7 } + 1) Option.none)))) ∧
 ((bcase (decide (0 ≤ i))
 (bcase (decide (i < (↑n : Int)))
 ((Go.Value.pointer (Option.some (Go.Addr.mk 500 (0 + Int.toNat i * 7) Option.none))) = (Go.Value.pointer (Option.some (Go.Addr.mk 500 (0 + Int.toNat i * 7) Option.none))))
 False)
 False) ∧
 (((vI i) = (vI i)) ∧
 (((Go.Value.slice (Option.some (Go.Addr.mk 500 0 Option.none)) (n) (cap)) = (Go.Value.slice (Option.some (Go.Addr.mk 500 0 Option.none)) (n) (cap))) ∧
 True)))))))))))))))))))))) ∧
 (True ∧
 (k [(D.val (vI (IntKind.wrap .i64 (Int.tdiv (IntKind.wrap .i64 (n1 * IntKind.wrap .i64 (n2 - n3))) n4))))])))
 False)))
 False)
 False)))
 False)
 False)))
 False)
 False)))
 False)
 False)) := by kernel_rfl
def gCC9 (C : Ct) (L : AtLoop) (n cap : Nat) (l : List Value) (k : List D → Prop) : Prop := wpFn Try.prog (hB C) L 0 9 #[.agg #[S500 n cap]] (heapOf [L500 l]) (dataK k)
theorem gCC9_text (C : Ct) (L : AtLoop) (n : Nat) (cap : Nat) (l : List Go.Value) (k : List D → Prop) : gCC9 C L n cap l k =
 (∃ n1 : Int,
 ((Says C 34 [(D.val (vI ((↑n : Int)))), (D.val (vI (5 : Int)))] [(D.val (vI n1))]) ∧
 (bcase (n1 != 0)
 (k [(D.val (vI (0 : Int))), (D.val (vI n1))])
 (L 0 [(Prod.mk 16 (Go.Value.slice (Option.some (Go.Addr.mk 500 0 Option.none)) (n) (cap))), (Prod.mk 17 (vI ((↑n : Int)))), (Prod.mk 18 (vI (0 : Int)))] [(Prod.mk 500 (AObj.sym (l) false 7))])))) := by kernel_rfl
def gRC9 (C : Ct) (L : AtLoop) (n cap : Nat) (l : List Value) (k : List D → Prop) : Prop := wpFn Try.prog (hB C) L 0 13 #[.agg #[S500 n cap]] (heapOf [L500 l]) (dataK k)
theorem gRC9_text (C : Ct) (L : AtLoop) (n : Nat) (cap : Nat) (l : List Go.Value) (k : List D → Prop) : gRC9 C L n cap l k =
 (bcase ((↑n : Int) == 0)
 (k [(D.val (vI (0 : Int))), (D.val (vI (10 : Int)))])
 (bcase (decide ((↑n : Int) > 5))
 (k [(D.val (vI (0 : Int))), (D.val (vI (8 : Int)))])
 (L 0 [(Prod.mk 1 (Go.Value.pointer (Option.some (Go.Addr.mk 1000 0 Option.none)))), (Prod.mk 4 (vI (0 : Int)))] [(Prod.mk 1000 (AObj.cells [(Go.Value.slice (Option.some (Go.Addr.mk 500 0 Option.none)) (n) (cap))] 24 false 1)), (Prod.mk 500 (AObj.sym (l) false 7))]))) := by kernel_rfl
def sC9 (n cap : Nat) (i : Int) : Slots := [(16, S500 n cap), (17, .int .i64 n), (18, vI i)]
def rC9 (C : Ct) (L : AtLoop) (n cap : Nat) (l : List Value) (i : Int) (B : Bx) (X : Xx) (k : List D → Prop) : Prop := wpRound Try.prog (hB C) L 9 0 (sC9 n cap i) [L500 l] B X (dataK k)
theorem rC9_text (C : Ct) (L : AtLoop) (n : Nat) (cap : Nat) (l : List Go.Value) (i : Int) (B : Bx) (X : Xx) (k : List D → Prop) : rC9 C L n cap l i B X k =
 (bcase (decide (i < (↑n : Int)))
 (bcase (decide (0 ≤ i))
 (bcase (decide (i < (↑n : Int)))
 (∃ n1 : Int,
 (∃ n2 : Int,
 (∃ n3 : Int,
 (∃ n4 : Int,
 (∃ n5 : Int,
 (∃ n6 : Int,
 (∃ n7 : Int,
 ((At (l) (0 + Int.toNat i * 7) 7 [(vI n1), (vI n2), (vI n3), (vI n4), (vI n5), (vI n6), (vI n7)]) ∧
 (∃ n8 : Int,
 ((Says C 35 [(D.agg [(D.val (vI n1)), (D.val (vI n2)), (D.val (vI n3)), (D.val (vI n4)), (D.val (vI n5)), (D.val (vI n6)), (D.val (vI n7))])] [(D.val (vI n8))]) ∧
 (bcase (n8 != 0)
 (k [(D.val (vI i)), (D.val (vI n8))])
 (B [(Prod.mk 16 (Go.Value.slice (Option.some (Go.Addr.mk 500 0 Option.none)) (n) (cap))), (Prod.mk 17 (vI ((↑n : Int)))), (Prod.mk 18 (vI (IntKind.wrap .i64 (i + 1))))] [(Prod.mk 500 (AObj.sym (l) false 7))]))))))))))))
 False)
 False)
 (X 0 [] [])) := by kernel_rfl
def nC9 (C : Ct) (L : AtLoop) (k : List D → Prop) : Prop := wpNext Try.prog (hB C) L 9 0 .normal [] [] (dataK k)
theorem nC9_text (C : Ct) (L : AtLoop) (k : List D → Prop) : nC9 C L k =
 (k [(D.val (vI (0 : Int))), (D.val (vI (0 : Int)))]) := by kernel_rfl
abbrev oCh (i : Nat) (n cap : Nat) : Nat × AObj := (i, .cells [S500 n cap] 24 false 1)
def sR9 (i : Int) : Slots := [(1, P1 1000 0), (4, vI i)]
def rR9 (C : Ct) (L : AtLoop) (n cap : Nat) (l : List Value) (i : Int) (B : Bx) (X : Xx) (k : List D → Prop) : Prop := wpRound Try.prog (hB C) L 13 0 (sR9 i) [oCh 1000 n cap, L500 l] B X (dataK k)
theorem rR9_text (C : Ct) (L : AtLoop) (n : Nat) (cap : Nat) (l : List Go.Value) (i : Int) (B : Bx) (X : Xx) (k : List D → Prop) : rR9 C L n cap l i B X k =
 (bcase (decide (i < (↑n : Int)))
 (bcase (decide (0 ≤ i))
 (bcase (decide (i < (↑n : Int)))
 (∃ n1 : Int,
 (∃ n2 : Int,
 (∃ n3 : Int,
 (∃ n4 : Int,
 (∃ n5 : Int,
 (∃ n6 : Int,
 (∃ n7 : Int,
 ((At (l) (0 + Int.toNat i * 7) 7 [(vI n1), (vI n2), (vI n3), (vI n4), (vI n5), (vI n6), (vI n7)]) ∧
 (∃ n8 : Int,
 ((Says C 42 [(D.agg [(D.val (vI n1)), (D.val (vI n2)), (D.val (vI n3)), (D.val (vI n4)), (D.val (vI n5)), (D.val (vI n6)), (D.val (vI n7))])] [(D.val (vI n8))]) ∧
 (bcase (n8 != 0)
 (k [(D.val (vI i)), (D.val (vI n8))])
 (B [(Prod.mk 1 (Go.Value.pointer (Option.some (Go.Addr.mk 1000 0 Option.none)))), (Prod.mk 4 (vI (IntKind.wrap .i64 (i + 1))))] [(Prod.mk 1000 (AObj.cells [(Go.Value.slice (Option.some (Go.Addr.mk 500 0 Option.none)) (n) (cap))] 24 false 1)), (Prod.mk 500 (AObj.sym (l) false 7))]))))))))))))
 False)
 False)
 (X 0 [] [])) := by kernel_rfl
def nR9 (C : Ct) (L : AtLoop) (k : List D → Prop) : Prop := wpNext Try.prog (hB C) L 13 0 .normal [] [] (dataK k)
theorem nR9_text (C : Ct) (L : AtLoop) (k : List D → Prop) : nR9 C L k =
 (k [(D.val (vI (0 : Int))), (D.val (vI (0 : Int)))]) := by kernel_rfl
abbrev Q502 (l : List Value) : Nat × AObj := (502, .sym l false 1)
def gAe (C : Ct) (L : AtLoop) (n cap : Nat) (l : List Value) (m cap2 : Nat) (l2 : List Value) (o cap3 : Nat) (l3 : List Value) (k : List D → Prop) : Prop := wpFn Try.prog (hB C) L 0 41 #[S500 n cap, .agg #[S501 m cap2, S502 o cap3]] (heapOf [L500 l, Q501 l2, Q502 l3]) (dataK k)
theorem gAe_text (C : Ct) (L : AtLoop) (n : Nat) (cap : Nat) (l : List Go.Value) (m : Nat) (cap2 : Nat) (l2 : List Go.Value) (o : Nat) (cap3 : Nat) (l3 : List Go.Value) (k : List D → Prop) : gAe C L n cap l m cap2 l2 o cap3 l3 k =
 (L 0 [(Prod.mk 0 (Go.Value.slice (Option.some (Go.Addr.mk 500 0 Option.none)) (n) (cap))), (Prod.mk 3 (Go.Value.pointer (Option.some (Go.Addr.mk 1000 0 Option.none)))), (Prod.mk 5 (Go.Value.slice Option.none 0 0)), (Prod.mk 9 (Go.Value.slice (Option.some (Go.Addr.mk 501 0 Option.none)) (m) (cap2))), (Prod.mk 10 (vI ((↑m : Int)))), (Prod.mk 11 (vI (0 : Int)))] [(Prod.mk 500 (AObj.sym (l) false 7)), (Prod.mk 1000 (AObj.cells [(Go.Value.slice (Option.some (Go.Addr.mk 501 0 Option.none)) (m) (cap2)), (Go.Value.slice (Option.some (Go.Addr.mk 502 0 Option.none)) (o) (cap3))] 27 false 1)), (Prod.mk 501 (AObj.sym (l2) false 1)), (Prod.mk 502 (AObj.sym (l3) false 1))]) := by kernel_rfl
def gRAe (C : Ct) (L : AtLoop) (n cap : Nat) (l : List Value) (m cap2 : Nat) (l2 : List Value) (o cap3 : Nat) (l3 : List Value) (k : List D → Prop) : Prop := wpFn Try.prog (hB C) L 0 16 #[.agg #[S500 n cap], S501 m cap2, S502 o cap3] (heapOf [L500 l, Q501 l2, Q502 l3]) (dataK k)
theorem gRAe_text (C : Ct) (L : AtLoop) (n : Nat) (cap : Nat) (l : List Go.Value) (m : Nat) (cap2 : Nat) (l2 : List Go.Value) (o : Nat) (cap3 : Nat) (l3 : List Go.Value) (k : List D → Prop) : gRAe C L n cap l m cap2 l2 o cap3 l3 k =
 (L 0 [(Prod.mk 1 (Go.Value.slice (Option.some (Go.Addr.mk 501 0 Option.none)) (m) (cap2))), (Prod.mk 2 (Go.Value.slice (Option.some (Go.Addr.mk 502 0 Option.none)) (o) (cap3))), (Prod.mk 3 (Go.Value.pointer (Option.some (Go.Addr.mk 1000 0 Option.none)))), (Prod.mk 7 (Go.Value.slice Option.none 0 0)), (Prod.mk 8 (vI (0 : Int)))] [(Prod.mk 501 (AObj.sym (l2) false 1)), (Prod.mk 502 (AObj.sym (l3) false 1)), (Prod.mk 1000 (AObj.cells [(Go.Value.slice (Option.some (Go.Addr.mk 500 0 Option.none)) (n) (cap))] 24 false 1)), (Prod.mk 500 (AObj.sym (l) false 7))]) := by kernel_rfl
def gSt (C : Ct) (L : AtLoop) (n cap : Nat) (l : List Value) (m cap2 : Nat) (l2 : List Value) (o cap3 : Nat) (l3 : List Value) (k : List D → Prop) : Prop := wpFn Try.prog (hB C) L 0 11 #[.agg #[S500 n cap], .agg #[S501 m cap2, S502 o cap3]] (heapOf [L500 l, Q501 l2, Q502 l3]) (dataK k)
theorem gSt_text (C : Ct) (L : AtLoop) (n : Nat) (cap : Nat) (l : List Go.Value) (m : Nat) (cap2 : Nat) (l2 : List Go.Value) (o : Nat) (cap3 : Nat) (l3 : List Go.Value) (k : List D → Prop) : gSt C L n cap l m cap2 l2 o cap3 l3 k =
 (bcase (decide (0 + n * 7 ≤ List.length l))
 (∃ n1 : Int,
 (∃ n2 : Int,
 ((Says C 9 [(D.agg [(D.sl (n) 7 (List.take (n * 7) (List.drop 0 l)))])] [(D.val (vI n1)), (D.val (vI n2))]) ∧
 (bcase (n2 != 0)
 (∃ n3 : Int,
 ((Says C 38 [(D.val (vI (0 : Int))), (D.sl 2 1 [(vI ((↑m : Int))), (vI ((↑o : Int)))])] [(D.val (vI n3))]) ∧
 (∃ n4 : Int,
 ((Says C 37 [(D.sl 2 1 [(vI n2), (vI n3)])] [(D.val (vI n4))]) ∧
 (bcase (n4 != 0)
 (k [D.nil, (D.val (vI n4))])
 (L 0 [(Prod.mk 3 (Go.Value.pointer (Option.some (Go.Addr.mk 1000 0 Option.none)))), (Prod.mk 6 (Go.Value.slice Option.none 0 0)), (Prod.mk 33 (Go.Value.slice Option.none 0 0)), (Prod.mk 34 (vI (0 : Int))), (Prod.mk 35 (vI (0 : Int)))] [(Prod.mk 1000 (AObj.cells [(Go.Value.slice (Option.some (Go.Addr.mk 501 0 Option.none)) (m) (cap2)), (Go.Value.slice (Option.some (Go.Addr.mk 502 0 Option.none)) (o) (cap3))] 27 false 1)), (Prod.mk 501 (AObj.sym (l2) false 1)), (Prod.mk 502 (AObj.sym (l3) false 1))]))))))
 (∃ n3 : Int,
 ((Says C 38 [(D.val (vI ((↑n : Int)))), (D.sl 2 1 [(vI ((↑m : Int))), (vI ((↑o : Int)))])] [(D.val (vI n3))]) ∧
 (∃ n4 : Int,
 ((Says C 37 [(D.sl 2 1 [(vI (0 : Int)), (vI n3)])] [(D.val (vI n4))]) ∧
 (bcase (n4 != 0)
 (k [D.nil, (D.val (vI n4))])
 (L 0 [(Prod.mk 3 (Go.Value.pointer (Option.some (Go.Addr.mk 1000 0 Option.none)))), (Prod.mk 6 (Go.Value.slice (Option.some (Go.Addr.mk 500 0 Option.none)) (n) (cap))), (Prod.mk 33 (Go.Value.slice (Option.some (Go.Addr.mk 500 0 Option.none)) (n) (cap))), (Prod.mk 34 (vI ((↑n : Int)))), (Prod.mk 35 (vI (0 : Int)))] [(Prod.mk 1000 (AObj.cells [(Go.Value.slice (Option.some (Go.Addr.mk 501 0 Option.none)) (m) (cap2)), (Go.Value.slice (Option.some (Go.Addr.mk 502 0 Option.none)) (o) (cap3))] 27 false 1)), (Prod.mk 500 (AObj.sym (l) false 7)), (Prod.mk 501 (AObj.sym (l2) false 1)), (Prod.mk 502 (AObj.sym (l3) false 1))]))))))))))
 False) := by kernel_rfl
def gMv (C : Ct) (L : AtLoop) (n cap : Nat) (l : List Value) (m cap2 : Nat) (l2 : List Value) (o cap3 : Nat) (l3 : List Value) (k : List D → Prop) : Prop := wpFn Try.prog (hB C) L 0 14 #[.agg #[S500 n cap], .agg #[S501 m cap2, S502 o cap3]] (heapOf [L500 l, Q501 l2, Q502 l3]) (dataK k)
theorem gMv_text (C : Ct) (L : AtLoop) (n : Nat) (cap : Nat) (l : List Go.Value) (m : Nat) (cap2 : Nat) (l2 : List Go.Value) (o : Nat) (cap3 : Nat) (l3 : List Go.Value) (k : List D → Prop) : gMv C L n cap l m cap2 l2 o cap3 l3 k =
 (bcase ((↑m : Int) != (↑n : Int))
 (k [(D.val (vI (10 : Int)))])
 (bcase ((↑o : Int) != (↑n : Int))
 (k [(D.val (vI (10 : Int)))])
 (L 0 [(Prod.mk 2 (Go.Value.pointer (Option.some (Go.Addr.mk 1000 0 Option.none)))), (Prod.mk 3 (Go.Value.pointer (Option.some (Go.Addr.mk 1001 0 Option.none)))), (Prod.mk 5 (vI (0 : Int)))] [(Prod.mk 1000 (AObj.cells [(Go.Value.slice (Option.some (Go.Addr.mk 500 0 Option.none)) (n) (cap))] 24 false 1)), (Prod.mk 1001 (AObj.cells [(Go.Value.slice (Option.some (Go.Addr.mk 501 0 Option.none)) (m) (cap2)), (Go.Value.slice (Option.some (Go.Addr.mk 502 0 Option.none)) (o) (cap3))] 27 false 1)), (Prod.mk 500 (AObj.sym (l) false 7)), (Prod.mk 501 (AObj.sym (l2) false 1)), (Prod.mk 502 (AObj.sym (l3) false 1))]))) := by kernel_rfl
def gLw (C : Ct) (L : AtLoop) (n cap : Nat) (l : List Value) (m cap2 : Nat) (l2 : List Value) (o cap3 : Nat) (l3 : List Value) (k : List D → Prop) : Prop := wpFn Try.prog (hB C) L 0 3 #[.agg #[S500 n cap], .agg #[S501 m cap2, S502 o cap3]] (heapOf [L500 l, Q501 l2, Q502 l3]) (dataK k)
theorem gLw_text (C : Ct) (L : AtLoop) (n : Nat) (cap : Nat) (l : List Go.Value) (m : Nat) (cap2 : Nat) (l2 : List Go.Value) (o : Nat) (cap3 : Nat) (l3 : List Go.Value) (k : List D → Prop) : gLw C L n cap l m cap2 l2 o cap3 l3 k =
 (((Says C 7 [] [(D.val (Value.bool true))]) ∧
 (bcase (decide (0 + n * 7 ≤ List.length l))
 (((Says C 8 [(D.agg [(D.sl (n) 7 (List.take (n * 7) (List.drop 0 l)))])] [(D.val (Value.bool true))]) ∧
 (bcase (decide ((↑m : Int) > 7))
 (k [(D.val (Value.bool true))])
 (bcase (decide ((↑o : Int) > 7))
 (k [(D.val (Value.bool true))])
 (bcase (decide (0 + n * 7 ≤ List.length l))
 ((Says C 10 [(D.agg [(D.sl (n) 7 (List.take (n * 7) (List.drop 0 l)))])] [(D.agg [(D.sl (n) 7 (List.take (n * 7) (List.drop 0 l)))])]) ∧
 (bcase (decide (0 + n * 7 ≤ List.length (List.take (n * 7) (List.drop 0 l))))
 (∃ n1 : Int,
 (∃ n2 : Int,
 ((Says C 9 [(D.agg [(D.sl (n) 7 (List.take (n * 7) (List.drop 0 (List.take (n * 7) (List.drop 0 l)))))])] [(D.val (vI n1)), (D.val (vI n2))]) ∧
 ((((Go.Value.agg [(Go.Value.slice (Option.some (Go.Addr.mk 501 0 Option.none)) (m) (cap2)), (Go.Value.slice (Option.some (Go.Addr.mk 502 0 Option.none)) (o) (cap3))].toArray) = (Go.Value.agg [(Go.Value.slice (Option.some (Go.Addr.mk 501 0 Option.none)) (m) (cap2)), (Go.Value.slice (Option.some (Go.Addr.mk 502 0 Option.none)) (o) (cap3))].toArray)) ∧
 (((Go.Value.agg [(Go.Value.slice (Option.some (Go.Addr.mk 500 0 Option.none)) (n) (cap))].toArray) = (Go.Value.agg [(Go.Value.slice (Option.some (Go.Addr.mk 500 0 Option.none)) (n) (cap))].toArray)) ∧
 True)) ∧
 (bcase (decide (0 + n * 7 ≤ List.length l))
 ((Says C 10 [(D.agg [(D.sl (n) 7 (List.take (n * 7) (List.drop 0 l)))])] [(D.agg [(D.sl (n) 7 (List.take (n * 7) (List.drop 0 l)))])]) ∧
 ((((Go.Value.agg [(Go.Value.slice (Option.some (Go.Addr.mk 501 0 Option.none)) (m) (cap2)), (Go.Value.slice (Option.some (Go.Addr.mk 502 0 Option.none)) (o) (cap3))].toArray) = (Go.Value.agg [(Go.Value.slice (Option.some (Go.Addr.mk 501 0 Option.none)) (m) (cap2)), (Go.Value.slice (Option.some (Go.Addr.mk 502 0 Option.none)) (o) (cap3))].toArray)) ∧
 True) ∧
 ((((Go.Value.slice (Option.some (Go.Addr.mk 502 0 Option.none)) (o) (cap3)) = (Go.Value.slice (Option.some (Go.Addr.mk 502 0 Option.none)) (o) (cap3))) ∧
 (((Go.Value.pointer (Option.some (Go.Addr.mk 1004 1 Option.none))) = (Go.Value.pointer (Option.some (Go.Addr.mk 1004 1 Option.none)))) ∧
 (((Go.Value.slice (Option.some (Go.Addr.mk 501 0 Option.none)) (m) (cap2)) = (Go.Value.slice (Option.some (Go.Addr.mk 501 0 Option.none)) (m) (cap2))) ∧
 (((Go.Value.pointer (Option.some (Go.Addr.mk 1004 0 Option.none))) = (Go.Value.pointer (Option.some (Go.Addr.mk 1004 0 Option.none)))) ∧
 True)))) ∧
 (bcase (decide (0 + m * 1 ≤ List.length l2))
 ((Says C 20 [(D.sl (m) 1 (List.take (m * 1) (List.drop 0 l2)))] [(D.sl (m) 1 (List.take (m * 1) (List.drop 0 l2)))]) ∧
 ((((Go.Value.slice (Option.some (Go.Addr.mk 502 0 Option.none)) (o) (cap3)) = (Go.Value.slice (Option.some (Go.Addr.mk 502 0 Option.none)) (o) (cap3))) ∧
 (((Go.Value.pointer (Option.some (Go.Addr.mk 1004 1 Option.none))) = (Go.Value.pointer (Option.some (Go.Addr.mk 1004 1 Option.none)))) ∧
 (((Go.Value.pointer (Option.some (Go.Addr.mk 1004 0 Option.none))) = (Go.Value.pointer (Option.some (Go.Addr.mk 1004 0 Option.none)))) ∧
 True))) ∧
 (bcase (decide (0 + o * 1 ≤ List.length l3))
 ((Says C 20 [(D.sl (o) 1 (List.take (o * 1) (List.drop 0 l3)))] [(D.sl (o) 1 (List.take (o * 1) (List.drop 0 l3)))]) ∧
 ((((Go.Value.agg [(Go.Value.slice (Option.some (Go.Addr.mk 1006 0 Option.none)) (m) (m)), (Go.Value.slice (Option.some (Go.Addr.mk 1007 0 Option.none)) (o) (o))].toArray) = (Go.Value.agg [(Go.Value.slice (Option.some (Go.Addr.mk 1006 0 Option.none)) (m) (m)), (Go.Value.slice (Option.some (Go.Addr.mk 1007 0 Option.none)) (o) (o))].toArray)) ∧
 (((Go.Value.pointer (Option.some (Go.Addr.mk 1004 1 Option.none))) = (Go.Value.pointer (Option.some (Go.Addr.mk 1004 1 Option.none)))) ∧
 (((Go.Value.pointer (Option.some (Go.Addr.mk 1004 0 Option.none))) = (Go.Value.pointer (Option.some (Go.Addr.mk 1004 0 Option.none)))) ∧
 True))) ∧
 (True ∧
 (True ∧
 (bcase (decide (0 + n * 7 ≤ List.length (List.take (n * 7) (List.drop 0 l))))
 (bcase (decide (0 + m * 1 ≤ List.length (List.take (m * 1) (List.drop 0 l2))))
 (bcase (decide (0 + o * 1 ≤ List.length (List.take (o * 1) (List.drop 0 l3))))
 ((∃ n3 : Int,
 ((Says C 11 [(D.agg [(D.sl (n) 7 (List.take (n * 7) (List.drop 0 (List.take (n * 7) (List.drop 0 l)))))]), (D.agg [(D.sl (m) 1 (List.take (m * 1) (List.drop 0 (List.take (m * 1) (List.drop 0 l2))))), (D.sl (o) 1 (List.take (o * 1) (List.drop 0 (List.take (o * 1) (List.drop 0 l3)))))])] [D.nil, (D.val (vI n3))]) ∧
 ((((vI n3) = (vI n3)) ∧
 (((Go.Value.slice Option.none 0 0) = (Go.Value.slice Option.none 0 0)) ∧
 (((Go.Value.tuple [(Go.Value.slice Option.none 0 0), (vI n3)].toArray) = (Go.Value.tuple [(Go.Value.slice Option.none 0 0), (vI n3)].toArray)) ∧
 True))) ∧
 ((((vI n3) = (vI n3)) ∧
 True) ∧
 (True ∧
 (bcase (decide (0 + n * 7 ≤ List.length l))
 (∃ n4 : Int,
 (∃ n5 : Int,
 ((Says C 13 [(D.agg [(D.sl (n) 7 (List.take (n * 7) (List.drop 0 l)))])] [(D.val (vI n4)), (D.val (vI n5))]) ∧
 (bcase (n2 != n5)
 (k [(D.val (Value.bool false))])
 (bcase (n1 != n4)
 (k [(D.val (Value.bool false))])
 (bcase (n5 == 0)
 (bcase (decide (0 + n * 7 ≤ List.length l))
 (bcase (decide (0 + m * 1 ≤ List.length l2))
 (bcase (decide (0 + o * 1 ≤ List.length l3))
 (∃ n6 : Int,
 ((Says C 14 [(D.agg [(D.sl (n) 7 (List.take (n * 7) (List.drop 0 l)))]), (D.agg [(D.sl (m) 1 (List.take (m * 1) (List.drop 0 l2))), (D.sl (o) 1 (List.take (o * 1) (List.drop 0 l3)))])] [(D.val (vI n6))]) ∧
 (bcase (n6 != 0)
 (bcase (n3 == n6)
 (k [(D.val (Value.bool true))])
 (k [(D.val (Value.bool false))]))
 (bcase (n3 == 0)
 (bcase (decide (0 + n * 7 ≤ List.length l))
 (bcase (decide (0 + m * 1 ≤ List.length l2))
 (bcase (decide (0 + o * 1 ≤ List.length l3))
 (((Says C 16 [(D.agg [(D.sl (n) 7 (List.take (n * 7) (List.drop 0 l)))]), (D.sl (m) 1 (List.take (m * 1) (List.drop 0 l2))), (D.sl (o) 1 (List.take (o * 1) (List.drop 0 l3)))] [D.nil]) ∧
 (((Says C 15 [D.nil, D.nil] [(D.val (Value.bool true))]) ∧
 (k [(D.val (Value.bool true))])) ∨
 ((Says C 15 [D.nil, D.nil] [(D.val (Value.bool false))]) ∧
 (k [(D.val (Value.bool false))])))) ∨
 (∃ n7 : Nat,
 (∃ cs1 : List Go.Value,
 ((Says C 16 [(D.agg [(D.sl (n) 7 (List.take (n * 7) (List.drop 0 l)))]), (D.sl (m) 1 (List.take (m * 1) (List.drop 0 l2))), (D.sl (o) 1 (List.take (o * 1) (List.drop 0 l3)))] [(D.sl (n7) 1 (cs1))]) ∧
 (bcase (decide (0 + n7 * 1 ≤ List.length cs1))
 (((Says C 15 [D.nil, (D.sl (n7) 1 (List.take (n7 * 1) (List.drop 0 cs1)))] [(D.val (Value.bool true))]) ∧
 (k [(D.val (Value.bool true))])) ∨
 ((Says C 15 [D.nil, (D.sl (n7) 1 (List.take (n7 * 1) (List.drop 0 cs1)))] [(D.val (Value.bool false))]) ∧
 (k [(D.val (Value.bool false))])))
 False)))))
 False)
 False)
 False)
 (k [(D.val (Value.bool false))])))))
 False)
 False)
 False)
 (bcase (n5 != 0)
 (bcase (n3 == n5)
 (k [(D.val (Value.bool true))])
 (k [(D.val (Value.bool false))]))
 (bcase (n3 == 0)
 (bcase (decide (0 + n * 7 ≤ List.length l))
 (bcase (decide (0 + m * 1 ≤ List.length l2))
 (bcase (decide (0 + o * 1 ≤ List.length l3))
 (((Says C 16 [(D.agg [(D.sl (n) 7 (List.take (n * 7) (List.drop 0 l)))]), (D.sl (m) 1 (List.take (m * 1) (List.drop 0 l2))), (D.sl (o) 1 (List.take (o * 1) (List.drop 0 l3)))] [D.nil]) ∧
 (((Says C 15 [D.nil, D.nil] [(D.val (Value.bool true))]) ∧
 (k [(D.val (Value.bool true))])) ∨
 ((Says C 15 [D.nil, D.nil] [(D.val (Value.bool false))]) ∧
 (k [(D.val (Value.bool false))])))) ∨
 (∃ n6 : Nat,
 (∃ cs1 : List Go.Value,
 ((Says C 16 [(D.agg [(D.sl (n) 7 (List.take (n * 7) (List.drop 0 l)))]), (D.sl (m) 1 (List.take (m * 1) (List.drop 0 l2))), (D.sl (o) 1 (List.take (o * 1) (List.drop 0 l3)))] [(D.sl (n6) 1 (cs1))]) ∧
 (bcase (decide (0 + n6 * 1 ≤ List.length cs1))
 (((Says C 15 [D.nil, (D.sl (n6) 1 (List.take (n6 * 1) (List.drop 0 cs1)))] [(D.val (Value.bool true))]) ∧
 (k [(D.val (Value.bool true))])) ∨
 ((Says C 15 [D.nil, (D.sl (n6) 1 (List.take (n6 * 1) (List.drop 0 cs1)))] [(D.val (Value.bool false))]) ∧
 (k [(D.val (Value.bool false))])))
 False)))))
 False)
 False)
 False)
 (k [(D.val (Value.bool false))])))))))))
 False)))))) ∨
 (∃ n3 : Nat,
 (∃ cs1 : List Go.Value,
 (∃ n4 : Int,
 ((Says C 11 [(D.agg [(D.sl (n) 7 (List.take (n * 7) (List.drop 0 (List.take (n * 7) (List.drop 0 l)))))]), (D.agg [(D.sl (m) 1 (List.take (m * 1) (List.drop 0 (List.take (m * 1) (List.drop 0 l2))))), (D.sl (o) 1 (List.take (o * 1) (List.drop 0 (List.take (o * 1) (List.drop 0 l3)))))])] [(D.sl (n3) 1 (cs1)), (D.val (vI n4))]) ∧
 ((((vI n4) = (vI n4)) ∧
 (((Go.Value.slice (Option.some (Go.Addr.mk 1008 0 Option.none)) (n3) (n3)) = (Go.Value.slice (Option.some (Go.Addr.mk 1008 0 Option.none)) (n3) (n3))) ∧
 (((Go.Value.tuple [(Go.Value.slice (Option.some (Go.Addr.mk 1008 0 Option.none)) (n3) (n3)), (vI n4)].toArray) = (Go.Value.tuple [(Go.Value.slice (Option.some (Go.Addr.mk 1008 0 Option.none)) (n3) (n3)), (vI n4)].toArray)) ∧
 True))) ∧
 ((((vI n4) = (vI n4)) ∧
 True) ∧
 (True ∧
 (bcase (decide (0 + n * 7 ≤ List.length l))
 (∃ n5 : Int,
 (∃ n6 : Int,
 ((Says C 13 [(D.agg [(D.sl (n) 7 (List.take (n * 7) (List.drop 0 l)))])] [(D.val (vI n5)), (D.val (vI n6))]) ∧
 (bcase (n2 != n6)
 (k [(D.val (Value.bool false))])
 (bcase (n1 != n5)
 (k [(D.val (Value.bool false))])
 (bcase (n6 == 0)
 (bcase (decide (0 + n * 7 ≤ List.length l))
 (bcase (decide (0 + m * 1 ≤ List.length l2))
 (bcase (decide (0 + o * 1 ≤ List.length l3))
 (∃ n7 : Int,
 ((Says C 14 [(D.agg [(D.sl (n) 7 (List.take (n * 7) (List.drop 0 l)))]), (D.agg [(D.sl (m) 1 (List.take (m * 1) (List.drop 0 l2))), (D.sl (o) 1 (List.take (o * 1) (List.drop 0 l3)))])] [(D.val (vI n7))]) ∧
 (bcase (n7 != 0)
 (bcase (n4 == n7)
 (bcase ((↑n3 : Int) == 0)
 (k [(D.val (Value.bool true))])
 (k [(D.val (Value.bool false))]))
 (k [(D.val (Value.bool false))]))
 (bcase (n4 == 0)
 (bcase (decide (0 + n * 7 ≤ List.length l))
 (bcase (decide (0 + m * 1 ≤ List.length l2))
 (bcase (decide (0 + o * 1 ≤ List.length l3))
 (((Says C 16 [(D.agg [(D.sl (n) 7 (List.take (n * 7) (List.drop 0 l)))]), (D.sl (m) 1 (List.take (m * 1) (List.drop 0 l2))), (D.sl (o) 1 (List.take (o * 1) (List.drop 0 l3)))] [D.nil]) ∧
 (bcase (decide (0 + n3 * 1 ≤ List.length cs1))
 (((Says C 15 [(D.sl (n3) 1 (List.take (n3 * 1) (List.drop 0 cs1))), D.nil] [(D.val (Value.bool true))]) ∧
 (k [(D.val (Value.bool true))])) ∨
 ((Says C 15 [(D.sl (n3) 1 (List.take (n3 * 1) (List.drop 0 cs1))), D.nil] [(D.val (Value.bool false))]) ∧
 (k [(D.val (Value.bool false))])))
 False)) ∨
 (∃ n8 : Nat,
 (∃ cs2 : List Go.Value,
 ((Says C 16 [(D.agg [(D.sl (n) 7 (List.take (n * 7) (List.drop 0 l)))]), (D.sl (m) 1 (List.take (m * 1) (List.drop 0 l2))), (D.sl (o) 1 (List.take (o * 1) (List.drop 0 l3)))] [(D.sl (n8) 1 (cs2))]) ∧
 (bcase (decide (0 + n3 * 1 ≤ List.length cs1))
 (bcase (decide (0 + n8 * 1 ≤ List.length cs2))
 (((Says C 15 [(D.sl (n3) 1 (List.take (n3 * 1) (List.drop 0 cs1))), (D.sl (n8) 1 (List.take (n8 * 1) (List.drop 0 cs2)))] [(D.val (Value.bool true))]) ∧
 (k [(D.val (Value.bool true))])) ∨
 ((Says C 15 [(D.sl (n3) 1 (List.take (n3 * 1) (List.drop 0 cs1))), (D.sl (n8) 1 (List.take (n8 * 1) (List.drop 0 cs2)))] [(D.val (Value.bool false))]) ∧
 (k [(D.val (Value.bool false))])))
 False)
 False)))))
 False)
 False)
 False)
 (k [(D.val (Value.bool false))])))))
 False)
 False)
 False)
 (bcase (n6 != 0)
 (bcase (n4 == n6)
 (bcase ((↑n3 : Int) == 0)
 (k [(D.val (Value.bool true))])
 (k [(D.val (Value.bool false))]))
 (k [(D.val (Value.bool false))]))
 (bcase (n4 == 0)
 (bcase (decide (0 + n * 7 ≤ List.length l))
 (bcase (decide (0 + m * 1 ≤ List.length l2))
 (bcase (decide (0 + o * 1 ≤ List.length l3))
 (((Says C 16 [(D.agg [(D.sl (n) 7 (List.take (n * 7) (List.drop 0 l)))]), (D.sl (m) 1 (List.take (m * 1) (List.drop 0 l2))), (D.sl (o) 1 (List.take (o * 1) (List.drop 0 l3)))] [D.nil]) ∧
 (bcase (decide (0 + n3 * 1 ≤ List.length cs1))
 (((Says C 15 [(D.sl (n3) 1 (List.take (n3 * 1) (List.drop 0 cs1))), D.nil] [(D.val (Value.bool true))]) ∧
 (k [(D.val (Value.bool true))])) ∨
 ((Says C 15 [(D.sl (n3) 1 (List.take (n3 * 1) (List.drop 0 cs1))), D.nil] [(D.val (Value.bool false))]) ∧
 (k [(D.val (Value.bool false))])))
 False)) ∨
 (∃ n7 : Nat,
 (∃ cs2 : List Go.Value,
 ((Says C 16 [(D.agg [(D.sl (n) 7 (List.take (n * 7) (List.drop 0 l)))]), (D.sl (m) 1 (List.take (m * 1) (List.drop 0 l2))), (D.sl (o) 1 (List.take (o * 1) (List.drop 0 l3)))] [(D.sl (n7) 1 (cs2))]) ∧
 (bcase (decide (0 + n3 * 1 ≤ List.length cs1))
 (bcase (decide (0 + n7 * 1 ≤ List.length cs2))
 (((Says C 15 [(D.sl (n3) 1 (List.take (n3 * 1) (List.drop 0 cs1))), (D.sl (n7) 1 (List.take (n7 * 1) (List.drop 0 cs2)))] [(D.val (Value.bool true))]) ∧
 (k [(D.val (Value.bool true))])) ∨
 ((Says C 15 [(D.sl (n3) 1 (List.take (n3 * 1) (List.drop 0 cs1))), (D.sl (n7) 1 (List.take (n7 * 1) (List.drop 0 cs2)))] [(D.val (Value.bool false))]) ∧
 (k [(D.val (Value.bool false))])))
 False)
 False)))))
 False)
 False)
 False)
 (k [(D.val (Value.bool false))])))))))))
 False)))))))))
 False)
 False)
 False)))))
 False)))
 False))))
 False)))))
 False))
 False)))) ∨
 ((Says C 8 [(D.agg [(D.sl (n) 7 (List.take (n * 7) (List.drop 0 l)))])] [(D.val (Value.bool false))]) ∧
 (k [(D.val (Value.bool true))])))
 False)) ∨
 ((Says C 7 [] [(D.val (Value.bool false))]) ∧
 (k [(D.val (Value.bool false))]))) := by kernel_rfl
end Go.Proofs.G5b

/- Chapter 5: loopers and chains, in data. -/
namespace Go.Proofs.G5b
open Go Go.Abs Go.Proofs Go.Proofs.G5
set_option maxRecDepth 100000
theorem preBOK : PreOK Try.prog (preB C5) := by
  intro g h he args ats H k hk
  unfold preB at he
  split at he
  · rename_i e
    obtain rfl := Option.some.inj he
    rw [beq_iff_eq] at e
    subst e
    exact wpState_call (fun args bs K hk => wit_ok hk) hk
  · split at he
    · obtain rfl := Option.some.inj he
      exact fixH_ok (fun _ _ _ h => h) _ _ _ _ _ hk
    · split at he
      · obtain rfl := Option.some.inj he
        exact fixH_ok (fun _ _ _ h => h) _ _ _ _ _ hk
      · split at he
        · obtain rfl := Option.some.inj he
          exact saidH_ok (fun _ _ _ h => h) _ _ _ _ _ hk
        · cases he
theorem hokB : HandlerOK Try.prog (hB C5) := handlerX_ok mixed preBOK (by decide) 6
abbrev dS (p : Sv) : D := .agg [dI p.a, dI p.b, dI p.c, dI p.d, dI p.e, dI p.f, dI p.g]
theorem conCL (p : Sv) : C5 35 [dS p] [dI (lpE p)] := by
  refine con_flat hokB mixed Try.func35 rfl (by show 0 ≤ 400; omega) rfl (by kernel_rfl) (fun caps => ?_)
  show gCL _ _ p.a p.b p.c p.d p.e p.f p.g _
  rw [gCL_text]
  try simp only [eq_self, true_and, and_true]
  refine ⟨witE (-1000) 1000 2 [vI p.a, vI p.d, vI p.e, vI p.f, vI p.g], ⟨rfl⟩, _, wit_rng, _, wit_rng, ?_⟩
  refine ⟨_, ⟨conFE [witE (-1000) 1000 2 [vI p.a, vI p.d, vI p.e, vI p.f, vI p.g], rngE 0 100 2 p.b, rngE 1 100 2 p.c] (by simp)⟩, ?_⟩
  by_cases hin : (hgt p.a ∧ hgt p.d ∧ hgt p.e ∧ hgt p.f ∧ hgt p.g) ∧ (0 ≤ p.b ∧ p.b ≤ 100) ∧ (1 ≤ p.c ∧ p.c ≤ 100)
  · have hf : fst0 [witE (-1000) 1000 2 [vI p.a, vI p.d, vI p.e, vI p.f, vI p.g], rngE 0 100 2 p.b, rngE 1 100 2 p.c] = 0 := by
      simp only [fst0, witE, rngE]
      repeat' split
      all_goals first | rfl | omega
    have hl : lpE p = if p.b > p.c then 3 else if p.d > p.e ∨ p.f > p.g then 9 else if p.f ≤ p.a ∧ p.a ≤ p.g then 0 else 22 := if_pos hin
    rw [hf, hl]
    refine bc_bne (fun h => absurd rfl h) (fun _ => bc_dec (fun h1 => ?_) (fun h1 => ?_))
    · rw [if_pos h1]
    · rw [if_neg h1]
      refine bc_dec (fun h2 => ?_) (fun h2 => ?_)
      · refine ⟨_, wit_rng, _, ⟨conFE [9, rngE p.f p.g 22 p.a] (by simp)⟩, ?_⟩
        rw [if_pos (.inl h2)]; rfl
      · refine bc_dec (fun h3 => ?_) (fun h3 => ?_)
        · refine ⟨_, wit_rng, _, ⟨conFE [9, rngE p.f p.g 22 p.a] (by simp)⟩, ?_⟩
          rw [if_pos (.inr h3)]; rfl
        · refine ⟨_, wit_rng, _, ⟨conFE [0, rngE p.f p.g 22 p.a] (by simp)⟩, ?_⟩
          rw [if_neg (fun h => h.elim h2 h3), fst0_two, if_pos rfl]; rfl
  · have hf : fst0 [witE (-1000) 1000 2 [vI p.a, vI p.d, vI p.e, vI p.f, vI p.g], rngE 0 100 2 p.b, rngE 1 100 2 p.c] = 2 := by
      simp only [fst0, witE, rngE]
      repeat' split
      all_goals first | rfl | omega
    have hl : lpE p = 2 := if_neg hin
    rw [hf, hl]
    exact bc_bne (fun _ => rfl) (fun h => absurd h (by decide))
theorem conLE (p : Sv) : C5 42 [dS p] [dI (lpE p)] := by
  refine con_flat hokB mixed Try.func42 rfl (by show 0 ≤ 400; omega) rfl (by kernel_rfl) (fun caps => ?_)
  show gLE _ _ p.a p.b p.c p.d p.e p.f p.g _
  rw [gLE_text]
  try simp only [eq_self, true_and, and_true]
  have bad : ¬ ((hgt p.a ∧ hgt p.d ∧ hgt p.e ∧ hgt p.f ∧ hgt p.g) ∧ (0 ≤ p.b ∧ p.b ≤ 100) ∧ (1 ≤ p.c ∧ p.c ≤ 100)) → [dI 2] = [dI (lpE p)] := fun h => by rw [lpE, if_neg h]
  by_cases h1 : (-1000 : Int) ≤ p.a ∧ p.a ≤ 1000
  · refine .inl ⟨sayWt h1, ?_⟩
    by_cases h2 : (-1000 : Int) ≤ p.d ∧ p.d ≤ 1000
    · refine .inl ⟨sayWt h2, ?_⟩
      by_cases h3 : (-1000 : Int) ≤ p.e ∧ p.e ≤ 1000
      · refine .inl ⟨sayWt h3, ?_⟩
        by_cases h4 : (-1000 : Int) ≤ p.f ∧ p.f ≤ 1000
        · refine .inl ⟨sayWt h4, ?_⟩
          by_cases h5 : (-1000 : Int) ≤ p.g ∧ p.g ≤ 1000
          · refine .inl ⟨sayWt h5, ?_⟩
            by_cases h6 : (0 : Int) ≤ p.b ∧ p.b ≤ 100
            · refine .inl ⟨sayWt h6, ?_⟩
              by_cases h7 : (1 : Int) ≤ p.c ∧ p.c ≤ 100
              · refine .inl ⟨sayWt h7, ?_⟩
                have hl : lpE p = if p.b > p.c then 3 else if p.d > p.e ∨ p.f > p.g then 9 else if p.f ≤ p.a ∧ p.a ≤ p.g then 0 else 22 := if_pos ⟨⟨h1, h2, h3, h4, h5⟩, h6, h7⟩
                rw [hl]
                refine bc_dec (fun q1 => ?_) (fun q1 => ?_)
                · rw [if_pos q1]
                · rw [if_neg q1]
                  refine bc_dec (fun q2 => ?_) (fun q2 => ?_)
                  · rw [if_pos (.inl q2)]
                  · refine bc_dec (fun q3 => ?_) (fun q3 => ?_)
                    · rw [if_pos (.inr q3)]
                    · rw [if_neg (fun h => h.elim q2 q3)]
                      by_cases q4 : p.f ≤ p.a ∧ p.a ≤ p.g
                      · exact .inl ⟨sayWt q4, by rw [if_pos q4]⟩
                      · exact .inr ⟨sayWf q4, by rw [if_neg q4]⟩
              · exact .inr ⟨sayWf h7, bad (fun h => h7 h.2.2)⟩
            · exact .inr ⟨sayWf h6, bad (fun h => h6 h.2.1)⟩
          · exact .inr ⟨sayWf h5, bad (fun h => h5 h.1.2.2.2.2)⟩
        · exact .inr ⟨sayWf h4, bad (fun h => h4 h.1.2.2.2.1)⟩
      · exact .inr ⟨sayWf h3, bad (fun h => h3 h.1.2.2.1)⟩
    · exact .inr ⟨sayWf h2, bad (fun h => h2 h.1.2.1)⟩
  · exact .inr ⟨sayWf h1, bad (fun h => h1 h.1.1)⟩
theorem conC9 (l : List Sv) (hlen : l.length < 1000000) : C5 9 [.agg [.sl l.length 7 (vs7 l)]] [dI (chE l).1, dI (chE l).2] := by
  let inv : Nat × Nat → Prop := fun y => y.1 ≤ l.length ∧ chE l = lpGo y.1 (l.drop y.1)
  let st : Nat × Nat → Slots × Blocks := fun y => (sC9 l.length y.2 y.1, [L500 (vs7 l)])
  refine con_of (L := fun _ s b => ∃ x, inv x ∧ st x = (s, b)) hokB mixed Try.func9 rfl (by show 1 ≤ 400; omega) rfl (ids := [0]) (by kernel_rfl) rfl (fun caps => ?_) (fun id hid => ?_)
  · show gCC9 _ _ l.length (caps 500) (vs7 l) _
    rw [gCC9_text]
    try simp only [eq_self, true_and, and_true]
    refine ⟨_, ⟨conCC _ _⟩, ?_⟩
    by_cases h0 : l.length = 0
    · rw [if_pos (by omega)]
      refine bc_bne (fun _ => ?_) (fun h => absurd h (by decide))
      rw [chE, if_pos h0]
    · rw [if_neg (by omega)]
      by_cases h5 : l.length > 5
      · rw [if_pos (by omega)]
        refine bc_bne (fun _ => ?_) (fun h => absurd h (by decide))
        rw [chE, if_neg h0, if_pos h5]
      · rw [if_neg (by omega)]
        refine bc_bne (fun h => absurd rfl h) (fun _ => ?_)
        exact ⟨(0, caps 500), ⟨Nat.zero_le _, by rw [chE, if_neg h0, if_neg h5]; rfl⟩, rfl⟩
  · obtain rfl := List.mem_singleton.1 hid
    refine ⟨Nat × Nat, st, inv, fun y => l.length - y.1, ⟨fun s b h => h, by kernel_rfl, ?_⟩⟩
    rintro ⟨i, cap⟩ ⟨hi, hr⟩
    simp only at hi hr
    show rC9 _ _ l.length cap (vs7 l) (i : Int) _ _ _
    rw [rC9_text]
    refine bc_dec (fun h => ?_) (fun h => ?_)
    · have h1 : i < l.length := by omega
      rw [List.drop_eq_getElem_cons h1, lpGo] at hr
      simp only [bc_t h, bc_t (show (0 : Int) ≤ (i : Int) by omega), Int.toNat_natCast, at7 (vs7_all l i h1), eq_self, true_and]
      refine ⟨_, ⟨conCL l[i]⟩, ?_⟩
      refine bc_bne (fun hc => ?_) (fun hc => ?_)
      · rw [if_pos hc] at hr
        show _ = _
        rw [hr]
      · rw [if_neg (fun x => x hc)] at hr
        refine ⟨(i + 1, cap), ⟨h1, hr⟩, by show l.length - (i + 1) < l.length - i; omega, ?_⟩
        rw [w64 (by omega) (by omega)]; rfl
    · show (if 0 = 0 then _ else _)
      rw [if_pos rfl]
      show nC9 _ _ _
      rw [nC9_text]
      have : i = l.length := by omega
      rw [this, List.drop_length] at hr
      show _ = _
      rw [hr]; rfl
theorem conR9 (l : List Sv) (hlen : l.length < 1000000) : C5 13 [.agg [.sl l.length 7 (vs7 l)]] [dI (chE l).1, dI (chE l).2] := by
  let inv : Nat × Nat → Prop := fun y => y.1 ≤ l.length ∧ chE l = lpGo y.1 (l.drop y.1)
  let st : Nat × Nat → Slots × Blocks := fun y => (sR9 y.1, [oCh 1000 l.length y.2, L500 (vs7 l)])
  refine con_of (L := fun _ s b => ∃ x, inv x ∧ st x = (s, b)) hokB mixed Try.func13 rfl (by show 1 ≤ 400; omega) rfl (ids := [0]) (by kernel_rfl) rfl (fun caps => ?_) (fun id hid => ?_)
  · show gRC9 _ _ l.length (caps 500) (vs7 l) _
    rw [gRC9_text]
    try simp only [eq_self, true_and, and_true]
    refine bc_beq (fun h0 => ?_) (fun h0 => ?_)
    · rw [chE, if_pos (by omega)]
    · refine bc_dec (fun h5 => ?_) (fun h5 => ?_)
      · rw [chE, if_neg (by omega), if_pos (by omega)]
      · exact ⟨(0, caps 500), ⟨Nat.zero_le _, by rw [chE, if_neg (by omega), if_neg (by omega)]; rfl⟩, rfl⟩
  · obtain rfl := List.mem_singleton.1 hid
    refine ⟨Nat × Nat, st, inv, fun y => l.length - y.1, ⟨fun s b h => h, by kernel_rfl, ?_⟩⟩
    rintro ⟨i, cap⟩ ⟨hi, hr⟩
    simp only at hi hr
    show rR9 _ _ l.length cap (vs7 l) (i : Int) _ _ _
    rw [rR9_text]
    refine bc_dec (fun h => ?_) (fun h => ?_)
    · have h1 : i < l.length := by omega
      rw [List.drop_eq_getElem_cons h1, lpGo] at hr
      simp only [bc_t h, bc_t (show (0 : Int) ≤ (i : Int) by omega), Int.toNat_natCast, at7 (vs7_all l i h1), eq_self, true_and]
      refine ⟨_, ⟨conLE l[i]⟩, ?_⟩
      refine bc_bne (fun hc => ?_) (fun hc => ?_)
      · rw [if_pos hc] at hr
        show _ = _
        rw [hr]
      · rw [if_neg (fun x => x hc)] at hr
        refine ⟨(i + 1, cap), ⟨h1, hr⟩, by show l.length - (i + 1) < l.length - i; omega, ?_⟩
        rw [w64 (by omega) (by omega)]; rfl
    · show (if 0 = 0 then _ else _)
      rw [if_pos rfl]
      show nR9 _ _ _
      rw [nR9_text]
      have : i = l.length := by omega
      rw [this, List.drop_length] at hr
      show _ = _
      rw [hr]; rfl
end Go.Proofs.G5b

/- What is left to show of each function, written out; the kernel reckons it. -/
namespace Go.Proofs.G5b
open Go Go.Abs Go.Proofs
set_option maxRecDepth 100000
set_option linter.unusedVariables false
def gROn (C : Ct) (L : AtLoop) (a b c d : Int) (k : List D → Prop) : Prop := wpFn Try.prog (hG C) L 0 999999 #[vA a b c d, .slice none 0 0] (heapOf []) (dataK k)
theorem gROn_text (C : Ct) (L : AtLoop) (a : Int) (b : Int) (c : Int) (d : Int) (k : List D → Prop) : gROn C L a b c d k =
 False := by kernel_rfl
def sROn (c : Int) (i : Int) : Slots := [(1, .slice none 0 0), (2, P1 1000 0), (6, .slice none 0 0), (7, vI c), (8, vI i)]
def rROn (C : Ct) (L : AtLoop) (a b c d : Int) (x i : Int) (B : Bx) (X : Xx) (k : List D → Prop) : Prop := wpRound Try.prog (hG C) L 999999 0 (sROn x i) [oN a b c d] B X (dataK k)
theorem rROn_text (C : Ct) (L : AtLoop) (a : Int) (b : Int) (c : Int) (d : Int) (x : Int) (i : Int) (B : Bx) (X : Xx) (k : List D → Prop) : rROn C L a b c d x i B X k =
 False := by kernel_rfl
def gRMn (C : Ct) (L : AtLoop) (a b c d : Int) (k : List D → Prop) : Prop := wpFn Try.prog (hG C) L 0 999999 #[vA a b c d, .slice none 0 0] (heapOf []) (dataK k)
theorem gRMn_text (C : Ct) (L : AtLoop) (a : Int) (b : Int) (c : Int) (d : Int) (k : List D → Prop) : gRMn C L a b c d k =
 False := by kernel_rfl
def sRMn (i : Int) : Slots := [(1, .slice none 0 0), (2, P1 1000 0), (6, vI i)]
def rRMn (C : Ct) (L : AtLoop) (a b c d : Int) (i : Int) (B : Bx) (X : Xx) (k : List D → Prop) : Prop := wpRound Try.prog (hG C) L 999999 0 (sRMn i) [oN a b c d] B X (dataK k)
theorem rRMn_text (C : Ct) (L : AtLoop) (a : Int) (b : Int) (c : Int) (d : Int) (i : Int) (B : Bx) (X : Xx) (k : List D → Prop) : rRMn C L a b c d i B X k =
 False := by kernel_rfl
def nRMn (C : Ct) (L : AtLoop) (a b c d : Int) (k : List D → Prop) : Prop := wpNext Try.prog (hG C) L 999999 0 .normal [(1, .slice none 0 0), (2, P1 1000 0)] [oN a b c d] (dataK k)
theorem nRMn_text (C : Ct) (L : AtLoop) (a : Int) (b : Int) (c : Int) (d : Int) (k : List D → Prop) : nRMn C L a b c d k =
 False := by kernel_rfl
def gInN (C : Ct) (L : AtLoop) (k : List D → Prop) : Prop := wpFn Try.prog (hG C) L 0 15 #[.slice none 0 0, .slice none 0 0] (heapOf []) (dataK k)
theorem gInN_text (C : Ct) (L : AtLoop) (k : List D → Prop) : gInN C L k =
 (L 0 [(Prod.mk 0 (Go.Value.slice Option.none 0 0)), (Prod.mk 1 (Go.Value.slice Option.none 0 0)), (Prod.mk 5 (Go.Value.int Go.IntKind.i64 (0 : Int)))] []) := by kernel_rfl
def sInN (i : Int) : Slots := [(0, .slice none 0 0), (1, .slice none 0 0), (5, vI i)]
def rInN (C : Ct) (L : AtLoop) (i : Int) (B : Bx) (X : Xx) (k : List D → Prop) : Prop := wpRound Try.prog (hG C) L 15 0 (sInN i) [] B X (dataK k)
theorem rInN_text (C : Ct) (L : AtLoop) (i : Int) (B : Bx) (X : Xx) (k : List D → Prop) : rInN C L i B X k =
 (bcase (decide (i < (↑0 : Int)))
 False
 (X 0 [] [])) := by kernel_rfl
def sB0 (x n count : Int) (l8 : Value) (t : Int) : Slots := [(1, vI x), (2, P1 1000 0), (5, vI n), (7, vI count), (8, l8), (9, vI t)]
def rB0 (C : Ct) (L : AtLoop) (a b c d x n count t : Int) (B : Bx) (X : Xx) (k : List D → Prop) : Prop := wpRound Try.prog (hG C) L 999999 0 (sB0 x n count (.slice none 0 0) t) [oN a b c d] B X (dataK k)
theorem rB0_text (C : Ct) (L : AtLoop) (a : Int) (b : Int) (c : Int) (d : Int) (x : Int) (n : Int) (count : Int) (t : Int) (B : Bx) (X : Xx) (k : List D → Prop) : rB0 C L a b c d x n count t B X k =
 False := by kernel_rfl
def rB1 (C : Ct) (L : AtLoop) (a b c d x n count t : Int) (m : Nat) (vs : List Value) (B : Bx) (X : Xx) (k : List D → Prop) : Prop := wpRound Try.prog (hG C) L 999999 0 (sB0 x n count (.slice (some ⟨1001, 0, none⟩) m m) t) [oN a b c d, (1001, .sym vs true 1)] B X (dataK k)
theorem rB1_text (C : Ct) (L : AtLoop) (a : Int) (b : Int) (c : Int) (d : Int) (x : Int) (n : Int) (count : Int) (t : Int) (m : Nat) (vs : List Go.Value) (B : Bx) (X : Xx) (k : List D → Prop) : rB1 C L a b c d x n count t m vs B X k =
 False := by kernel_rfl
def sBN (x n count : Int) (l8 : Value) : Slots := [(1, vI x), (2, P1 1000 0), (5, vI n), (7, vI count), (8, l8)]
def nB0 (C : Ct) (L : AtLoop) (a b c d x n count : Int) (m : Nat) (vs : List Value) (k : List D → Prop) : Prop := wpNext Try.prog (hG C) L 999999 0 .normal (sBN x n count (.slice (some ⟨1001, 0, none⟩) m m)) [oN a b c d, (1001, .sym vs true 1)] (dataK k)
theorem nB0_text (C : Ct) (L : AtLoop) (a : Int) (b : Int) (c : Int) (d : Int) (x : Int) (n : Int) (count : Int) (m : Nat) (vs : List Go.Value) (k : List D → Prop) : nB0 C L a b c d x n count m vs k =
 False := by kernel_rfl
end Go.Proofs.G5b
