/- Texts of the proof, put together: GaT2, G5S, G5B, AbsTab, GaC, GaK0, GaI, GaT3. -/
import Derived.Test.YthgcicagmdlnmaaP4
import Derived.Test.YthgcicagmdlnmaaP3
import Derived.Test.YthgcicagmdlnmaaRows
import Derived.Handed
import Derived.JoinedCond
import Derived.Shelf.Spec.SlicesInsert
/- What is left to show of each function, written out; the kernel reckons it. -/
namespace Go.Proofs.G5a
open Go Go.Abs Go.Proofs
set_option maxRecDepth 100000
set_option linter.unusedVariables false
abbrev S500 (n cap : Nat) : Value := .slice (some ⟨500, 0, none⟩) n cap
abbrev S501 (n cap : Nat) : Value := .slice (some ⟨501, 0, none⟩) n cap
abbrev Q500 (l : List Value) : Nat × AObj := (500, .sym l false 1)
abbrev Q501 (l : List Value) : Nat × AObj := (501, .sym l false 1)
abbrev T500 (l : List Value) : Nat × AObj := (500, .sym l false 2)
abbrev vA (a b c d : Int) : Value := .agg #[vI a, vI b, vI c, vI d]
def preG (C : Ct) : FuncId → Option Handler := fun g => if g == 68 then some (stateH (witAll 3 64 24)) else if g == 8 then some (fixH C copyInts) else if [6, 26, 27, 28, 36, 34, 14, 13, 11, 12, 37, 15, 16, 10, 17, 18, 7, 9, 31, 35].contains g then some (saidH Try.prog C) else none
abbrev hG (C : Ct) : Handler := handlerX Try.prog (preG C) 12 6
abbrev hE (C : Ct) : Handler := handlerX Try.prog (fun _ => none) 12 6
def gFE (C : Ct) (L : AtLoop) (n cap : Nat) (l : List Value) (k : List D → Prop) : Prop := wpFn Try.prog (hG C) L 0 26 #[S500 n cap] (heapOf [Q500 l]) (dataK k)
theorem gFE_text (C : Ct) (L : AtLoop) (n : Nat) (cap : Nat) (l : List Go.Value) (k : List D → Prop) : gFE C L n cap l k =
 (L 0 [(Prod.mk 5 (Go.Value.slice (Option.some (Go.Addr.mk 500 0 Option.none)) (n) (cap))), (Prod.mk 6 (Go.Value.int Go.IntKind.i64 ((↑n : Int)))), (Prod.mk 7 (Go.Value.int Go.IntKind.i64 (0 : Int)))] [(Prod.mk 500 (AObj.sym (l) false 1))]) := by kernel_rfl
def gCS (C : Ct) (L : AtLoop) (a : Int) (n cap : Nat) (l : List Value) (k : List D → Prop) : Prop := wpFn Try.prog (hG C) L 0 27 #[vI a, S500 n cap] (heapOf [Q500 l]) (dataK k)
theorem gCS_text (C : Ct) (L : AtLoop) (a : Int) (n : Nat) (cap : Nat) (l : List Go.Value) (k : List D → Prop) : gCS C L a n cap l k =
 (L 0 [(Prod.mk 0 (Go.Value.int Go.IntKind.i64 (a))), (Prod.mk 7 (Go.Value.slice (Option.some (Go.Addr.mk 500 0 Option.none)) (n) (cap))), (Prod.mk 8 (Go.Value.int Go.IntKind.i64 ((↑n : Int)))), (Prod.mk 9 (Go.Value.int Go.IntKind.i64 (0 : Int)))] [(Prod.mk 500 (AObj.sym (l) false 1))]) := by kernel_rfl
def gCC (C : Ct) (L : AtLoop) (a b : Int) (k : List D → Prop) : Prop := wpFn Try.prog (hG C) L 0 28 #[vI a, vI b] (heapOf []) (dataK k)
theorem gCC_text (C : Ct) (L : AtLoop) (a : Int) (b : Int) (k : List D → Prop) : gCC C L a b k =
 (bcase (a == 0)
 (k [(D.val (Go.Value.int Go.IntKind.i64 (10 : Int)))])
 (bcase (decide (a > b))
 (k [(D.val (Go.Value.int Go.IntKind.i64 (8 : Int)))])
 (k [(D.val (Go.Value.int Go.IntKind.i64 (0 : Int)))]))) := by kernel_rfl
def gWi (C : Ct) (L : AtLoop) (a b c : Int) (k : List D → Prop) : Prop := wpFn Try.prog (hG C) L 0 17 #[vI a, vI b, vI c] (heapOf []) (dataK k)
theorem gWi_text (C : Ct) (L : AtLoop) (a : Int) (b : Int) (c : Int) (k : List D → Prop) : gWi C L a b c k =
 (bcase (decide (b ≤ a))
 (bcase (decide (a ≤ c))
 (k [(D.val (Go.Value.bool true))])
 (k [(D.val (Go.Value.bool false))]))
 (k [(D.val (Go.Value.bool false))])) := by kernel_rfl
def gSi (C : Ct) (L : AtLoop) (a : Int) (k : List D → Prop) : Prop := wpFn Try.prog (hG C) L 0 18 #[vI a] (heapOf []) (dataK k)
theorem gSi_text (C : Ct) (L : AtLoop) (a : Int) (k : List D → Prop) : gSi C L a k =
 (k [(D.val (Go.Value.int Go.IntKind.i64 (if Go.IntKind.wrap Go.IntKind.i64 (0 - a) > a then Go.IntKind.wrap Go.IntKind.i64 (0 - a) else a)))]) := by kernel_rfl
def gTk (C : Ct) (L : AtLoop) (a b c d y : Int) (k : List D → Prop) : Prop := wpFn Try.prog (hG C) L 0 36 #[vA a b c d, vI y] (heapOf []) (dataK k)
theorem gTk_text (C : Ct) (L : AtLoop) (a : Int) (b : Int) (c : Int) (d : Int) (y : Int) (k : List D → Prop) : gTk C L a b c d y k =
 (bcase (decide ((if Go.IntKind.wrap Go.IntKind.i64 (0 - y) > y then Go.IntKind.wrap Go.IntKind.i64 (0 - y) else y) ≤ d))
 (k [(D.val (Go.Value.int Go.IntKind.i64 (0 : Int)))])
 (bcase (c != 0)
 (k [(D.val (Go.Value.int Go.IntKind.i64 (Go.IntKind.wrap Go.IntKind.i64 (Int.tdiv (Go.IntKind.wrap Go.IntKind.i64 (b * y)) c))))])
 False)) := by kernel_rfl
def gCM (C : Ct) (L : AtLoop) (a b c d : Int) (k : List D → Prop) : Prop := wpFn Try.prog (hG C) L 0 14 #[vA a b c d] (heapOf []) (dataK k)
theorem gCM_text (C : Ct) (L : AtLoop) (a : Int) (b : Int) (c : Int) (d : Int) (k : List D → Prop) : gCM C L a b c d k =
 (((((Go.Value.slice (Option.some (Go.Addr.mk 1004 0 Option.none)) 1 1) = (Go.Value.slice (Option.some (Go.Addr.mk 1004 0 Option.none)) 1 1)) ∧
 ((Option.some (AObj.cells [(Go.Value.int Go.IntKind.i64 (d))] 3 false 1)) = (Option.some (AObj.cells [(Go.Value.int Go.IntKind.i64 (d))] 3 false 1)))) ∧
 (((Go.Value.int Go.IntKind.i64 (d)) = (Go.Value.int Go.IntKind.i64 (d))) ∧
 (((Go.Value.pointer (Option.some (Go.Addr.mk 1000 3 Option.none))) = (Go.Value.pointer (Option.some (Go.Addr.mk 1000 3 Option.none)))) ∧
 ((((Go.Value.slice (Option.some (Go.Addr.mk 1003 0 Option.none)) 1 1) = (Go.Value.slice (Option.some (Go.Addr.mk 1003 0 Option.none)) 1 1)) ∧
 ((Option.some (AObj.cells [(Go.Value.int Go.IntKind.i64 (c))] 3 false 1)) = (Option.some (AObj.cells [(Go.Value.int Go.IntKind.i64 (c))] 3 false 1)))) ∧
 (((Go.Value.int Go.IntKind.i64 (c)) = (Go.Value.int Go.IntKind.i64 (c))) ∧
 (((Go.Value.pointer (Option.some (Go.Addr.mk 1000 2 Option.none))) = (Go.Value.pointer (Option.some (Go.Addr.mk 1000 2 Option.none)))) ∧
 ((((Go.Value.slice (Option.some (Go.Addr.mk 1002 0 Option.none)) 1 1) = (Go.Value.slice (Option.some (Go.Addr.mk 1002 0 Option.none)) 1 1)) ∧
 ((Option.some (AObj.cells [(Go.Value.int Go.IntKind.i64 (b))] 3 false 1)) = (Option.some (AObj.cells [(Go.Value.int Go.IntKind.i64 (b))] 3 false 1)))) ∧
 (((Go.Value.int Go.IntKind.i64 (b)) = (Go.Value.int Go.IntKind.i64 (b))) ∧
 (((Go.Value.pointer (Option.some (Go.Addr.mk 1000 1 Option.none))) = (Go.Value.pointer (Option.some (Go.Addr.mk 1000 1 Option.none)))) ∧
 ((((Go.Value.slice (Option.some (Go.Addr.mk 1001 0 Option.none)) 1 1) = (Go.Value.slice (Option.some (Go.Addr.mk 1001 0 Option.none)) 1 1)) ∧
 ((Option.some (AObj.cells [(Go.Value.int Go.IntKind.i64 (a))] 3 false 1)) = (Option.some (AObj.cells [(Go.Value.int Go.IntKind.i64 (a))] 3 false 1)))) ∧
 (((Go.Value.int Go.IntKind.i64 (a)) = (Go.Value.int Go.IntKind.i64 (a))) ∧
 (((Go.Value.pointer (Option.some (Go.Addr.mk 1000 0 Option.none))) = (Go.Value.pointer (Option.some (Go.Addr.mk 1000 0 Option.none)))) ∧
 True)))))))))))) ∧
 (((((Go.Value.slice (Option.some (Go.Addr.mk 1004 0 Option.none)) 1 1) = (Go.Value.slice (Option.some (Go.Addr.mk 1004 0 Option.none)) 1 1)) ∧
 ((Option.some (AObj.cells [(Go.Value.int Go.IntKind.i64 (d))] 3 false 1)) = (Option.some (AObj.cells [(Go.Value.int Go.IntKind.i64 (d))] 3 false 1)))) ∧
 (((Go.Value.int Go.IntKind.i64 (d)) = (Go.Value.int Go.IntKind.i64 (d))) ∧
 (((Go.Value.pointer (Option.some (Go.Addr.mk 1000 3 Option.none))) = (Go.Value.pointer (Option.some (Go.Addr.mk 1000 3 Option.none)))) ∧
 ((((Go.Value.slice (Option.some (Go.Addr.mk 1003 0 Option.none)) 1 1) = (Go.Value.slice (Option.some (Go.Addr.mk 1003 0 Option.none)) 1 1)) ∧
 ((Option.some (AObj.cells [(Go.Value.int Go.IntKind.i64 (c))] 3 false 1)) = (Option.some (AObj.cells [(Go.Value.int Go.IntKind.i64 (c))] 3 false 1)))) ∧
 (((Go.Value.int Go.IntKind.i64 (c)) = (Go.Value.int Go.IntKind.i64 (c))) ∧
 (((Go.Value.pointer (Option.some (Go.Addr.mk 1000 2 Option.none))) = (Go.Value.pointer (Option.some (Go.Addr.mk 1000 2 Option.none)))) ∧
 ((((Go.Value.slice (Option.some (Go.Addr.mk 1002 0 Option.none)) 1 1) = (Go.Value.slice (Option.some (Go.Addr.mk 1002 0 Option.none)) 1 1)) ∧
 ((Option.some (AObj.cells [(Go.Value.int Go.IntKind.i64 (b))] 3 false 1)) = (Option.some (AObj.cells [(Go.Value.int Go.IntKind.i64 (b))] 3 false 1)))) ∧
 (((Go.Value.int Go.IntKind.i64 (b)) = (Go.Value.int Go.IntKind.i64 (b))) ∧
 (((Go.Value.pointer (Option.some (Go.Addr.mk 1000 1 Option.none))) = (Go.Value.pointer (Option.some (Go.Addr.mk 1000 1 Option.none)))) ∧
 ((((Go.Value.slice (Option.some (Go.Addr.mk 1001 0 Option.none)) 1 1) = (Go.Value.slice (Option.some (Go.Addr.mk 1001 0 Option.none)) 1 1)) ∧
 ((Option.some (AObj.cells [(Go.Value.int Go.IntKind.i64 (a))] 3 false 1)) = (Option.some (AObj.cells [(Go.Value.int Go.IntKind.i64 (a))] 3 false 1)))) ∧
 (((Go.Value.int Go.IntKind.i64 (a)) = (Go.Value.int Go.IntKind.i64 (a))) ∧
 (((Go.Value.pointer (Option.some (Go.Addr.mk 1000 0 Option.none))) = (Go.Value.pointer (Option.some (Go.Addr.mk 1000 0 Option.none)))) ∧
 True)))))))))))) ∧
 (∃ r1 : Int,
 ((Says witC 0 [(D.val (Go.Value.int Go.IntKind.i64 (0 : Int))), (D.val (Go.Value.int Go.IntKind.i64 (10 : Int))), (D.val (Go.Value.int Go.IntKind.i64 (2 : Int))), (D.sl 1 1 [(Go.Value.int Go.IntKind.i64 (a))])] [(D.val (Go.Value.int Go.IntKind.i64 (r1)))]) ∧
 (((((Go.Value.slice (Option.some (Go.Addr.mk 1004 0 Option.none)) 1 1) = (Go.Value.slice (Option.some (Go.Addr.mk 1004 0 Option.none)) 1 1)) ∧
 ((Option.some (AObj.cells [(Go.Value.int Go.IntKind.i64 (d))] 3 false 1)) = (Option.some (AObj.cells [(Go.Value.int Go.IntKind.i64 (d))] 3 false 1)))) ∧
 (((Go.Value.int Go.IntKind.i64 (d)) = (Go.Value.int Go.IntKind.i64 (d))) ∧
 (((Go.Value.pointer (Option.some (Go.Addr.mk 1000 3 Option.none))) = (Go.Value.pointer (Option.some (Go.Addr.mk 1000 3 Option.none)))) ∧
 ((((Go.Value.slice (Option.some (Go.Addr.mk 1003 0 Option.none)) 1 1) = (Go.Value.slice (Option.some (Go.Addr.mk 1003 0 Option.none)) 1 1)) ∧
 ((Option.some (AObj.cells [(Go.Value.int Go.IntKind.i64 (c))] 3 false 1)) = (Option.some (AObj.cells [(Go.Value.int Go.IntKind.i64 (c))] 3 false 1)))) ∧
 (((Go.Value.int Go.IntKind.i64 (c)) = (Go.Value.int Go.IntKind.i64 (c))) ∧
 (((Go.Value.pointer (Option.some (Go.Addr.mk 1000 2 Option.none))) = (Go.Value.pointer (Option.some (Go.Addr.mk 1000 2 Option.none)))) ∧
 ((((Go.Value.slice (Option.some (Go.Addr.mk 1002 0 Option.none)) 1 1) = (Go.Value.slice (Option.some (Go.Addr.mk 1002 0 Option.none)) 1 1)) ∧
 ((Option.some (AObj.cells [(Go.Value.int Go.IntKind.i64 (b))] 3 false 1)) = (Option.some (AObj.cells [(Go.Value.int Go.IntKind.i64 (b))] 3 false 1)))) ∧
 (((Go.Value.int Go.IntKind.i64 (b)) = (Go.Value.int Go.IntKind.i64 (b))) ∧
 (((Go.Value.pointer (Option.some (Go.Addr.mk 1000 1 Option.none))) = (Go.Value.pointer (Option.some (Go.Addr.mk 1000 1 Option.none)))) ∧
 (((Go.Value.int Go.IntKind.i64 (a)) = (Go.Value.int Go.IntKind.i64 (a))) ∧
 (((Go.Value.pointer (Option.some (Go.Addr.mk 1000 0 Option.none))) = (Go.Value.pointer (Option.some (Go.Addr.mk 1000 0 Option.none)))) ∧
 True))))))))))) ∧
 (((((Go.Value.slice (Option.some (Go.Addr.mk 1004 0 Option.none)) 1 1) = (Go.Value.slice (Option.some (Go.Addr.mk 1004 0 Option.none)) 1 1)) ∧
 ((Option.some (AObj.cells [(Go.Value.int Go.IntKind.i64 (d))] 3 false 1)) = (Option.some (AObj.cells [(Go.Value.int Go.IntKind.i64 (d))] 3 false 1)))) ∧
 (((Go.Value.int Go.IntKind.i64 (d)) = (Go.Value.int Go.IntKind.i64 (d))) ∧
 (((Go.Value.pointer (Option.some (Go.Addr.mk 1000 3 Option.none))) = (Go.Value.pointer (Option.some (Go.Addr.mk 1000 3 Option.none)))) ∧
 ((((Go.Value.slice (Option.some (Go.Addr.mk 1003 0 Option.none)) 1 1) = (Go.Value.slice (Option.some (Go.Addr.mk 1003 0 Option.none)) 1 1)) ∧
 ((Option.some (AObj.cells [(Go.Value.int Go.IntKind.i64 (c))] 3 false 1)) = (Option.some (AObj.cells [(Go.Value.int Go.IntKind.i64 (c))] 3 false 1)))) ∧
 (((Go.Value.int Go.IntKind.i64 (c)) = (Go.Value.int Go.IntKind.i64 (c))) ∧
 (((Go.Value.pointer (Option.some (Go.Addr.mk 1000 2 Option.none))) = (Go.Value.pointer (Option.some (Go.Addr.mk 1000 2 Option.none)))) ∧
 ((((Go.Value.slice (Option.some (Go.Addr.mk 1002 0 Option.none)) 1 1) = (Go.Value.slice (Option.some (Go.Addr.mk 1002 0 Option.none)) 1 1)) ∧
 ((Option.some (AObj.cells [(Go.Value.int Go.IntKind.i64 (b))] 3 false 1)) = (Option.some (AObj.cells [(Go.Value.int Go.IntKind.i64 (b))] 3 false 1)))) ∧
 (((Go.Value.int Go.IntKind.i64 (b)) = (Go.Value.int Go.IntKind.i64 (b))) ∧
 (((Go.Value.pointer (Option.some (Go.Addr.mk 1000 1 Option.none))) = (Go.Value.pointer (Option.some (Go.Addr.mk 1000 1 Option.none)))) ∧
 (((Go.Value.int Go.IntKind.i64 (a)) = (Go.Value.int Go.IntKind.i64 (a))) ∧
 (((Go.Value.pointer (Option.some (Go.Addr.mk 1000 0 Option.none))) = (Go.Value.pointer (Option.some (Go.Addr.mk 1000 0 Option.none)))) ∧
 True))))))))))) ∧
 (∃ r2 : Int,
 ((Says witC 0 [(D.val (Go.Value.int Go.IntKind.i64 (0 : Int))), (D.val (Go.Value.int Go.IntKind.i64 (100 : Int))), (D.val (Go.Value.int Go.IntKind.i64 (2 : Int))), (D.sl 1 1 [(Go.Value.int Go.IntKind.i64 (b))])] [(D.val (Go.Value.int Go.IntKind.i64 (r2)))]) ∧
 (((((Go.Value.slice (Option.some (Go.Addr.mk 1004 0 Option.none)) 1 1) = (Go.Value.slice (Option.some (Go.Addr.mk 1004 0 Option.none)) 1 1)) ∧
 ((Option.some (AObj.cells [(Go.Value.int Go.IntKind.i64 (d))] 3 false 1)) = (Option.some (AObj.cells [(Go.Value.int Go.IntKind.i64 (d))] 3 false 1)))) ∧
 (((Go.Value.int Go.IntKind.i64 (d)) = (Go.Value.int Go.IntKind.i64 (d))) ∧
 (((Go.Value.pointer (Option.some (Go.Addr.mk 1000 3 Option.none))) = (Go.Value.pointer (Option.some (Go.Addr.mk 1000 3 Option.none)))) ∧
 ((((Go.Value.slice (Option.some (Go.Addr.mk 1003 0 Option.none)) 1 1) = (Go.Value.slice (Option.some (Go.Addr.mk 1003 0 Option.none)) 1 1)) ∧
 ((Option.some (AObj.cells [(Go.Value.int Go.IntKind.i64 (c))] 3 false 1)) = (Option.some (AObj.cells [(Go.Value.int Go.IntKind.i64 (c))] 3 false 1)))) ∧
 (((Go.Value.int Go.IntKind.i64 (c)) = (Go.Value.int Go.IntKind.i64 (c))) ∧
 (((Go.Value.pointer (Option.some (Go.Addr.mk 1000 2 Option.none))) = (Go.Value.pointer (Option.some (Go.Addr.mk 1000 2 Option.none)))) ∧
 (((Go.Value.int Go.IntKind.i64 (b)) = (Go.Value.int Go.IntKind.i64 (b))) ∧
 (((Go.Value.pointer (Option.some (Go.Addr.mk 1000 1 Option.none))) = (Go.Value.pointer (Option.some (Go.Addr.mk 1000 1 Option.none)))) ∧
 (((Go.Value.int Go.IntKind.i64 (a)) = (Go.Value.int Go.IntKind.i64 (a))) ∧
 (((Go.Value.pointer (Option.some (Go.Addr.mk 1000 0 Option.none))) = (Go.Value.pointer (Option.some (Go.Addr.mk 1000 0 Option.none)))) ∧
 True)))))))))) ∧
 (((((Go.Value.slice (Option.some (Go.Addr.mk 1004 0 Option.none)) 1 1) = (Go.Value.slice (Option.some (Go.Addr.mk 1004 0 Option.none)) 1 1)) ∧
 ((Option.some (AObj.cells [(Go.Value.int Go.IntKind.i64 (d))] 3 false 1)) = (Option.some (AObj.cells [(Go.Value.int Go.IntKind.i64 (d))] 3 false 1)))) ∧
 (((Go.Value.int Go.IntKind.i64 (d)) = (Go.Value.int Go.IntKind.i64 (d))) ∧
 (((Go.Value.pointer (Option.some (Go.Addr.mk 1000 3 Option.none))) = (Go.Value.pointer (Option.some (Go.Addr.mk 1000 3 Option.none)))) ∧
 ((((Go.Value.slice (Option.some (Go.Addr.mk 1003 0 Option.none)) 1 1) = (Go.Value.slice (Option.some (Go.Addr.mk 1003 0 Option.none)) 1 1)) ∧
 ((Option.some (AObj.cells [(Go.Value.int Go.IntKind.i64 (c))] 3 false 1)) = (Option.some (AObj.cells [(Go.Value.int Go.IntKind.i64 (c))] 3 false 1)))) ∧
 (((Go.Value.int Go.IntKind.i64 (c)) = (Go.Value.int Go.IntKind.i64 (c))) ∧
 (((Go.Value.pointer (Option.some (Go.Addr.mk 1000 2 Option.none))) = (Go.Value.pointer (Option.some (Go.Addr.mk 1000 2 Option.none)))) ∧
 (((Go.Value.int Go.IntKind.i64 (b)) = (Go.Value.int Go.IntKind.i64 (b))) ∧
 (((Go.Value.pointer (Option.some (Go.Addr.mk 1000 1 Option.none))) = (Go.Value.pointer (Option.some (Go.Addr.mk 1000 1 Option.none)))) ∧
 (((Go.Value.int Go.IntKind.i64 (a)) = (Go.Value.int Go.IntKind.i64 (a))) ∧
 (((Go.Value.pointer (Option.some (Go.Addr.mk 1000 0 Option.none))) = (Go.Value.pointer (Option.some (Go.Addr.mk 1000 0 Option.none)))) ∧
 True)))))))))) ∧
 (∃ r3 : Int,
 ((Says witC 0 [(D.val (Go.Value.int Go.IntKind.i64 (1 : Int))), (D.val (Go.Value.int Go.IntKind.i64 (100 : Int))), (D.val (Go.Value.int Go.IntKind.i64 (2 : Int))), (D.sl 1 1 [(Go.Value.int Go.IntKind.i64 (c))])] [(D.val (Go.Value.int Go.IntKind.i64 (r3)))]) ∧
 (((((Go.Value.slice (Option.some (Go.Addr.mk 1004 0 Option.none)) 1 1) = (Go.Value.slice (Option.some (Go.Addr.mk 1004 0 Option.none)) 1 1)) ∧
 ((Option.some (AObj.cells [(Go.Value.int Go.IntKind.i64 (d))] 3 false 1)) = (Option.some (AObj.cells [(Go.Value.int Go.IntKind.i64 (d))] 3 false 1)))) ∧
 (((Go.Value.int Go.IntKind.i64 (d)) = (Go.Value.int Go.IntKind.i64 (d))) ∧
 (((Go.Value.pointer (Option.some (Go.Addr.mk 1000 3 Option.none))) = (Go.Value.pointer (Option.some (Go.Addr.mk 1000 3 Option.none)))) ∧
 (((Go.Value.int Go.IntKind.i64 (c)) = (Go.Value.int Go.IntKind.i64 (c))) ∧
 (((Go.Value.pointer (Option.some (Go.Addr.mk 1000 2 Option.none))) = (Go.Value.pointer (Option.some (Go.Addr.mk 1000 2 Option.none)))) ∧
 (((Go.Value.int Go.IntKind.i64 (b)) = (Go.Value.int Go.IntKind.i64 (b))) ∧
 (((Go.Value.pointer (Option.some (Go.Addr.mk 1000 1 Option.none))) = (Go.Value.pointer (Option.some (Go.Addr.mk 1000 1 Option.none)))) ∧
 (((Go.Value.int Go.IntKind.i64 (a)) = (Go.Value.int Go.IntKind.i64 (a))) ∧
 (((Go.Value.pointer (Option.some (Go.Addr.mk 1000 0 Option.none))) = (Go.Value.pointer (Option.some (Go.Addr.mk 1000 0 Option.none)))) ∧
 True))))))))) ∧
 (((((Go.Value.slice (Option.some (Go.Addr.mk 1004 0 Option.none)) 1 1) = (Go.Value.slice (Option.some (Go.Addr.mk 1004 0 Option.none)) 1 1)) ∧
 ((Option.some (AObj.cells [(Go.Value.int Go.IntKind.i64 (d))] 3 false 1)) = (Option.some (AObj.cells [(Go.Value.int Go.IntKind.i64 (d))] 3 false 1)))) ∧
 (((Go.Value.int Go.IntKind.i64 (d)) = (Go.Value.int Go.IntKind.i64 (d))) ∧
 (((Go.Value.pointer (Option.some (Go.Addr.mk 1000 3 Option.none))) = (Go.Value.pointer (Option.some (Go.Addr.mk 1000 3 Option.none)))) ∧
 (((Go.Value.int Go.IntKind.i64 (c)) = (Go.Value.int Go.IntKind.i64 (c))) ∧
 (((Go.Value.pointer (Option.some (Go.Addr.mk 1000 2 Option.none))) = (Go.Value.pointer (Option.some (Go.Addr.mk 1000 2 Option.none)))) ∧
 (((Go.Value.int Go.IntKind.i64 (b)) = (Go.Value.int Go.IntKind.i64 (b))) ∧
 (((Go.Value.pointer (Option.some (Go.Addr.mk 1000 1 Option.none))) = (Go.Value.pointer (Option.some (Go.Addr.mk 1000 1 Option.none)))) ∧
 (((Go.Value.int Go.IntKind.i64 (a)) = (Go.Value.int Go.IntKind.i64 (a))) ∧
 (((Go.Value.pointer (Option.some (Go.Addr.mk 1000 0 Option.none))) = (Go.Value.pointer (Option.some (Go.Addr.mk 1000 0 Option.none)))) ∧
 True))))))))) ∧
 (∃ r4 : Int,
 ((Says witC 0 [(D.val (Go.Value.int Go.IntKind.i64 (0 : Int))), (D.val (Go.Value.int Go.IntKind.i64 (10000 : Int))), (D.val (Go.Value.int Go.IntKind.i64 (2 : Int))), (D.sl 1 1 [(Go.Value.int Go.IntKind.i64 (d))])] [(D.val (Go.Value.int Go.IntKind.i64 (r4)))]) ∧
 (((((Go.Value.slice (Option.some (Go.Addr.mk 1013 0 Option.none)) 4 4) = (Go.Value.slice (Option.some (Go.Addr.mk 1013 0 Option.none)) 4 4)) ∧
 ((Option.some (AObj.cells [(Go.Value.int Go.IntKind.i64 (r1)), (Go.Value.int Go.IntKind.i64 (r2)), (Go.Value.int Go.IntKind.i64 (r3)), (Go.Value.int Go.IntKind.i64 (r4))] 24 false 1)) = (Option.some (AObj.cells [(Go.Value.int Go.IntKind.i64 (r1)), (Go.Value.int Go.IntKind.i64 (r2)), (Go.Value.int Go.IntKind.i64 (r3)), (Go.Value.int Go.IntKind.i64 (r4))] 24 false 1)))) ∧
 (((Go.Value.int Go.IntKind.i64 (d)) = (Go.Value.int Go.IntKind.i64 (d))) ∧
 (((Go.Value.pointer (Option.some (Go.Addr.mk 1000 3 Option.none))) = (Go.Value.pointer (Option.some (Go.Addr.mk 1000 3 Option.none)))) ∧
 (((Go.Value.int Go.IntKind.i64 (c)) = (Go.Value.int Go.IntKind.i64 (c))) ∧
 (((Go.Value.pointer (Option.some (Go.Addr.mk 1000 2 Option.none))) = (Go.Value.pointer (Option.some (Go.Addr.mk 1000 2 Option.none)))) ∧
 (((Go.Value.int Go.IntKind.i64 (b)) = (Go.Value.int Go.IntKind.i64 (b))) ∧
 (((Go.Value.pointer (Option.some (Go.Addr.mk 1000 1 Option.none))) = (Go.Value.pointer (Option.some (Go.Addr.mk 1000 1 Option.none)))) ∧
 (((Go.Value.int Go.IntKind.i64 (a)) = (Go.Value.int Go.IntKind.i64 (a))) ∧
 (((Go.Value.pointer (Option.some (Go.Addr.mk 1000 0 Option.none))) = (Go.Value.pointer (Option.some (Go.Addr.mk 1000 0 Option.none)))) ∧
 True))))))))) ∧
 (∃ n1 : Int,
 ((Says C 26 [(D.sl 4 1 [(Go.Value.int Go.IntKind.i64 (r1)), (Go.Value.int Go.IntKind.i64 (r2)), (Go.Value.int Go.IntKind.i64 (r3)), (Go.Value.int Go.IntKind.i64 (r4))])] [(D.val (Go.Value.int Go.IntKind.i64 (n1)))]) ∧
 ((((Go.Value.int Go.IntKind.i64 (d)) = (Go.Value.int Go.IntKind.i64 (d))) ∧
 (((Go.Value.pointer (Option.some (Go.Addr.mk 1000 3 Option.none))) = (Go.Value.pointer (Option.some (Go.Addr.mk 1000 3 Option.none)))) ∧
 (((Go.Value.int Go.IntKind.i64 (c)) = (Go.Value.int Go.IntKind.i64 (c))) ∧
 (((Go.Value.pointer (Option.some (Go.Addr.mk 1000 2 Option.none))) = (Go.Value.pointer (Option.some (Go.Addr.mk 1000 2 Option.none)))) ∧
 (((Go.Value.int Go.IntKind.i64 (b)) = (Go.Value.int Go.IntKind.i64 (b))) ∧
 (((Go.Value.pointer (Option.some (Go.Addr.mk 1000 1 Option.none))) = (Go.Value.pointer (Option.some (Go.Addr.mk 1000 1 Option.none)))) ∧
 (((Go.Value.int Go.IntKind.i64 (a)) = (Go.Value.int Go.IntKind.i64 (a))) ∧
 (((Go.Value.pointer (Option.some (Go.Addr.mk 1000 0 Option.none))) = (Go.Value.pointer (Option.some (Go.Addr.mk 1000 0 Option.none)))) ∧
 True)))))))) ∧
 (True ∧
 (k [(D.val (Go.Value.int Go.IntKind.i64 (n1)))])))))))))))))))))))))) := by kernel_rfl
def gME (C : Ct) (L : AtLoop) (a b c d : Int) (k : List D → Prop) : Prop := wpFn Try.prog (hG C) L 0 13 #[vA a b c d] (heapOf []) (dataK k)
theorem gME_text (C : Ct) (L : AtLoop) (a : Int) (b : Int) (c : Int) (d : Int) (k : List D → Prop) : gME C L a b c d k =
 (((Says C 17 [(D.val (Go.Value.int Go.IntKind.i64 (a))), (D.val (Go.Value.int Go.IntKind.i64 (0 : Int))), (D.val (Go.Value.int Go.IntKind.i64 (10 : Int)))] [(D.val (Go.Value.bool true))]) ∧
 (((Says C 17 [(D.val (Go.Value.int Go.IntKind.i64 (b))), (D.val (Go.Value.int Go.IntKind.i64 (0 : Int))), (D.val (Go.Value.int Go.IntKind.i64 (100 : Int)))] [(D.val (Go.Value.bool true))]) ∧
 (((Says C 17 [(D.val (Go.Value.int Go.IntKind.i64 (c))), (D.val (Go.Value.int Go.IntKind.i64 (1 : Int))), (D.val (Go.Value.int Go.IntKind.i64 (100 : Int)))] [(D.val (Go.Value.bool true))]) ∧
 (((Says C 17 [(D.val (Go.Value.int Go.IntKind.i64 (d))), (D.val (Go.Value.int Go.IntKind.i64 (0 : Int))), (D.val (Go.Value.int Go.IntKind.i64 (10000 : Int)))] [(D.val (Go.Value.bool true))]) ∧
 (k [(D.val (Go.Value.int Go.IntKind.i64 (0 : Int)))])) ∨
 ((Says C 17 [(D.val (Go.Value.int Go.IntKind.i64 (d))), (D.val (Go.Value.int Go.IntKind.i64 (0 : Int))), (D.val (Go.Value.int Go.IntKind.i64 (10000 : Int)))] [(D.val (Go.Value.bool false))]) ∧
 (k [(D.val (Go.Value.int Go.IntKind.i64 (2 : Int)))])))) ∨
 ((Says C 17 [(D.val (Go.Value.int Go.IntKind.i64 (c))), (D.val (Go.Value.int Go.IntKind.i64 (1 : Int))), (D.val (Go.Value.int Go.IntKind.i64 (100 : Int)))] [(D.val (Go.Value.bool false))]) ∧
 (k [(D.val (Go.Value.int Go.IntKind.i64 (2 : Int)))])))) ∨
 ((Says C 17 [(D.val (Go.Value.int Go.IntKind.i64 (b))), (D.val (Go.Value.int Go.IntKind.i64 (0 : Int))), (D.val (Go.Value.int Go.IntKind.i64 (100 : Int)))] [(D.val (Go.Value.bool false))]) ∧
 (k [(D.val (Go.Value.int Go.IntKind.i64 (2 : Int)))])))) ∨
 ((Says C 17 [(D.val (Go.Value.int Go.IntKind.i64 (a))), (D.val (Go.Value.int Go.IntKind.i64 (0 : Int))), (D.val (Go.Value.int Go.IntKind.i64 (10 : Int)))] [(D.val (Go.Value.bool false))]) ∧
 (k [(D.val (Go.Value.int Go.IntKind.i64 (2 : Int)))]))) := by kernel_rfl
def gOu (C : Ct) (L : AtLoop) (a b c d : Int) (n cap : Nat) (l : List Value) (k : List D → Prop) : Prop := wpFn Try.prog (hG C) L 0 34 #[vA a b c d, S500 n cap] (heapOf [Q500 l]) (dataK k)
theorem gOu_text (C : Ct) (L : AtLoop) (a : Int) (b : Int) (c : Int) (d : Int) (n : Nat) (cap : Nat) (l : List Go.Value) (k : List D → Prop) : gOu C L a b c d n cap l k =
 (L 0 [(Prod.mk 2 (Go.Value.pointer (Option.some (Go.Addr.mk 1000 0 Option.none)))), (Prod.mk 6 (Go.Value.pointer (Option.some (Go.Addr.mk 1001 0 Option.none)))), (Prod.mk 7 (Go.Value.slice Option.none 0 0)), (Prod.mk 8 (Go.Value.int Go.IntKind.i64 (0 : Int))), (Prod.mk 13 (Go.Value.slice (Option.some (Go.Addr.mk 500 0 Option.none)) (n) (cap))), (Prod.mk 14 (Go.Value.int Go.IntKind.i64 ((↑n : Int)))), (Prod.mk 15 (Go.Value.int Go.IntKind.i64 (0 : Int)))] [(Prod.mk 1000 (AObj.cells [(Go.Value.int Go.IntKind.i64 (a)), (Go.Value.int Go.IntKind.i64 (b)), (Go.Value.int Go.IntKind.i64 (c)), (Go.Value.int Go.IntKind.i64 (d))] 71 false 1)), (Prod.mk 1001 (AObj.cells [(Go.Value.int Go.IntKind.i64 (-(99999 + 1) : Int)), (Go.Value.int Go.IntKind.i64 (100000 : Int))] 64 false 2)), (Prod.mk 500 (AObj.sym (l) false 1))]) := by kernel_rfl
def gRO (C : Ct) (L : AtLoop) (a b c d : Int) (n cap : Nat) (l : List Value) (k : List D → Prop) : Prop := wpFn Try.prog (hG C) L 0 37 #[vA a b c d, S500 n cap] (heapOf [Q500 l]) (dataK k)
theorem gRO_text (C : Ct) (L : AtLoop) (a : Int) (b : Int) (c : Int) (d : Int) (n : Nat) (cap : Nat) (l : List Go.Value) (k : List D → Prop) : gRO C L a b c d n cap l k =
 (L 0 [(Prod.mk 1 (Go.Value.slice (Option.some (Go.Addr.mk 500 0 Option.none)) (n) (cap))), (Prod.mk 2 (Go.Value.pointer (Option.some (Go.Addr.mk 1000 0 Option.none)))), (Prod.mk 6 (Go.Value.slice Option.none 0 0)), (Prod.mk 7 (Go.Value.int Go.IntKind.i64 (0 : Int))), (Prod.mk 8 (Go.Value.int Go.IntKind.i64 (0 : Int)))] [(Prod.mk 500 (AObj.sym (l) false 1)), (Prod.mk 1000 (AObj.cells [(Go.Value.int Go.IntKind.i64 (a)), (Go.Value.int Go.IntKind.i64 (b)), (Go.Value.int Go.IntKind.i64 (c)), (Go.Value.int Go.IntKind.i64 (d))] 32 false 1))]) := by kernel_rfl
def gMo (C : Ct) (L : AtLoop) (a b c d : Int) (n cap : Nat) (l : List Value) (k : List D → Prop) : Prop := wpFn Try.prog (hG C) L 0 11 #[vA a b c d, S500 n cap] (heapOf [Q500 l]) (dataK k)
theorem gMo_text (C : Ct) (L : AtLoop) (a : Int) (b : Int) (c : Int) (d : Int) (n : Nat) (cap : Nat) (l : List Go.Value) (k : List D → Prop) : gMo C L a b c d n cap l k =
 (∃ n1 : Int,
 ((Says C 14 [(D.agg [(D.val (Go.Value.int Go.IntKind.i64 (a))), (D.val (Go.Value.int Go.IntKind.i64 (b))), (D.val (Go.Value.int Go.IntKind.i64 (c))), (D.val (Go.Value.int Go.IntKind.i64 (d)))])] [(D.val (Go.Value.int Go.IntKind.i64 (n1)))]) ∧
 (bcase (n1 != 0)
 (bcase (n1 != 0)
 (k [D.nil, (D.val (Go.Value.int Go.IntKind.i64 (n1)))])
 (bcase (decide ((↑n : Int) > 500))
 (k [D.nil, (D.val (Go.Value.int Go.IntKind.i64 (8 : Int)))])
 (∃ l1 : List Int,
 (((l) = (List.map (Go.Value.int Go.IntKind.i64) l1)) ∧
 (((n) = (List.length l1)) ∧
 (((List.length l1) < 1000000000) ∧
 (∃ r1 : Int,
 ((Says witC 0 [(D.val (Go.Value.int Go.IntKind.i64 (-(9999 + 1) : Int))), (D.val (Go.Value.int Go.IntKind.i64 (10000 : Int))), (D.val (Go.Value.int Go.IntKind.i64 (2 : Int))), (D.sl (n) 1 (l))] [(D.val (Go.Value.int Go.IntKind.i64 (r1)))]) ∧
 (bcase (r1 != 0)
 (k [D.nil, (D.val (Go.Value.int Go.IntKind.i64 (r1)))])
 (bcase (decide (0 + n * 1 ≤ List.length l))
 ((∃ n2 : Int,
 ((Says C 34 [(D.agg [(D.val (Go.Value.int Go.IntKind.i64 (0 : Int))), (D.val (Go.Value.int Go.IntKind.i64 (0 : Int))), (D.val (Go.Value.int Go.IntKind.i64 (0 : Int))), (D.val (Go.Value.int Go.IntKind.i64 (0 : Int)))]), (D.sl (n) 1 (List.take (n * 1) (List.drop 0 l)))] [D.nil, (D.val (Go.Value.int Go.IntKind.i64 (n2)))]) ∧
 (k [D.nil, (D.val (Go.Value.int Go.IntKind.i64 (n2)))]))) ∨
 (∃ n2 : Nat,
 (∃ cs1 : List Go.Value,
 (∃ n3 : Int,
 ((Says C 34 [(D.agg [(D.val (Go.Value.int Go.IntKind.i64 (0 : Int))), (D.val (Go.Value.int Go.IntKind.i64 (0 : Int))), (D.val (Go.Value.int Go.IntKind.i64 (0 : Int))), (D.val (Go.Value.int Go.IntKind.i64 (0 : Int)))]), (D.sl (n) 1 (List.take (n * 1) (List.drop 0 l)))] [(D.sl (n2) 1 (cs1)), (D.val (Go.Value.int Go.IntKind.i64 (n3)))]) ∧
 ((((n2) = (n2)) ∧
 ((List.length cs1) = (n2 * 1))) ∧
 (k [(D.sl (n2) 1 (cs1)), (D.val (Go.Value.int Go.IntKind.i64 (n3)))])))))))
 False))))))))))
 (bcase (decide ((↑n : Int) > 500))
 (k [D.nil, (D.val (Go.Value.int Go.IntKind.i64 (8 : Int)))])
 (∃ l1 : List Int,
 (((l) = (List.map (Go.Value.int Go.IntKind.i64) l1)) ∧
 (((n) = (List.length l1)) ∧
 (((List.length l1) < 1000000000) ∧
 (∃ r1 : Int,
 ((Says witC 0 [(D.val (Go.Value.int Go.IntKind.i64 (-(9999 + 1) : Int))), (D.val (Go.Value.int Go.IntKind.i64 (10000 : Int))), (D.val (Go.Value.int Go.IntKind.i64 (2 : Int))), (D.sl (n) 1 (l))] [(D.val (Go.Value.int Go.IntKind.i64 (r1)))]) ∧
 (bcase (r1 != 0)
 (k [D.nil, (D.val (Go.Value.int Go.IntKind.i64 (r1)))])
 (bcase (decide (0 + n * 1 ≤ List.length l))
 ((∃ n2 : Int,
 ((Says C 34 [(D.agg [(D.val (Go.Value.int Go.IntKind.i64 (a))), (D.val (Go.Value.int Go.IntKind.i64 (b))), (D.val (Go.Value.int Go.IntKind.i64 (c))), (D.val (Go.Value.int Go.IntKind.i64 (d)))]), (D.sl (n) 1 (List.take (n * 1) (List.drop 0 l)))] [D.nil, (D.val (Go.Value.int Go.IntKind.i64 (n2)))]) ∧
 (k [D.nil, (D.val (Go.Value.int Go.IntKind.i64 (n2)))]))) ∨
 (∃ n2 : Nat,
 (∃ cs1 : List Go.Value,
 (∃ n3 : Int,
 ((Says C 34 [(D.agg [(D.val (Go.Value.int Go.IntKind.i64 (a))), (D.val (Go.Value.int Go.IntKind.i64 (b))), (D.val (Go.Value.int Go.IntKind.i64 (c))), (D.val (Go.Value.int Go.IntKind.i64 (d)))]), (D.sl (n) 1 (List.take (n * 1) (List.drop 0 l)))] [(D.sl (n2) 1 (cs1)), (D.val (Go.Value.int Go.IntKind.i64 (n3)))]) ∧
 ((((n2) = (n2)) ∧
 ((List.length cs1) = (n2 * 1))) ∧
 (k [(D.sl (n2) 1 (cs1)), (D.val (Go.Value.int Go.IntKind.i64 (n3)))])))))))
 False)))))))))))) := by kernel_rfl
def gRM (C : Ct) (L : AtLoop) (a b c d : Int) (n cap : Nat) (l : List Value) (k : List D → Prop) : Prop := wpFn Try.prog (hG C) L 0 15 #[vA a b c d, S500 n cap] (heapOf [Q500 l]) (dataK k)
theorem gRM_text (C : Ct) (L : AtLoop) (a : Int) (b : Int) (c : Int) (d : Int) (n : Nat) (cap : Nat) (l : List Go.Value) (k : List D → Prop) : gRM C L a b c d n cap l k =
 (bcase (decide ((↑n : Int) > 500))
 (k [D.nil, (D.val (Go.Value.int Go.IntKind.i64 (8 : Int)))])
 (L 0 [(Prod.mk 1 (Go.Value.slice (Option.some (Go.Addr.mk 500 0 Option.none)) (n) (cap))), (Prod.mk 2 (Go.Value.pointer (Option.some (Go.Addr.mk 1000 0 Option.none)))), (Prod.mk 6 (Go.Value.int Go.IntKind.i64 (0 : Int)))] [(Prod.mk 500 (AObj.sym (l) false 1)), (Prod.mk 1000 (AObj.cells [(Go.Value.int Go.IntKind.i64 (a)), (Go.Value.int Go.IntKind.i64 (b)), (Go.Value.int Go.IntKind.i64 (c)), (Go.Value.int Go.IntKind.i64 (d))] 32 false 1))])) := by kernel_rfl
def gRA (C : Ct) (L : AtLoop) (a b c d x : Int) (k : List D → Prop) : Prop := wpFn Try.prog (hG C) L 0 12 #[vA a b c d, vI x] (heapOf []) (dataK k)
theorem gRA_text (C : Ct) (L : AtLoop) (a : Int) (b : Int) (c : Int) (d : Int) (x : Int) (k : List D → Prop) : gRA C L a b c d x k =
 (∃ n1 : Int,
 ((Says C 14 [(D.agg [(D.val (Go.Value.int Go.IntKind.i64 (a))), (D.val (Go.Value.int Go.IntKind.i64 (b))), (D.val (Go.Value.int Go.IntKind.i64 (c))), (D.val (Go.Value.int Go.IntKind.i64 (d)))])] [(D.val (Go.Value.int Go.IntKind.i64 (n1)))]) ∧
 (bcase (n1 != 0)
 (∃ r1 : Int,
 ((Says witC 0 [(D.val (Go.Value.int Go.IntKind.i64 (-(9999 + 1) : Int))), (D.val (Go.Value.int Go.IntKind.i64 (10000 : Int))), (D.val (Go.Value.int Go.IntKind.i64 (2 : Int))), (D.sl 1 1 [(Go.Value.int Go.IntKind.i64 (x))])] [(D.val (Go.Value.int Go.IntKind.i64 (r1)))]) ∧
 (∃ n2 : Int,
 ((Says C 26 [(D.sl 2 1 [(Go.Value.int Go.IntKind.i64 (n1)), (Go.Value.int Go.IntKind.i64 (r1))])] [(D.val (Go.Value.int Go.IntKind.i64 (n2)))]) ∧
 (bcase (n2 != 0)
 (k [(D.val (Go.Value.int Go.IntKind.i64 (0 : Int))), (D.val (Go.Value.int Go.IntKind.i64 (n2)))])
 (((((Go.Value.slice (Option.some (Go.Addr.mk 1008 0 Option.none)) 1 1) = (Go.Value.slice (Option.some (Go.Addr.mk 1008 0 Option.none)) 1 1)) ∧
 ((Option.some (AObj.cells [(Go.Value.int Go.IntKind.i64 (x))] 3 false 1)) = (Option.some (AObj.cells [(Go.Value.int Go.IntKind.i64 (x))] 3 false 1)))) ∧
 (((Go.Value.int Go.IntKind.i64 (x)) = (Go.Value.int Go.IntKind.i64 (x))) ∧
 (((Go.Value.agg [(Go.Value.int Go.IntKind.i64 (0 : Int)), (Go.Value.int Go.IntKind.i64 (0 : Int)), (Go.Value.int Go.IntKind.i64 (0 : Int)), (Go.Value.int Go.IntKind.i64 (0 : Int))].toArray) = (Go.Value.agg [(Go.Value.int Go.IntKind.i64 (0 : Int)), (Go.Value.int Go.IntKind.i64 (0 : Int)), (Go.Value.int Go.IntKind.i64 (0 : Int)), (Go.Value.int Go.IntKind.i64 (0 : Int))].toArray)) ∧
 True))) ∧
 (((Says C 35 [(D.sl 1 1 [(Go.Value.int Go.IntKind.i64 (x))]), (D.val (Go.Value.int Go.IntKind.i64 (501 : Int)))] [D.nil]) ∧
 ((((Go.Value.int Go.IntKind.i64 (x)) = (Go.Value.int Go.IntKind.i64 (x))) ∧
 (((Go.Value.agg [(Go.Value.int Go.IntKind.i64 (0 : Int)), (Go.Value.int Go.IntKind.i64 (0 : Int)), (Go.Value.int Go.IntKind.i64 (0 : Int)), (Go.Value.int Go.IntKind.i64 (0 : Int))].toArray) = (Go.Value.agg [(Go.Value.int Go.IntKind.i64 (0 : Int)), (Go.Value.int Go.IntKind.i64 (0 : Int)), (Go.Value.int Go.IntKind.i64 (0 : Int)), (Go.Value.int Go.IntKind.i64 (0 : Int))].toArray)) ∧
 True)) ∧
 ((∃ n3 : Int,
 ((Says C 34 [(D.agg [(D.val (Go.Value.int Go.IntKind.i64 (0 : Int))), (D.val (Go.Value.int Go.IntKind.i64 (0 : Int))), (D.val (Go.Value.int Go.IntKind.i64 (0 : Int))), (D.val (Go.Value.int Go.IntKind.i64 (0 : Int)))]), D.nil] [D.nil, (D.val (Go.Value.int Go.IntKind.i64 (n3)))]) ∧
 ((((Go.Value.int Go.IntKind.i64 (n3)) = (Go.Value.int Go.IntKind.i64 (n3))) ∧
 (((Go.Value.slice Option.none 0 0) = (Go.Value.slice Option.none 0 0)) ∧
 (((Go.Value.tuple [(Go.Value.slice Option.none 0 0), (Go.Value.int Go.IntKind.i64 (n3))].toArray) = (Go.Value.tuple [(Go.Value.slice Option.none 0 0), (Go.Value.int Go.IntKind.i64 (n3))].toArray)) ∧
 (((Go.Value.int Go.IntKind.i64 (x)) = (Go.Value.int Go.IntKind.i64 (x))) ∧
 True)))) ∧
 ((((Go.Value.int Go.IntKind.i64 (n3)) = (Go.Value.int Go.IntKind.i64 (n3))) ∧
 True) ∧
 (True ∧
 (bcase (n3 != 0)
 (k [(D.val (Go.Value.int Go.IntKind.i64 (0 : Int))), (D.val (Go.Value.int Go.IntKind.i64 (n3)))])
 (L 0 [(Prod.mk 2 (Go.Value.pointer (Option.some (Go.Addr.mk 1000 0 Option.none)))), (Prod.mk 6 (Go.Value.pointer (Option.some (Go.Addr.mk 1001 0 Option.none)))), (Prod.mk 10 (Go.Value.int Go.IntKind.i64 (a))), (Prod.mk 41 (Go.Value.slice Option.none 0 0)), (Prod.mk 42 (Go.Value.int Go.IntKind.i64 (0 : Int))), (Prod.mk 43 (Go.Value.int Go.IntKind.i64 (0 : Int)))] [(Prod.mk 1000 (AObj.cells [(Go.Value.int Go.IntKind.i64 (a)), (Go.Value.int Go.IntKind.i64 (b)), (Go.Value.int Go.IntKind.i64 (c)), (Go.Value.int Go.IntKind.i64 (d))] 32 false 1)), (Prod.mk 1001 (AObj.cells [(Go.Value.int Go.IntKind.i64 (0 : Int)), (Go.Value.int Go.IntKind.i64 (0 : Int)), (Go.Value.int Go.IntKind.i64 (0 : Int)), (Go.Value.int Go.IntKind.i64 (0 : Int))] 71 false 4))]))))))) ∨
 (∃ n3 : Nat,
 (∃ cs1 : List Go.Value,
 (∃ n4 : Int,
 ((Says C 34 [(D.agg [(D.val (Go.Value.int Go.IntKind.i64 (0 : Int))), (D.val (Go.Value.int Go.IntKind.i64 (0 : Int))), (D.val (Go.Value.int Go.IntKind.i64 (0 : Int))), (D.val (Go.Value.int Go.IntKind.i64 (0 : Int)))]), D.nil] [(D.sl (n3) 1 (cs1)), (D.val (Go.Value.int Go.IntKind.i64 (n4)))]) ∧
 ((((Go.Value.int Go.IntKind.i64 (n4)) = (Go.Value.int Go.IntKind.i64 (n4))) ∧
 (((Go.Value.slice (Option.some (Go.Addr.mk 1009 0 Option.none)) (n3) (n3)) = (Go.Value.slice (Option.some (Go.Addr.mk 1009 0 Option.none)) (n3) (n3))) ∧
 (((Go.Value.tuple [(Go.Value.slice (Option.some (Go.Addr.mk 1009 0 Option.none)) (n3) (n3)), (Go.Value.int Go.IntKind.i64 (n4))].toArray) = (Go.Value.tuple [(Go.Value.slice (Option.some (Go.Addr.mk 1009 0 Option.none)) (n3) (n3)), (Go.Value.int Go.IntKind.i64 (n4))].toArray)) ∧
 (((Go.Value.int Go.IntKind.i64 (x)) = (Go.Value.int Go.IntKind.i64 (x))) ∧
 True)))) ∧
 ((((Go.Value.int Go.IntKind.i64 (n4)) = (Go.Value.int Go.IntKind.i64 (n4))) ∧
 True) ∧
 (True ∧
 (bcase (n4 != 0)
 (k [(D.val (Go.Value.int Go.IntKind.i64 (0 : Int))), (D.val (Go.Value.int Go.IntKind.i64 (n4)))])
 (L 0 [(Prod.mk 2 (Go.Value.pointer (Option.some (Go.Addr.mk 1000 0 Option.none)))), (Prod.mk 6 (Go.Value.pointer (Option.some (Go.Addr.mk 1001 0 Option.none)))), (Prod.mk 10 (Go.Value.int Go.IntKind.i64 (a))), (Prod.mk 41 (Go.Value.slice (Option.some (Go.Addr.mk 1002 0 Option.none)) (n3) (n3))), (Prod.mk 42 (Go.Value.int Go.IntKind.i64 ((↑n3 : Int)))), (Prod.mk 43 (Go.Value.int Go.IntKind.i64 (0 : Int)))] [(Prod.mk 1000 (AObj.cells [(Go.Value.int Go.IntKind.i64 (a)), (Go.Value.int Go.IntKind.i64 (b)), (Go.Value.int Go.IntKind.i64 (c)), (Go.Value.int Go.IntKind.i64 (d))] 32 false 1)), (Prod.mk 1001 (AObj.cells [(Go.Value.int Go.IntKind.i64 (0 : Int)), (Go.Value.int Go.IntKind.i64 (0 : Int)), (Go.Value.int Go.IntKind.i64 (0 : Int)), (Go.Value.int Go.IntKind.i64 (0 : Int))] 71 false 4)), (Prod.mk 1002 (AObj.sym (cs1) true 1))])))))))))))) ∨
 (∃ n3 : Nat,
 (∃ cs1 : List Go.Value,
 ((Says C 35 [(D.sl 1 1 [(Go.Value.int Go.IntKind.i64 (x))]), (D.val (Go.Value.int Go.IntKind.i64 (501 : Int)))] [(D.sl (n3) 1 (cs1))]) ∧
 ((((Go.Value.int Go.IntKind.i64 (x)) = (Go.Value.int Go.IntKind.i64 (x))) ∧
 (((Go.Value.agg [(Go.Value.int Go.IntKind.i64 (0 : Int)), (Go.Value.int Go.IntKind.i64 (0 : Int)), (Go.Value.int Go.IntKind.i64 (0 : Int)), (Go.Value.int Go.IntKind.i64 (0 : Int))].toArray) = (Go.Value.agg [(Go.Value.int Go.IntKind.i64 (0 : Int)), (Go.Value.int Go.IntKind.i64 (0 : Int)), (Go.Value.int Go.IntKind.i64 (0 : Int)), (Go.Value.int Go.IntKind.i64 (0 : Int))].toArray)) ∧
 True)) ∧
 (bcase (decide (0 + n3 * 1 ≤ List.length cs1))
 ((∃ n4 : Int,
 ((Says C 34 [(D.agg [(D.val (Go.Value.int Go.IntKind.i64 (0 : Int))), (D.val (Go.Value.int Go.IntKind.i64 (0 : Int))), (D.val (Go.Value.int Go.IntKind.i64 (0 : Int))), (D.val (Go.Value.int Go.IntKind.i64 (0 : Int)))]), (D.sl (n3) 1 (List.take (n3 * 1) (List.drop 0 cs1)))] [D.nil, (D.val (Go.Value.int Go.IntKind.i64 (n4)))]) ∧
 ((((Go.Value.int Go.IntKind.i64 (n4)) = (Go.Value.int Go.IntKind.i64 (n4))) ∧
 (((Go.Value.slice Option.none 0 0) = (Go.Value.slice Option.none 0 0)) ∧
 (((Go.Value.tuple [(Go.Value.slice Option.none 0 0), (Go.Value.int Go.IntKind.i64 (n4))].toArray) = (Go.Value.tuple [(Go.Value.slice Option.none 0 0), (Go.Value.int Go.IntKind.i64 (n4))].toArray)) ∧
 (((Go.Value.int Go.IntKind.i64 (x)) = (Go.Value.int Go.IntKind.i64 (x))) ∧
 True)))) ∧
 ((((Go.Value.int Go.IntKind.i64 (n4)) = (Go.Value.int Go.IntKind.i64 (n4))) ∧
 True) ∧
 (True ∧
 (bcase (n4 != 0)
 (k [(D.val (Go.Value.int Go.IntKind.i64 (0 : Int))), (D.val (Go.Value.int Go.IntKind.i64 (n4)))])
 (L 0 [(Prod.mk 2 (Go.Value.pointer (Option.some (Go.Addr.mk 1000 0 Option.none)))), (Prod.mk 6 (Go.Value.pointer (Option.some (Go.Addr.mk 1001 0 Option.none)))), (Prod.mk 10 (Go.Value.int Go.IntKind.i64 (a))), (Prod.mk 41 (Go.Value.slice Option.none 0 0)), (Prod.mk 42 (Go.Value.int Go.IntKind.i64 (0 : Int))), (Prod.mk 43 (Go.Value.int Go.IntKind.i64 (0 : Int)))] [(Prod.mk 1000 (AObj.cells [(Go.Value.int Go.IntKind.i64 (a)), (Go.Value.int Go.IntKind.i64 (b)), (Go.Value.int Go.IntKind.i64 (c)), (Go.Value.int Go.IntKind.i64 (d))] 32 false 1)), (Prod.mk 1001 (AObj.cells [(Go.Value.int Go.IntKind.i64 (0 : Int)), (Go.Value.int Go.IntKind.i64 (0 : Int)), (Go.Value.int Go.IntKind.i64 (0 : Int)), (Go.Value.int Go.IntKind.i64 (0 : Int))] 71 false 4))]))))))) ∨
 (∃ n4 : Nat,
 (∃ cs2 : List Go.Value,
 (∃ n5 : Int,
 ((Says C 34 [(D.agg [(D.val (Go.Value.int Go.IntKind.i64 (0 : Int))), (D.val (Go.Value.int Go.IntKind.i64 (0 : Int))), (D.val (Go.Value.int Go.IntKind.i64 (0 : Int))), (D.val (Go.Value.int Go.IntKind.i64 (0 : Int)))]), (D.sl (n3) 1 (List.take (n3 * 1) (List.drop 0 cs1)))] [(D.sl (n4) 1 (cs2)), (D.val (Go.Value.int Go.IntKind.i64 (n5)))]) ∧
 ((((Go.Value.int Go.IntKind.i64 (n5)) = (Go.Value.int Go.IntKind.i64 (n5))) ∧
 (((Go.Value.slice (Option.some (Go.Addr.mk 1010 0 Option.none)) (n4) (n4)) = (Go.Value.slice (Option.some (Go.Addr.mk 1010 0 Option.none)) (n4) (n4))) ∧
 (((Go.Value.tuple [(Go.Value.slice (Option.some (Go.Addr.mk 1010 0 Option.none)) (n4) (n4)), (Go.Value.int Go.IntKind.i64 (n5))].toArray) = (Go.Value.tuple [(Go.Value.slice (Option.some (Go.Addr.mk 1010 0 Option.none)) (n4) (n4)), (Go.Value.int Go.IntKind.i64 (n5))].toArray)) ∧
 (((Go.Value.int Go.IntKind.i64 (x)) = (Go.Value.int Go.IntKind.i64 (x))) ∧
 True)))) ∧
 ((((Go.Value.int Go.IntKind.i64 (n5)) = (Go.Value.int Go.IntKind.i64 (n5))) ∧
 True) ∧
 (True ∧
 (bcase (n5 != 0)
 (k [(D.val (Go.Value.int Go.IntKind.i64 (0 : Int))), (D.val (Go.Value.int Go.IntKind.i64 (n5)))])
 (L 0 [(Prod.mk 2 (Go.Value.pointer (Option.some (Go.Addr.mk 1000 0 Option.none)))), (Prod.mk 6 (Go.Value.pointer (Option.some (Go.Addr.mk 1001 0 Option.none)))), (Prod.mk 10 (Go.Value.int Go.IntKind.i64 (a))), (Prod.mk 41 (Go.Value.slice (Option.some (Go.Addr.mk 1002 0 Option.none)) (n4) (n4))), (Prod.mk 42 (Go.Value.int Go.IntKind.i64 ((↑n4 : Int)))), (Prod.mk 43 (Go.Value.int Go.IntKind.i64 (0 : Int)))] [(Prod.mk 1000 (AObj.cells [(Go.Value.int Go.IntKind.i64 (a)), (Go.Value.int Go.IntKind.i64 (b)), (Go.Value.int Go.IntKind.i64 (c)), (Go.Value.int Go.IntKind.i64 (d))] 32 false 1)), (Prod.mk 1001 (AObj.cells [(Go.Value.int Go.IntKind.i64 (0 : Int)), (Go.Value.int Go.IntKind.i64 (0 : Int)), (Go.Value.int Go.IntKind.i64 (0 : Int)), (Go.Value.int Go.IntKind.i64 (0 : Int))] 71 false 4)), (Prod.mk 1002 (AObj.sym (cs2) true 1))]))))))))))
 False))))))))))))
 (∃ r1 : Int,
 ((Says witC 0 [(D.val (Go.Value.int Go.IntKind.i64 (-(9999 + 1) : Int))), (D.val (Go.Value.int Go.IntKind.i64 (10000 : Int))), (D.val (Go.Value.int Go.IntKind.i64 (2 : Int))), (D.sl 1 1 [(Go.Value.int Go.IntKind.i64 (x))])] [(D.val (Go.Value.int Go.IntKind.i64 (r1)))]) ∧
 (∃ n2 : Int,
 ((Says C 26 [(D.sl 2 1 [(Go.Value.int Go.IntKind.i64 (0 : Int)), (Go.Value.int Go.IntKind.i64 (r1))])] [(D.val (Go.Value.int Go.IntKind.i64 (n2)))]) ∧
 (bcase (n2 != 0)
 (k [(D.val (Go.Value.int Go.IntKind.i64 (0 : Int))), (D.val (Go.Value.int Go.IntKind.i64 (n2)))])
 (((((Go.Value.slice (Option.some (Go.Addr.mk 1008 0 Option.none)) 1 1) = (Go.Value.slice (Option.some (Go.Addr.mk 1008 0 Option.none)) 1 1)) ∧
 ((Option.some (AObj.cells [(Go.Value.int Go.IntKind.i64 (x))] 3 false 1)) = (Option.some (AObj.cells [(Go.Value.int Go.IntKind.i64 (x))] 3 false 1)))) ∧
 (((Go.Value.int Go.IntKind.i64 (x)) = (Go.Value.int Go.IntKind.i64 (x))) ∧
 (((Go.Value.agg [(Go.Value.int Go.IntKind.i64 (a)), (Go.Value.int Go.IntKind.i64 (b)), (Go.Value.int Go.IntKind.i64 (c)), (Go.Value.int Go.IntKind.i64 (d))].toArray) = (Go.Value.agg [(Go.Value.int Go.IntKind.i64 (a)), (Go.Value.int Go.IntKind.i64 (b)), (Go.Value.int Go.IntKind.i64 (c)), (Go.Value.int Go.IntKind.i64 (d))].toArray)) ∧
 True))) ∧
 (((Says C 35 [(D.sl 1 1 [(Go.Value.int Go.IntKind.i64 (x))]), (D.val (Go.Value.int Go.IntKind.i64 (501 : Int)))] [D.nil]) ∧
 ((((Go.Value.int Go.IntKind.i64 (x)) = (Go.Value.int Go.IntKind.i64 (x))) ∧
 (((Go.Value.agg [(Go.Value.int Go.IntKind.i64 (a)), (Go.Value.int Go.IntKind.i64 (b)), (Go.Value.int Go.IntKind.i64 (c)), (Go.Value.int Go.IntKind.i64 (d))].toArray) = (Go.Value.agg [(Go.Value.int Go.IntKind.i64 (a)), (Go.Value.int Go.IntKind.i64 (b)), (Go.Value.int Go.IntKind.i64 (c)), (Go.Value.int Go.IntKind.i64 (d))].toArray)) ∧
 True)) ∧
 ((∃ n3 : Int,
 ((Says C 34 [(D.agg [(D.val (Go.Value.int Go.IntKind.i64 (a))), (D.val (Go.Value.int Go.IntKind.i64 (b))), (D.val (Go.Value.int Go.IntKind.i64 (c))), (D.val (Go.Value.int Go.IntKind.i64 (d)))]), D.nil] [D.nil, (D.val (Go.Value.int Go.IntKind.i64 (n3)))]) ∧
 ((((Go.Value.int Go.IntKind.i64 (n3)) = (Go.Value.int Go.IntKind.i64 (n3))) ∧
 (((Go.Value.slice Option.none 0 0) = (Go.Value.slice Option.none 0 0)) ∧
 (((Go.Value.tuple [(Go.Value.slice Option.none 0 0), (Go.Value.int Go.IntKind.i64 (n3))].toArray) = (Go.Value.tuple [(Go.Value.slice Option.none 0 0), (Go.Value.int Go.IntKind.i64 (n3))].toArray)) ∧
 (((Go.Value.int Go.IntKind.i64 (x)) = (Go.Value.int Go.IntKind.i64 (x))) ∧
 True)))) ∧
 ((((Go.Value.int Go.IntKind.i64 (n3)) = (Go.Value.int Go.IntKind.i64 (n3))) ∧
 True) ∧
 (True ∧
 (bcase (n3 != 0)
 (k [(D.val (Go.Value.int Go.IntKind.i64 (0 : Int))), (D.val (Go.Value.int Go.IntKind.i64 (n3)))])
 (L 0 [(Prod.mk 2 (Go.Value.pointer (Option.some (Go.Addr.mk 1000 0 Option.none)))), (Prod.mk 6 (Go.Value.pointer (Option.some (Go.Addr.mk 1001 0 Option.none)))), (Prod.mk 10 (Go.Value.int Go.IntKind.i64 (a))), (Prod.mk 41 (Go.Value.slice Option.none 0 0)), (Prod.mk 42 (Go.Value.int Go.IntKind.i64 (0 : Int))), (Prod.mk 43 (Go.Value.int Go.IntKind.i64 (0 : Int)))] [(Prod.mk 1000 (AObj.cells [(Go.Value.int Go.IntKind.i64 (a)), (Go.Value.int Go.IntKind.i64 (b)), (Go.Value.int Go.IntKind.i64 (c)), (Go.Value.int Go.IntKind.i64 (d))] 32 false 1)), (Prod.mk 1001 (AObj.cells [(Go.Value.int Go.IntKind.i64 (a)), (Go.Value.int Go.IntKind.i64 (b)), (Go.Value.int Go.IntKind.i64 (c)), (Go.Value.int Go.IntKind.i64 (d))] 71 false 4))]))))))) ∨
 (∃ n3 : Nat,
 (∃ cs1 : List Go.Value,
 (∃ n4 : Int,
 ((Says C 34 [(D.agg [(D.val (Go.Value.int Go.IntKind.i64 (a))), (D.val (Go.Value.int Go.IntKind.i64 (b))), (D.val (Go.Value.int Go.IntKind.i64 (c))), (D.val (Go.Value.int Go.IntKind.i64 (d)))]), D.nil] [(D.sl (n3) 1 (cs1)), (D.val (Go.Value.int Go.IntKind.i64 (n4)))]) ∧
 ((((Go.Value.int Go.IntKind.i64 (n4)) = (Go.Value.int Go.IntKind.i64 (n4))) ∧
 (((Go.Value.slice (Option.some (Go.Addr.mk 1009 0 Option.none)) (n3) (n3)) = (Go.Value.slice (Option.some (Go.Addr.mk 1009 0 Option.none)) (n3) (n3))) ∧
 (((Go.Value.tuple [(Go.Value.slice (Option.some (Go.Addr.mk 1009 0 Option.none)) (n3) (n3)), (Go.Value.int Go.IntKind.i64 (n4))].toArray) = (Go.Value.tuple [(Go.Value.slice (Option.some (Go.Addr.mk 1009 0 Option.none)) (n3) (n3)), (Go.Value.int Go.IntKind.i64 (n4))].toArray)) ∧
 (((Go.Value.int Go.IntKind.i64 (x)) = (Go.Value.int Go.IntKind.i64 (x))) ∧
 True)))) ∧
 ((((Go.Value.int Go.IntKind.i64 (n4)) = (Go.Value.int Go.IntKind.i64 (n4))) ∧
 True) ∧
 (True ∧
 (bcase (n4 != 0)
 (k [(D.val (Go.Value.int Go.IntKind.i64 (0 : Int))), (D.val (Go.Value.int Go.IntKind.i64 (n4)))])
 (L 0 [(Prod.mk 2 (Go.Value.pointer (Option.some (Go.Addr.mk 1000 0 Option.none)))), (Prod.mk 6 (Go.Value.pointer (Option.some (Go.Addr.mk 1001 0 Option.none)))), (Prod.mk 10 (Go.Value.int Go.IntKind.i64 (a))), (Prod.mk 41 (Go.Value.slice (Option.some (Go.Addr.mk 1002 0 Option.none)) (n3) (n3))), (Prod.mk 42 (Go.Value.int Go.IntKind.i64 ((↑n3 : Int)))), (Prod.mk 43 (Go.Value.int Go.IntKind.i64 (0 : Int)))] [(Prod.mk 1000 (AObj.cells [(Go.Value.int Go.IntKind.i64 (a)), (Go.Value.int Go.IntKind.i64 (b)), (Go.Value.int Go.IntKind.i64 (c)), (Go.Value.int Go.IntKind.i64 (d))] 32 false 1)), (Prod.mk 1001 (AObj.cells [(Go.Value.int Go.IntKind.i64 (a)), (Go.Value.int Go.IntKind.i64 (b)), (Go.Value.int Go.IntKind.i64 (c)), (Go.Value.int Go.IntKind.i64 (d))] 71 false 4)), (Prod.mk 1002 (AObj.sym (cs1) true 1))])))))))))))) ∨
 (∃ n3 : Nat,
 (∃ cs1 : List Go.Value,
 ((Says C 35 [(D.sl 1 1 [(Go.Value.int Go.IntKind.i64 (x))]), (D.val (Go.Value.int Go.IntKind.i64 (501 : Int)))] [(D.sl (n3) 1 (cs1))]) ∧
 ((((Go.Value.int Go.IntKind.i64 (x)) = (Go.Value.int Go.IntKind.i64 (x))) ∧
 (((Go.Value.agg [(Go.Value.int Go.IntKind.i64 (a)), (Go.Value.int Go.IntKind.i64 (b)), (Go.Value.int Go.IntKind.i64 (c)), (Go.Value.int Go.IntKind.i64 (d))].toArray) = (Go.Value.agg [(Go.Value.int Go.IntKind.i64 (a)), (Go.Value.int Go.IntKind.i64 (b)), (Go.Value.int Go.IntKind.i64 (c)), (Go.Value.int Go.IntKind.i64 (d))].toArray)) ∧
 True)) ∧
 (bcase (decide (0 + n3 * 1 ≤ List.length cs1))
 ((∃ n4 : Int,
 ((Says C 34 [(D.agg [(D.val (Go.Value.int Go.IntKind.i64 (a))), (D.val (Go.Value.int Go.IntKind.i64 (b))), (D.val (Go.Value.int Go.IntKind.i64 (c))), (D.val (Go.Value.int Go.IntKind.i64 (d)))]), (D.sl (n3) 1 (List.take (n3 * 1) (List.drop 0 cs1)))] [D.nil, (D.val (Go.Value.int Go.IntKind.i64 (n4)))]) ∧
 ((((Go.Value.int Go.IntKind.i64 (n4)) = (Go.Value.int Go.IntKind.i64 (n4))) ∧
 (((Go.Value.slice Option.none 0 0) = (Go.Value.slice Option.none 0 0)) ∧
 (((Go.Value.tuple [(Go.Value.slice Option.none 0 0), (Go.Value.int Go.IntKind.i64 (n4))].toArray) = (Go.Value.tuple [(Go.Value.slice Option.none 0 0), (Go.Value.int Go.IntKind.i64 (n4))].toArray)) ∧
 (((Go.Value.int Go.IntKind.i64 (x)) = (Go.Value.int Go.IntKind.i64 (x))) ∧
 True)))) ∧
 ((((Go.Value.int Go.IntKind.i64 (n4)) = (Go.Value.int Go.IntKind.i64 (n4))) ∧
 True) ∧
 (True ∧
 (bcase (n4 != 0)
 (k [(D.val (Go.Value.int Go.IntKind.i64 (0 : Int))), (D.val (Go.Value.int Go.IntKind.i64 (n4)))])
 (L 0 [(Prod.mk 2 (Go.Value.pointer (Option.some (Go.Addr.mk 1000 0 Option.none)))), (Prod.mk 6 (Go.Value.pointer (Option.some (Go.Addr.mk 1001 0 Option.none)))), (Prod.mk 10 (Go.Value.int Go.IntKind.i64 (a))), (Prod.mk 41 (Go.Value.slice Option.none 0 0)), (Prod.mk 42 (Go.Value.int Go.IntKind.i64 (0 : Int))), (Prod.mk 43 (Go.Value.int Go.IntKind.i64 (0 : Int)))] [(Prod.mk 1000 (AObj.cells [(Go.Value.int Go.IntKind.i64 (a)), (Go.Value.int Go.IntKind.i64 (b)), (Go.Value.int Go.IntKind.i64 (c)), (Go.Value.int Go.IntKind.i64 (d))] 32 false 1)), (Prod.mk 1001 (AObj.cells [(Go.Value.int Go.IntKind.i64 (a)), (Go.Value.int Go.IntKind.i64 (b)), (Go.Value.int Go.IntKind.i64 (c)), (Go.Value.int Go.IntKind.i64 (d))] 71 false 4))]))))))) ∨
 (∃ n4 : Nat,
 (∃ cs2 : List Go.Value,
 (∃ n5 : Int,
 ((Says C 34 [(D.agg [(D.val (Go.Value.int Go.IntKind.i64 (a))), (D.val (Go.Value.int Go.IntKind.i64 (b))), (D.val (Go.Value.int Go.IntKind.i64 (c))), (D.val (Go.Value.int Go.IntKind.i64 (d)))]), (D.sl (n3) 1 (List.take (n3 * 1) (List.drop 0 cs1)))] [(D.sl (n4) 1 (cs2)), (D.val (Go.Value.int Go.IntKind.i64 (n5)))]) ∧
 ((((Go.Value.int Go.IntKind.i64 (n5)) = (Go.Value.int Go.IntKind.i64 (n5))) ∧
 (((Go.Value.slice (Option.some (Go.Addr.mk 1010 0 Option.none)) (n4) (n4)) = (Go.Value.slice (Option.some (Go.Addr.mk 1010 0 Option.none)) (n4) (n4))) ∧
 (((Go.Value.tuple [(Go.Value.slice (Option.some (Go.Addr.mk 1010 0 Option.none)) (n4) (n4)), (Go.Value.int Go.IntKind.i64 (n5))].toArray) = (Go.Value.tuple [(Go.Value.slice (Option.some (Go.Addr.mk 1010 0 Option.none)) (n4) (n4)), (Go.Value.int Go.IntKind.i64 (n5))].toArray)) ∧
 (((Go.Value.int Go.IntKind.i64 (x)) = (Go.Value.int Go.IntKind.i64 (x))) ∧
 True)))) ∧
 ((((Go.Value.int Go.IntKind.i64 (n5)) = (Go.Value.int Go.IntKind.i64 (n5))) ∧
 True) ∧
 (True ∧
 (bcase (n5 != 0)
 (k [(D.val (Go.Value.int Go.IntKind.i64 (0 : Int))), (D.val (Go.Value.int Go.IntKind.i64 (n5)))])
 (L 0 [(Prod.mk 2 (Go.Value.pointer (Option.some (Go.Addr.mk 1000 0 Option.none)))), (Prod.mk 6 (Go.Value.pointer (Option.some (Go.Addr.mk 1001 0 Option.none)))), (Prod.mk 10 (Go.Value.int Go.IntKind.i64 (a))), (Prod.mk 41 (Go.Value.slice (Option.some (Go.Addr.mk 1002 0 Option.none)) (n4) (n4))), (Prod.mk 42 (Go.Value.int Go.IntKind.i64 ((↑n4 : Int)))), (Prod.mk 43 (Go.Value.int Go.IntKind.i64 (0 : Int)))] [(Prod.mk 1000 (AObj.cells [(Go.Value.int Go.IntKind.i64 (a)), (Go.Value.int Go.IntKind.i64 (b)), (Go.Value.int Go.IntKind.i64 (c)), (Go.Value.int Go.IntKind.i64 (d))] 32 false 1)), (Prod.mk 1001 (AObj.cells [(Go.Value.int Go.IntKind.i64 (a)), (Go.Value.int Go.IntKind.i64 (b)), (Go.Value.int Go.IntKind.i64 (c)), (Go.Value.int Go.IntKind.i64 (d))] 71 false 4)), (Prod.mk 1002 (AObj.sym (cs2) true 1))]))))))))))
 False))))))))))))))) := by kernel_rfl
def gRR (C : Ct) (L : AtLoop) (a b c d x : Int) (k : List D → Prop) : Prop := wpFn Try.prog (hG C) L 0 16 #[vA a b c d, vI x] (heapOf []) (dataK k)
theorem gRR_text (C : Ct) (L : AtLoop) (a : Int) (b : Int) (c : Int) (d : Int) (x : Int) (k : List D → Prop) : gRR C L a b c d x k =
 (((Says C 17 [(D.val (Go.Value.int Go.IntKind.i64 (x))), (D.val (Go.Value.int Go.IntKind.i64 (-(9999 + 1) : Int))), (D.val (Go.Value.int Go.IntKind.i64 (10000 : Int)))] [(D.val (Go.Value.bool true))]) ∧
 (L 0 [(Prod.mk 1 (Go.Value.int Go.IntKind.i64 (x))), (Prod.mk 2 (Go.Value.pointer (Option.some (Go.Addr.mk 1000 0 Option.none)))), (Prod.mk 6 (Go.Value.slice Option.none 0 0)), (Prod.mk 7 (Go.Value.int Go.IntKind.i64 (0 : Int)))] [(Prod.mk 1000 (AObj.cells [(Go.Value.int Go.IntKind.i64 (a)), (Go.Value.int Go.IntKind.i64 (b)), (Go.Value.int Go.IntKind.i64 (c)), (Go.Value.int Go.IntKind.i64 (d))] 32 false 1))])) ∨
 ((Says C 17 [(D.val (Go.Value.int Go.IntKind.i64 (x))), (D.val (Go.Value.int Go.IntKind.i64 (-(9999 + 1) : Int))), (D.val (Go.Value.int Go.IntKind.i64 (10000 : Int)))] [(D.val (Go.Value.bool false))]) ∧
 (k [(D.val (Go.Value.int Go.IntKind.i64 (0 : Int))), (D.val (Go.Value.int Go.IntKind.i64 (2 : Int)))]))) := by kernel_rfl
def gIn (C : Ct) (L : AtLoop) (n cap : Nat) (l : List Value) (m cap2 : Nat) (l2 : List Value) (k : List D → Prop) : Prop := wpFn Try.prog (hG C) L 0 10 #[S500 n cap, S501 m cap2] (heapOf [Q500 l, Q501 l2]) (dataK k)
theorem gIn_text (C : Ct) (L : AtLoop) (n : Nat) (cap : Nat) (l : List Go.Value) (m : Nat) (cap2 : Nat) (l2 : List Go.Value) (k : List D → Prop) : gIn C L n cap l m cap2 l2 k =
 (bcase ((↑n : Int) != (↑m : Int))
 (k [(D.val (Go.Value.bool false))])
 (L 0 [(Prod.mk 0 (Go.Value.slice (Option.some (Go.Addr.mk 500 0 Option.none)) (n) (cap))), (Prod.mk 1 (Go.Value.slice (Option.some (Go.Addr.mk 501 0 Option.none)) (m) (cap2))), (Prod.mk 5 (Go.Value.int Go.IntKind.i64 (0 : Int)))] [(Prod.mk 500 (AObj.sym (l) false 1)), (Prod.mk 501 (AObj.sym (l2) false 1))])) := by kernel_rfl
def sFE (n cap : Nat) (i : Int) : Slots := [(5, S500 n cap), (6, .int .i64 n), (7, vI i)]
def rFE (C : Ct) (L : AtLoop) (n cap : Nat) (l : List Value) (i : Int) (B : Bx) (X : Xx) (k : List D → Prop) : Prop := wpRound Try.prog (hG C) L 26 0 (sFE n cap i) [Q500 l] B X (dataK k)
theorem rFE_text (C : Ct) (L : AtLoop) (n : Nat) (cap : Nat) (l : List Go.Value) (i : Int) (B : Bx) (X : Xx) (k : List D → Prop) : rFE C L n cap l i B X k =
 (bcase (decide (i < (↑n : Int)))
 (bcase (decide (0 ≤ i))
 (bcase (decide (i < (↑n : Int)))
 (∃ n1 : Int,
 ((At (l) (0 + Int.toNat i * 1) 1 [(Go.Value.int Go.IntKind.i64 (n1))]) ∧
 (bcase (n1 != 0)
 (k [(D.val (Go.Value.int Go.IntKind.i64 (n1)))])
 (B [(Prod.mk 5 (Go.Value.slice (Option.some (Go.Addr.mk 500 0 Option.none)) (n) (cap))), (Prod.mk 6 (Go.Value.int Go.IntKind.i64 ((↑n : Int)))), (Prod.mk 7 (Go.Value.int Go.IntKind.i64 (Go.IntKind.wrap Go.IntKind.i64 (i + 1))))] [(Prod.mk 500 (AObj.sym (l) false 1))]))))
 False)
 False)
 (X 0 [] [])) := by kernel_rfl
def nFE (C : Ct) (L : AtLoop) (k : List D → Prop) : Prop := wpNext Try.prog (hG C) L 26 0 .normal [] [] (dataK k)
theorem nFE_text (C : Ct) (L : AtLoop) (k : List D → Prop) : nFE C L k =
 (k [(D.val (Go.Value.int Go.IntKind.i64 (0 : Int)))]) := by kernel_rfl
def sCS (a : Int) (n cap : Nat) (i : Int) : Slots := [(0, vI a), (7, S500 n cap), (8, .int .i64 n), (9, vI i)]
def rCS (C : Ct) (L : AtLoop) (a : Int) (n cap : Nat) (l : List Value) (i : Int) (B : Bx) (X : Xx) (k : List D → Prop) : Prop := wpRound Try.prog (hG C) L 27 0 (sCS a n cap i) [Q500 l] B X (dataK k)
theorem rCS_text (C : Ct) (L : AtLoop) (a : Int) (n : Nat) (cap : Nat) (l : List Go.Value) (i : Int) (B : Bx) (X : Xx) (k : List D → Prop) : rCS C L a n cap l i B X k =
 (bcase (decide (i < (↑n : Int)))
 (bcase (decide (0 ≤ i))
 (bcase (decide (i < (↑n : Int)))
 (∃ n1 : Int,
 ((At (l) (0 + Int.toNat i * 1) 1 [(Go.Value.int Go.IntKind.i64 (n1))]) ∧
 (bcase (n1 != a)
 (k [(D.val (Go.Value.int Go.IntKind.i64 (10 : Int)))])
 (B [(Prod.mk 0 (Go.Value.int Go.IntKind.i64 (a))), (Prod.mk 7 (Go.Value.slice (Option.some (Go.Addr.mk 500 0 Option.none)) (n) (cap))), (Prod.mk 8 (Go.Value.int Go.IntKind.i64 ((↑n : Int)))), (Prod.mk 9 (Go.Value.int Go.IntKind.i64 (Go.IntKind.wrap Go.IntKind.i64 (i + 1))))] [(Prod.mk 500 (AObj.sym (l) false 1))]))))
 False)
 False)
 (X 0 [] [])) := by kernel_rfl
def nCS (C : Ct) (L : AtLoop) (k : List D → Prop) : Prop := wpNext Try.prog (hG C) L 27 0 .normal [] [] (dataK k)
theorem nCS_text (C : Ct) (L : AtLoop) (k : List D → Prop) : nCS C L k =
 (k [(D.val (Go.Value.int Go.IntKind.i64 (0 : Int)))]) := by kernel_rfl
def sOu (l7 : Value) (c : Int) (n cap : Nat) (i : Int) : Slots := [(2, P1 1000 0), (6, P1 1001 0), (7, l7), (8, vI c), (13, S500 n cap), (14, .int .i64 n), (15, vI i)]
abbrev oM (a b c d : Int) : Nat × AObj := (1000, .cells [vI a, vI b, vI c, vI d] 71 false 1)
abbrev oL : Nat × AObj := (1001, .cells [vI (-100000), vI 100000] 64 false 2)
def rOu0 (C : Ct) (L : AtLoop) (a b c d x : Int) (n cap : Nat) (l : List Value) (i : Int) (B : Bx) (X : Xx) (k : List D → Prop) : Prop := wpRound Try.prog (hG C) L 34 0 (sOu (.slice none 0 0) x n cap i) [oM a b c d, oL, Q500 l] B X (dataK k)
theorem rOu0_text (C : Ct) (L : AtLoop) (a : Int) (b : Int) (c : Int) (d : Int) (x : Int) (n : Nat) (cap : Nat) (l : List Go.Value) (i : Int) (B : Bx) (X : Xx) (k : List D → Prop) : rOu0 C L a b c d x n cap l i B X k =
 (bcase (decide (i < (↑n : Int)))
 (bcase (decide (0 ≤ i))
 (bcase (decide (i < (↑n : Int)))
 (∃ n1 : Int,
 ((At (l) (0 + Int.toNat i * 1) 1 [(Go.Value.int Go.IntKind.i64 (n1))]) ∧
 (bcase (decide (0 ≤ i))
 (bcase (decide (i < (↑1 : Int)))
 (∃ n2 : Int,
 ((At [(Go.Value.int Go.IntKind.i64 (Go.IntKind.wrap Go.IntKind.i64 (n1 + x)))] (0 + Int.toNat i * 1) 1 [(Go.Value.int Go.IntKind.i64 (n2))]) ∧
 (((((Go.Value.slice (Option.some (Go.Addr.mk 1004 0 Option.none)) 1 1) = (Go.Value.slice (Option.some (Go.Addr.mk 1004 0 Option.none)) 1 1)) ∧
 ((Option.some (AObj.cells [(Go.Value.int Go.IntKind.i64 (n2))] 3 false 1)) = (Option.some (AObj.cells [(Go.Value.int Go.IntKind.i64 (n2))] 3 false 1)))) ∧
 ((∃ n3 : Int,
 ((At [(Go.Value.int Go.IntKind.i64 (Go.IntKind.wrap Go.IntKind.i64 (n1 + x)))] (0 + Int.toNat i * 1) 1 [(Go.Value.int Go.IntKind.i64 (n3))]) ∧
 ((Go.Value.int Go.IntKind.i64 (n3)) = (Go.Value.int Go.IntKind.i64 (n2))))) ∧
 ((bcase (decide (0 ≤ i))
 (bcase (decide (i < (↑1 : Int)))
 ((Go.Value.pointer (Option.some (Go.Addr.mk 1003 (0 + Int.toNat i * 1) Option.none))) = (Go.Value.pointer (Option.some (Go.Addr.mk 1003 (0 + Int.toNat i * 1) Option.none))))
 False)
 False) ∧
 (((Go.Value.int Go.IntKind.i64 (i)) = (Go.Value.int Go.IntKind.i64 (i))) ∧
 (((Go.Value.slice (Option.some (Go.Addr.mk 1003 0 Option.none)) 1 1) = (Go.Value.slice (Option.some (Go.Addr.mk 1003 0 Option.none)) 1 1)) ∧
 (((Go.Value.agg [(Go.Value.int Go.IntKind.i64 (-(99999 + 1) : Int)), (Go.Value.int Go.IntKind.i64 (100000 : Int))].toArray) = (Go.Value.agg [(Go.Value.int Go.IntKind.i64 (-(99999 + 1) : Int)), (Go.Value.int Go.IntKind.i64 (100000 : Int))].toArray)) ∧
 True)))))) ∧
 (((((Go.Value.slice (Option.some (Go.Addr.mk 1004 0 Option.none)) 1 1) = (Go.Value.slice (Option.some (Go.Addr.mk 1004 0 Option.none)) 1 1)) ∧
 ((Option.some (AObj.cells [(Go.Value.int Go.IntKind.i64 (n2))] 3 false 1)) = (Option.some (AObj.cells [(Go.Value.int Go.IntKind.i64 (n2))] 3 false 1)))) ∧
 ((∃ n3 : Int,
 ((At [(Go.Value.int Go.IntKind.i64 (Go.IntKind.wrap Go.IntKind.i64 (n1 + x)))] (0 + Int.toNat i * 1) 1 [(Go.Value.int Go.IntKind.i64 (n3))]) ∧
 ((Go.Value.int Go.IntKind.i64 (n3)) = (Go.Value.int Go.IntKind.i64 (n2))))) ∧
 ((bcase (decide (0 ≤ i))
 (bcase (decide (i < (↑1 : Int)))
 ((Go.Value.pointer (Option.some (Go.Addr.mk 1003 (0 + Int.toNat i * 1) Option.none))) = (Go.Value.pointer (Option.some (Go.Addr.mk 1003 (0 + Int.toNat i * 1) Option.none))))
 False)
 False) ∧
 (((Go.Value.int Go.IntKind.i64 (i)) = (Go.Value.int Go.IntKind.i64 (i))) ∧
 (((Go.Value.slice (Option.some (Go.Addr.mk 1003 0 Option.none)) 1 1) = (Go.Value.slice (Option.some (Go.Addr.mk 1003 0 Option.none)) 1 1)) ∧
 True))))) ∧
 (∃ r1 : Int,
 ((Says witC 0 [(D.val (Go.Value.int Go.IntKind.i64 (-(99999 + 1) : Int))), (D.val (Go.Value.int Go.IntKind.i64 (100000 : Int))), (D.val (Go.Value.int Go.IntKind.i64 (22 : Int))), (D.sl 1 1 [(Go.Value.int Go.IntKind.i64 (n2))])] [(D.val (Go.Value.int Go.IntKind.i64 (r1)))]) ∧
 (((∃ n3 : Int,
 ((At [(Go.Value.int Go.IntKind.i64 (Go.IntKind.wrap Go.IntKind.i64 (n1 + x)))] (0 + Int.toNat i * 1) 1 [(Go.Value.int Go.IntKind.i64 (n3))]) ∧
 ((Go.Value.int Go.IntKind.i64 (n3)) = (Go.Value.int Go.IntKind.i64 (n2))))) ∧
 ((bcase (decide (0 ≤ i))
 (bcase (decide (i < (↑1 : Int)))
 ((Go.Value.pointer (Option.some (Go.Addr.mk 1003 (0 + Int.toNat i * 1) Option.none))) = (Go.Value.pointer (Option.some (Go.Addr.mk 1003 (0 + Int.toNat i * 1) Option.none))))
 False)
 False) ∧
 (((Go.Value.int Go.IntKind.i64 (i)) = (Go.Value.int Go.IntKind.i64 (i))) ∧
 (((Go.Value.slice (Option.some (Go.Addr.mk 1003 0 Option.none)) 1 1) = (Go.Value.slice (Option.some (Go.Addr.mk 1003 0 Option.none)) 1 1)) ∧
 True)))) ∧
 (True ∧
 (bcase (r1 != 0)
 (k [D.nil, (D.val (Go.Value.int Go.IntKind.i64 (r1)))])
 (bcase (decide (i ≥ a))
 (bcase (decide (0 ≤ Go.IntKind.wrap Go.IntKind.i64 (i - a)))
 (bcase (decide (Go.IntKind.wrap Go.IntKind.i64 (i - a) < (↑1 : Int)))
 (∃ n3 : Int,
 ((At [(Go.Value.int Go.IntKind.i64 (Go.IntKind.wrap Go.IntKind.i64 (n1 + x)))] (0 + Int.toNat (Go.IntKind.wrap Go.IntKind.i64 (i - a)) * 1) 1 [(Go.Value.int Go.IntKind.i64 (n3))]) ∧
 (((∃ n4 : Int,
 ((At [(Go.Value.int Go.IntKind.i64 (Go.IntKind.wrap Go.IntKind.i64 (n1 + x)))] (0 + Int.toNat (Go.IntKind.wrap Go.IntKind.i64 (i - a)) * 1) 1 [(Go.Value.int Go.IntKind.i64 (n4))]) ∧
 ((Go.Value.int Go.IntKind.i64 (n4)) = (Go.Value.int Go.IntKind.i64 (n3))))) ∧
 ((bcase (decide (0 ≤ Go.IntKind.wrap Go.IntKind.i64 (i - a)))
 (bcase (decide (Go.IntKind.wrap Go.IntKind.i64 (i - a) < (↑1 : Int)))
 ((Go.Value.pointer (Option.some (Go.Addr.mk 1003 (0 + Int.toNat (Go.IntKind.wrap Go.IntKind.i64 (i - a)) * 1) Option.none))) = (Go.Value.pointer (Option.some (Go.Addr.mk 1003 (0 + Int.toNat (Go.IntKind.wrap Go.IntKind.i64 (i - a)) * 1) Option.none))))
 False)
 False) ∧
 (((Go.Value.int Go.IntKind.i64 (Go.IntKind.wrap Go.IntKind.i64 (i - a))) = (Go.Value.int Go.IntKind.i64 (Go.IntKind.wrap Go.IntKind.i64 (i - a)))) ∧
 (((Go.Value.int Go.IntKind.i64 (a)) = (Go.Value.int Go.IntKind.i64 (a))) ∧
 (((Go.Value.pointer (Option.some (Go.Addr.mk 1000 0 Option.none))) = (Go.Value.pointer (Option.some (Go.Addr.mk 1000 0 Option.none)))) ∧
 (((Go.Value.pointer (Option.some (Go.Addr.mk 1000 0 Option.none))) = (Go.Value.pointer (Option.some (Go.Addr.mk 1000 0 Option.none)))) ∧
 (((Go.Value.int Go.IntKind.i64 (i)) = (Go.Value.int Go.IntKind.i64 (i))) ∧
 (((Go.Value.slice (Option.some (Go.Addr.mk 1003 0 Option.none)) 1 1) = (Go.Value.slice (Option.some (Go.Addr.mk 1003 0 Option.none)) 1 1)) ∧
 (((Go.Value.agg [(Go.Value.int Go.IntKind.i64 (a)), (Go.Value.int Go.IntKind.i64 (b)), (Go.Value.int Go.IntKind.i64 (c)), (Go.Value.int Go.IntKind.i64 (d))].toArray) = (Go.Value.agg [(Go.Value.int Go.IntKind.i64 (a)), (Go.Value.int Go.IntKind.i64 (b)), (Go.Value.int Go.IntKind.i64 (c)), (Go.Value.int Go.IntKind.i64 (d))].toArray)) ∧
 (((Go.Value.int Go.IntKind.i64 (x)) = (Go.Value.int Go.IntKind.i64 (x))) ∧
 True)))))))))) ∧
 (∃ n4 : Int,
 ((Says C 36 [(D.agg [(D.val (Go.Value.int Go.IntKind.i64 (a))), (D.val (Go.Value.int Go.IntKind.i64 (b))), (D.val (Go.Value.int Go.IntKind.i64 (c))), (D.val (Go.Value.int Go.IntKind.i64 (d)))]), (D.val (Go.Value.int Go.IntKind.i64 (n3)))] [(D.val (Go.Value.int Go.IntKind.i64 (n4)))]) ∧
 ((((Go.Value.int Go.IntKind.i64 (Go.IntKind.wrap Go.IntKind.i64 (x - n4))) = (Go.Value.int Go.IntKind.i64 (Go.IntKind.wrap Go.IntKind.i64 (x - n4)))) ∧
 ((bcase (decide (0 ≤ Go.IntKind.wrap Go.IntKind.i64 (i - a)))
 (bcase (decide (Go.IntKind.wrap Go.IntKind.i64 (i - a) < (↑1 : Int)))
 ((Go.Value.pointer (Option.some (Go.Addr.mk 1003 (0 + Int.toNat (Go.IntKind.wrap Go.IntKind.i64 (i - a)) * 1) Option.none))) = (Go.Value.pointer (Option.some (Go.Addr.mk 1003 (0 + Int.toNat (Go.IntKind.wrap Go.IntKind.i64 (i - a)) * 1) Option.none))))
 False)
 False) ∧
 (((Go.Value.int Go.IntKind.i64 (Go.IntKind.wrap Go.IntKind.i64 (i - a))) = (Go.Value.int Go.IntKind.i64 (Go.IntKind.wrap Go.IntKind.i64 (i - a)))) ∧
 (((Go.Value.int Go.IntKind.i64 (a)) = (Go.Value.int Go.IntKind.i64 (a))) ∧
 (((Go.Value.pointer (Option.some (Go.Addr.mk 1000 0 Option.none))) = (Go.Value.pointer (Option.some (Go.Addr.mk 1000 0 Option.none)))) ∧
 (((Go.Value.pointer (Option.some (Go.Addr.mk 1000 0 Option.none))) = (Go.Value.pointer (Option.some (Go.Addr.mk 1000 0 Option.none)))) ∧
 (((Go.Value.int Go.IntKind.i64 (i)) = (Go.Value.int Go.IntKind.i64 (i))) ∧
 (((Go.Value.slice (Option.some (Go.Addr.mk 1003 0 Option.none)) 1 1) = (Go.Value.slice (Option.some (Go.Addr.mk 1003 0 Option.none)) 1 1)) ∧
 (((Go.Value.int Go.IntKind.i64 (x)) = (Go.Value.int Go.IntKind.i64 (x))) ∧
 True))))))))) ∧
 (True ∧
 (B [(Prod.mk 2 (Go.Value.pointer (Option.some (Go.Addr.mk 1000 0 Option.none)))), (Prod.mk 6 (Go.Value.pointer (Option.some (Go.Addr.mk 1001 0 Option.none)))), (Prod.mk 7 (Go.Value.slice (Option.some (Go.Addr.mk 1002 0 Option.none)) 1 1)), (Prod.mk 8 (Go.Value.int Go.IntKind.i64 (Go.IntKind.wrap Go.IntKind.i64 (x - n4)))), (Prod.mk 13 (Go.Value.slice (Option.some (Go.Addr.mk 500 0 Option.none)) (n) (cap))), (Prod.mk 14 (Go.Value.int Go.IntKind.i64 ((↑n : Int)))), (Prod.mk 15 (Go.Value.int Go.IntKind.i64 (Go.IntKind.wrap Go.IntKind.i64 (i + 1))))] [(Prod.mk 1000 (AObj.cells [(Go.Value.int Go.IntKind.i64 (a)), (Go.Value.int Go.IntKind.i64 (b)), (Go.Value.int Go.IntKind.i64 (c)), (Go.Value.int Go.IntKind.i64 (d))] 71 false 1)), (Prod.mk 1001 (AObj.cells [(Go.Value.int Go.IntKind.i64 (-(99999 + 1) : Int)), (Go.Value.int Go.IntKind.i64 (100000 : Int))] 64 false 2)), (Prod.mk 1002 (AObj.sym [(Go.Value.int Go.IntKind.i64 (Go.IntKind.wrap Go.IntKind.i64 (n1 + x)))] true 1)), (Prod.mk 500 (AObj.sym (l) false 1))]))))))))
 False)
 False)
 (B [(Prod.mk 2 (Go.Value.pointer (Option.some (Go.Addr.mk 1000 0 Option.none)))), (Prod.mk 6 (Go.Value.pointer (Option.some (Go.Addr.mk 1001 0 Option.none)))), (Prod.mk 7 (Go.Value.slice (Option.some (Go.Addr.mk 1002 0 Option.none)) 1 1)), (Prod.mk 8 (Go.Value.int Go.IntKind.i64 (x))), (Prod.mk 13 (Go.Value.slice (Option.some (Go.Addr.mk 500 0 Option.none)) (n) (cap))), (Prod.mk 14 (Go.Value.int Go.IntKind.i64 ((↑n : Int)))), (Prod.mk 15 (Go.Value.int Go.IntKind.i64 (Go.IntKind.wrap Go.IntKind.i64 (i + 1))))] [(Prod.mk 1000 (AObj.cells [(Go.Value.int Go.IntKind.i64 (a)), (Go.Value.int Go.IntKind.i64 (b)), (Go.Value.int Go.IntKind.i64 (c)), (Go.Value.int Go.IntKind.i64 (d))] 71 false 1)), (Prod.mk 1001 (AObj.cells [(Go.Value.int Go.IntKind.i64 (-(99999 + 1) : Int)), (Go.Value.int Go.IntKind.i64 (100000 : Int))] 64 false 2)), (Prod.mk 1002 (AObj.sym [(Go.Value.int Go.IntKind.i64 (Go.IntKind.wrap Go.IntKind.i64 (n1 + x)))] true 1)), (Prod.mk 500 (AObj.sym (l) false 1))])))))))))))
 False)
 False)))
 False)
 False)
 (X 0 [(Prod.mk 7 (Go.Value.slice Option.none 0 0))] [])) := by kernel_rfl
def rOu (C : Ct) (L : AtLoop) (a b c d x : Int) (n cap : Nat) (l : List Value) (m mc : Nat) (vs : List Value) (i : Int) (B : Bx) (X : Xx) (k : List D → Prop) : Prop := wpRound Try.prog (hG C) L 34 0 (sOu (.slice (some ⟨1002, 0, none⟩) m mc) x n cap i) [oM a b c d, oL, (1002, .sym vs true 1), Q500 l] B X (dataK k)
theorem rOu_text (C : Ct) (L : AtLoop) (a : Int) (b : Int) (c : Int) (d : Int) (x : Int) (n : Nat) (cap : Nat) (l : List Go.Value) (m : Nat) (mc : Nat) (vs : List Go.Value) (i : Int) (B : Bx) (X : Xx) (k : List D → Prop) : rOu C L a b c d x n cap l m mc vs i B X k =
 (bcase (decide (i < (↑n : Int)))
 (bcase (decide (0 ≤ i))
 (bcase (decide (i < (↑n : Int)))
 (∃ n1 : Int,
 ((At (l) (0 + Int.toNat i * 1) 1 [(Go.Value.int Go.IntKind.i64 (n1))]) ∧
 (bcase (decide (mc < m + 1))
 (bcase (decide ((2 * (m + 1) + 768) * 8 ≤ 281474976710656))
 (bcase (decide (m + 1 ≤ 1099511627776))
 (bcase (decide (0 + m * 1 ≤ List.length vs))
 (bcase (decide (0 + mc * 1 = List.length vs))
 (bcase (decide (0 ≤ i))
 (bcase (decide (i < (↑(m + 1) : Int)))
 (∃ n2 : Int,
 ((At ((List.take (m * 1) (List.drop 0 vs)) ++ [(Go.Value.int Go.IntKind.i64 (Go.IntKind.wrap Go.IntKind.i64 (n1 + x)))]) (0 + Int.toNat i * 1) 1 [(Go.Value.int Go.IntKind.i64 (n2))]) ∧
 (((((Go.Value.slice (Option.some (Go.Addr.mk 1005 0 Option.none)) 1 1) = (Go.Value.slice (Option.some (Go.Addr.mk 1005 0 Option.none)) 1 1)) ∧
 ((Option.some (AObj.cells [(Go.Value.int Go.IntKind.i64 (n2))] 3 false 1)) = (Option.some (AObj.cells [(Go.Value.int Go.IntKind.i64 (n2))] 3 false 1)))) ∧
 ((∃ n3 : Int,
 ((At ((List.take (m * 1) (List.drop 0 vs)) ++ [(Go.Value.int Go.IntKind.i64 (Go.IntKind.wrap Go.IntKind.i64 (n1 + x)))]) (0 + Int.toNat i * 1) 1 [(Go.Value.int Go.IntKind.i64 (n3))]) ∧
 ((Go.Value.int Go.IntKind.i64 (n3)) = (Go.Value.int Go.IntKind.i64 (n2))))) ∧
 ((bcase (decide (0 ≤ i))
 (bcase (decide (i < (↑(m + 1) : Int)))
 ((Go.Value.pointer (Option.some (Go.Addr.mk 1004 (0 + Int.toNat i * 1) Option.none))) = (Go.Value.pointer (Option.some (Go.Addr.mk 1004 (0 + Int.toNat i * 1) Option.none))))
 False)
 False) ∧
 (((Go.Value.int Go.IntKind.i64 (i)) = (Go.Value.int Go.IntKind.i64 (i))) ∧
 (((Go.Value.slice (Option.some (Go.Addr.mk 1004 0 Option.none)) (m + 1) (m + 1)) = (Go.Value.slice (Option.some (Go.Addr.mk 1004 0 Option.none)) (m + 1) (m + 1))) ∧
 (((Go.Value.agg [(Go.Value.int Go.IntKind.i64 (-(99999 + 1) : Int)), (Go.Value.int Go.IntKind.i64 (100000 : Int))].toArray) = (Go.Value.agg [(Go.Value.int Go.IntKind.i64 (-(99999 + 1) : Int)), (Go.Value.int Go.IntKind.i64 (100000 : Int))].toArray)) ∧
 True)))))) ∧
 (((((Go.Value.slice (Option.some (Go.Addr.mk 1005 0 Option.none)) 1 1) = (Go.Value.slice (Option.some (Go.Addr.mk 1005 0 Option.none)) 1 1)) ∧
 ((Option.some (AObj.cells [(Go.Value.int Go.IntKind.i64 (n2))] 3 false 1)) = (Option.some (AObj.cells [(Go.Value.int Go.IntKind.i64 (n2))] 3 false 1)))) ∧
 ((∃ n3 : Int,
 ((At ((List.take (m * 1) (List.drop 0 vs)) ++ [(Go.Value.int Go.IntKind.i64 (Go.IntKind.wrap Go.IntKind.i64 (n1 + x)))]) (0 + Int.toNat i * 1) 1 [(Go.Value.int Go.IntKind.i64 (n3))]) ∧
 ((Go.Value.int Go.IntKind.i64 (n3)) = (Go.Value.int Go.IntKind.i64 (n2))))) ∧
 ((bcase (decide (0 ≤ i))
 (bcase (decide (i < (↑(m + 1) : Int)))
 ((Go.Value.pointer (Option.some (Go.Addr.mk 1004 (0 + Int.toNat i * 1) Option.none))) = (Go.Value.pointer (Option.some (Go.Addr.mk 1004 (0 + Int.toNat i * 1) Option.none))))
 False)
 False) ∧
 (((Go.Value.int Go.IntKind.i64 (i)) = (Go.Value.int Go.IntKind.i64 (i))) ∧
 (((Go.Value.slice (Option.some (Go.Addr.mk 1004 0 Option.none)) (m + 1) (m + 1)) = (Go.Value.slice (Option.some (Go.Addr.mk 1004 0 Option.none)) (m + 1) (m + 1))) ∧
 True))))) ∧
 (∃ r1 : Int,
 ((Says witC 0 [(D.val (Go.Value.int Go.IntKind.i64 (-(99999 + 1) : Int))), (D.val (Go.Value.int Go.IntKind.i64 (100000 : Int))), (D.val (Go.Value.int Go.IntKind.i64 (22 : Int))), (D.sl 1 1 [(Go.Value.int Go.IntKind.i64 (n2))])] [(D.val (Go.Value.int Go.IntKind.i64 (r1)))]) ∧
 (((∃ n3 : Int,
 ((At ((List.take (m * 1) (List.drop 0 vs)) ++ [(Go.Value.int Go.IntKind.i64 (Go.IntKind.wrap Go.IntKind.i64 (n1 + x)))]) (0 + Int.toNat i * 1) 1 [(Go.Value.int Go.IntKind.i64 (n3))]) ∧
 ((Go.Value.int Go.IntKind.i64 (n3)) = (Go.Value.int Go.IntKind.i64 (n2))))) ∧
 ((bcase (decide (0 ≤ i))
 (bcase (decide (i < (↑(m + 1) : Int)))
 ((Go.Value.pointer (Option.some (Go.Addr.mk 1004 (0 + Int.toNat i * 1) Option.none))) = (Go.Value.pointer (Option.some (Go.Addr.mk 1004 (0 + Int.toNat i * 1) Option.none))))
 False)
 False) ∧
 (((Go.Value.int Go.IntKind.i64 (i)) = (Go.Value.int Go.IntKind.i64 (i))) ∧
 (((Go.Value.slice (Option.some (Go.Addr.mk 1004 0 Option.none)) (m + 1) (m + 1)) = (Go.Value.slice (Option.some (Go.Addr.mk 1004 0 Option.none)) (m + 1) (m + 1))) ∧
 True)))) ∧
 (True ∧
 (bcase (r1 != 0)
 (k [D.nil, (D.val (Go.Value.int Go.IntKind.i64 (r1)))])
 (bcase (decide (i ≥ a))
 (bcase (decide (0 ≤ Go.IntKind.wrap Go.IntKind.i64 (i - a)))
 (bcase (decide (Go.IntKind.wrap Go.IntKind.i64 (i - a) < (↑(m + 1) : Int)))
 (∃ n3 : Int,
 ((At ((List.take (m * 1) (List.drop 0 vs)) ++ [(Go.Value.int Go.IntKind.i64 (Go.IntKind.wrap Go.IntKind.i64 (n1 + x)))]) (0 + Int.toNat (Go.IntKind.wrap Go.IntKind.i64 (i - a)) * 1) 1 [(Go.Value.int Go.IntKind.i64 (n3))]) ∧
 (((∃ n4 : Int,
 ((At ((List.take (m * 1) (List.drop 0 vs)) ++ [(Go.Value.int Go.IntKind.i64 (Go.IntKind.wrap Go.IntKind.i64 (n1 + x)))]) (0 + Int.toNat (Go.IntKind.wrap Go.IntKind.i64 (i - a)) * 1) 1 [(Go.Value.int Go.IntKind.i64 (n4))]) ∧
 ((Go.Value.int Go.IntKind.i64 (n4)) = (Go.Value.int Go.IntKind.i64 (n3))))) ∧
 ((bcase (decide (0 ≤ Go.IntKind.wrap Go.IntKind.i64 (i - a)))
 (bcase (decide (Go.IntKind.wrap Go.IntKind.i64 (i - a) < (↑(m + 1) : Int)))
 ((Go.Value.pointer (Option.some (Go.Addr.mk 1004 (0 + Int.toNat (Go.IntKind.wrap Go.IntKind.i64 (i - a)) * 1) Option.none))) = (Go.Value.pointer (Option.some (Go.Addr.mk 1004 (0 + Int.toNat (Go.IntKind.wrap Go.IntKind.i64 (i - a)) * 1) Option.none))))
 False)
 False) ∧
 (((Go.Value.int Go.IntKind.i64 (Go.IntKind.wrap Go.IntKind.i64 (i - a))) = (Go.Value.int Go.IntKind.i64 (Go.IntKind.wrap Go.IntKind.i64 (i - a)))) ∧
 (((Go.Value.int Go.IntKind.i64 (a)) = (Go.Value.int Go.IntKind.i64 (a))) ∧
 (((Go.Value.pointer (Option.some (Go.Addr.mk 1000 0 Option.none))) = (Go.Value.pointer (Option.some (Go.Addr.mk 1000 0 Option.none)))) ∧
 (((Go.Value.pointer (Option.some (Go.Addr.mk 1000 0 Option.none))) = (Go.Value.pointer (Option.some (Go.Addr.mk 1000 0 Option.none)))) ∧
 (((Go.Value.int Go.IntKind.i64 (i)) = (Go.Value.int Go.IntKind.i64 (i))) ∧
 (((Go.Value.slice (Option.some (Go.Addr.mk 1004 0 Option.none)) (m + 1) (m + 1)) = (Go.Value.slice (Option.some (Go.Addr.mk 1004 0 Option.none)) (m + 1) (m + 1))) ∧
 (((Go.Value.agg [(Go.Value.int Go.IntKind.i64 (a)), (Go.Value.int Go.IntKind.i64 (b)), (Go.Value.int Go.IntKind.i64 (c)), (Go.Value.int Go.IntKind.i64 (d))].toArray) = (Go.Value.agg [(Go.Value.int Go.IntKind.i64 (a)), (Go.Value.int Go.IntKind.i64 (b)), (Go.Value.int Go.IntKind.i64 (c)), (Go.Value.int Go.IntKind.i64 (d))].toArray)) ∧
 (((Go.Value.int Go.IntKind.i64 (x)) = (Go.Value.int Go.IntKind.i64 (x))) ∧
 True)))))))))) ∧
 (∃ n4 : Int,
 ((Says C 36 [(D.agg [(D.val (Go.Value.int Go.IntKind.i64 (a))), (D.val (Go.Value.int Go.IntKind.i64 (b))), (D.val (Go.Value.int Go.IntKind.i64 (c))), (D.val (Go.Value.int Go.IntKind.i64 (d)))]), (D.val (Go.Value.int Go.IntKind.i64 (n3)))] [(D.val (Go.Value.int Go.IntKind.i64 (n4)))]) ∧
 ((((Go.Value.int Go.IntKind.i64 (Go.IntKind.wrap Go.IntKind.i64 (x - n4))) = (Go.Value.int Go.IntKind.i64 (Go.IntKind.wrap Go.IntKind.i64 (x - n4)))) ∧
 ((bcase (decide (0 ≤ Go.IntKind.wrap Go.IntKind.i64 (i - a)))
 (bcase (decide (Go.IntKind.wrap Go.IntKind.i64 (i - a) < (↑(m + 1) : Int)))
 ((Go.Value.pointer (Option.some (Go.Addr.mk 1004 (0 + Int.toNat (Go.IntKind.wrap Go.IntKind.i64 (i - a)) * 1) Option.none))) = (Go.Value.pointer (Option.some (Go.Addr.mk 1004 (0 + Int.toNat (Go.IntKind.wrap Go.IntKind.i64 (i - a)) * 1) Option.none))))
 False)
 False) ∧
 (((Go.Value.int Go.IntKind.i64 (Go.IntKind.wrap Go.IntKind.i64 (i - a))) = (Go.Value.int Go.IntKind.i64 (Go.IntKind.wrap Go.IntKind.i64 (i - a)))) ∧
 (((Go.Value.int Go.IntKind.i64 (a)) = (Go.Value.int Go.IntKind.i64 (a))) ∧
 (((Go.Value.pointer (Option.some (Go.Addr.mk 1000 0 Option.none))) = (Go.Value.pointer (Option.some (Go.Addr.mk 1000 0 Option.none)))) ∧
 (((Go.Value.pointer (Option.some (Go.Addr.mk 1000 0 Option.none))) = (Go.Value.pointer (Option.some (Go.Addr.mk 1000 0 Option.none)))) ∧
 (((Go.Value.int Go.IntKind.i64 (i)) = (Go.Value.int Go.IntKind.i64 (i))) ∧
 (((Go.Value.slice (Option.some (Go.Addr.mk 1004 0 Option.none)) (m + 1) (m + 1)) = (Go.Value.slice (Option.some (Go.Addr.mk 1004 0 Option.none)) (m + 1) (m + 1))) ∧
 (((Go.Value.int Go.IntKind.i64 (x)) = (Go.Value.int Go.IntKind.i64 (x))) ∧
 True))))))))) ∧
 (True ∧
 (B [(Prod.mk 2 (Go.Value.pointer (Option.some (Go.Addr.mk 1000 0 Option.none)))), (Prod.mk 6 (Go.Value.pointer (Option.some (Go.Addr.mk 1001 0 Option.none)))), (Prod.mk 7 (Go.Value.slice (Option.some (Go.Addr.mk 1002 0 Option.none)) (m + 1) (m + 1))), (Prod.mk 8 (Go.Value.int Go.IntKind.i64 (Go.IntKind.wrap Go.IntKind.i64 (x - n4)))), (Prod.mk 13 (Go.Value.slice (Option.some (Go.Addr.mk 500 0 Option.none)) (n) (cap))), (Prod.mk 14 (Go.Value.int Go.IntKind.i64 ((↑n : Int)))), (Prod.mk 15 (Go.Value.int Go.IntKind.i64 (Go.IntKind.wrap Go.IntKind.i64 (i + 1))))] [(Prod.mk 1000 (AObj.cells [(Go.Value.int Go.IntKind.i64 (a)), (Go.Value.int Go.IntKind.i64 (b)), (Go.Value.int Go.IntKind.i64 (c)), (Go.Value.int Go.IntKind.i64 (d))] 71 false 1)), (Prod.mk 1001 (AObj.cells [(Go.Value.int Go.IntKind.i64 (-(99999 + 1) : Int)), (Go.Value.int Go.IntKind.i64 (100000 : Int))] 64 false 2)), (Prod.mk 1002 (AObj.sym ((List.take (m * 1) (List.drop 0 vs)) ++ [(Go.Value.int Go.IntKind.i64 (Go.IntKind.wrap Go.IntKind.i64 (n1 + x)))]) true 1)), (Prod.mk 500 (AObj.sym (l) false 1))]))))))))
 False)
 False)
 (B [(Prod.mk 2 (Go.Value.pointer (Option.some (Go.Addr.mk 1000 0 Option.none)))), (Prod.mk 6 (Go.Value.pointer (Option.some (Go.Addr.mk 1001 0 Option.none)))), (Prod.mk 7 (Go.Value.slice (Option.some (Go.Addr.mk 1002 0 Option.none)) (m + 1) (m + 1))), (Prod.mk 8 (Go.Value.int Go.IntKind.i64 (x))), (Prod.mk 13 (Go.Value.slice (Option.some (Go.Addr.mk 500 0 Option.none)) (n) (cap))), (Prod.mk 14 (Go.Value.int Go.IntKind.i64 ((↑n : Int)))), (Prod.mk 15 (Go.Value.int Go.IntKind.i64 (Go.IntKind.wrap Go.IntKind.i64 (i + 1))))] [(Prod.mk 1000 (AObj.cells [(Go.Value.int Go.IntKind.i64 (a)), (Go.Value.int Go.IntKind.i64 (b)), (Go.Value.int Go.IntKind.i64 (c)), (Go.Value.int Go.IntKind.i64 (d))] 71 false 1)), (Prod.mk 1001 (AObj.cells [(Go.Value.int Go.IntKind.i64 (-(99999 + 1) : Int)), (Go.Value.int Go.IntKind.i64 (100000 : Int))] 64 false 2)), (Prod.mk 1002 (AObj.sym ((List.take (m * 1) (List.drop 0 vs)) ++ [(Go.Value.int Go.IntKind.i64 (Go.IntKind.wrap Go.IntKind.i64 (n1 + x)))]) true 1)), (Prod.mk 500 (AObj.sym (l) false 1))])))))))))))
 False)
 False)
 False)
 False)
 False)
 False)
 False)))
 False)
 False)
 (X 0 [(Prod.mk 7 (Go.Value.slice (Option.some (Go.Addr.mk 1000 0 Option.none)) (m) (mc)))] [(Prod.mk 1000 (AObj.sym (vs) true 1))])) := by kernel_rfl
def sRO (l6 : Value) (c : Int) (n cap : Nat) (i : Int) : Slots := [(1, S500 n cap), (2, P1 1000 0), (6, l6), (7, vI c), (8, vI i)]
abbrev oN (a b c d : Int) : Nat × AObj := (1000, .cells [vI a, vI b, vI c, vI d] 32 false 1)
def rRO0 (C : Ct) (L : AtLoop) (a b c d x : Int) (n cap : Nat) (l : List Value) (i : Int) (B : Bx) (X : Xx) (k : List D → Prop) : Prop := wpRound Try.prog (hG C) L 37 0 (sRO (.slice none 0 0) x n cap i) [Q500 l, oN a b c d] B X (dataK k)
theorem rRO0_text (C : Ct) (L : AtLoop) (a : Int) (b : Int) (c : Int) (d : Int) (x : Int) (n : Nat) (cap : Nat) (l : List Go.Value) (i : Int) (B : Bx) (X : Xx) (k : List D → Prop) : rRO0 C L a b c d x n cap l i B X k =
 (bcase (decide (i < (↑n : Int)))
 (bcase (decide (0 ≤ i))
 (bcase (decide (i < (↑n : Int)))
 (∃ n1 : Int,
 ((At (l) (0 + Int.toNat i * 1) 1 [(Go.Value.int Go.IntKind.i64 (n1))]) ∧
 (((Says C 17 [(D.val (Go.Value.int Go.IntKind.i64 (Go.IntKind.wrap Go.IntKind.i64 (n1 + x)))), (D.val (Go.Value.int Go.IntKind.i64 (-(99999 + 1) : Int))), (D.val (Go.Value.int Go.IntKind.i64 (100000 : Int)))] [(D.val (Go.Value.bool true))]) ∧
 (bcase (decide (i ≥ a))
 (bcase (decide (0 ≤ Go.IntKind.wrap Go.IntKind.i64 (i - a)))
 (bcase (decide (Go.IntKind.wrap Go.IntKind.i64 (i - a) < (↑1 : Int)))
 (∃ n2 : Int,
 ((At [(Go.Value.int Go.IntKind.i64 (Go.IntKind.wrap Go.IntKind.i64 (n1 + x)))] (0 + Int.toNat (Go.IntKind.wrap Go.IntKind.i64 (i - a)) * 1) 1 [(Go.Value.int Go.IntKind.i64 (n2))]) ∧
 ((((Go.Value.int Go.IntKind.i64 (d)) = (Go.Value.int Go.IntKind.i64 (d))) ∧
 (((Go.Value.pointer (Option.some (Go.Addr.mk 1000 3 Option.none))) = (Go.Value.pointer (Option.some (Go.Addr.mk 1000 3 Option.none)))) ∧
 (((Go.Value.int Go.IntKind.i64 (n2)) = (Go.Value.int Go.IntKind.i64 (n2))) ∧
 True))) ∧
 (∃ n3 : Int,
 ((Says C 18 [(D.val (Go.Value.int Go.IntKind.i64 (n2)))] [(D.val (Go.Value.int Go.IntKind.i64 (n3)))]) ∧
 (bcase (decide (n3 > d))
 (((bcase (decide (n3 > d))
 ((Go.Value.bool true) = (Go.Value.bool true))
 ((Go.Value.bool false) = (Go.Value.bool true))) ∧
 (((Go.Value.int Go.IntKind.i64 (d)) = (Go.Value.int Go.IntKind.i64 (d))) ∧
 (((Go.Value.pointer (Option.some (Go.Addr.mk 1000 3 Option.none))) = (Go.Value.pointer (Option.some (Go.Addr.mk 1000 3 Option.none)))) ∧
 True))) ∧
 (bcase (c != 0)
 (B [(Prod.mk 1 (Go.Value.slice (Option.some (Go.Addr.mk 500 0 Option.none)) (n) (cap))), (Prod.mk 2 (Go.Value.pointer (Option.some (Go.Addr.mk 1000 0 Option.none)))), (Prod.mk 6 (Go.Value.slice (Option.some (Go.Addr.mk 1001 0 Option.none)) 1 1)), (Prod.mk 7 (Go.Value.int Go.IntKind.i64 (Go.IntKind.wrap Go.IntKind.i64 (x - Go.IntKind.wrap Go.IntKind.i64 (Int.tdiv (Go.IntKind.wrap Go.IntKind.i64 (b * n2)) c))))), (Prod.mk 8 (Go.Value.int Go.IntKind.i64 (Go.IntKind.wrap Go.IntKind.i64 (i + 1))))] [(Prod.mk 500 (AObj.sym (l) false 1)), (Prod.mk 1000 (AObj.cells [(Go.Value.int Go.IntKind.i64 (a)), (Go.Value.int Go.IntKind.i64 (b)), (Go.Value.int Go.IntKind.i64 (c)), (Go.Value.int Go.IntKind.i64 (d))] 32 false 1)), (Prod.mk 1001 (AObj.sym [(Go.Value.int Go.IntKind.i64 (Go.IntKind.wrap Go.IntKind.i64 (n1 + x)))] true 1))])
 False))
 (((bcase (decide (n3 > d))
 ((Go.Value.bool true) = (Go.Value.bool false))
 ((Go.Value.bool false) = (Go.Value.bool false))) ∧
 (((Go.Value.int Go.IntKind.i64 (d)) = (Go.Value.int Go.IntKind.i64 (d))) ∧
 (((Go.Value.pointer (Option.some (Go.Addr.mk 1000 3 Option.none))) = (Go.Value.pointer (Option.some (Go.Addr.mk 1000 3 Option.none)))) ∧
 True))) ∧
 (B [(Prod.mk 1 (Go.Value.slice (Option.some (Go.Addr.mk 500 0 Option.none)) (n) (cap))), (Prod.mk 2 (Go.Value.pointer (Option.some (Go.Addr.mk 1000 0 Option.none)))), (Prod.mk 6 (Go.Value.slice (Option.some (Go.Addr.mk 1001 0 Option.none)) 1 1)), (Prod.mk 7 (Go.Value.int Go.IntKind.i64 (x))), (Prod.mk 8 (Go.Value.int Go.IntKind.i64 (Go.IntKind.wrap Go.IntKind.i64 (i + 1))))] [(Prod.mk 500 (AObj.sym (l) false 1)), (Prod.mk 1000 (AObj.cells [(Go.Value.int Go.IntKind.i64 (a)), (Go.Value.int Go.IntKind.i64 (b)), (Go.Value.int Go.IntKind.i64 (c)), (Go.Value.int Go.IntKind.i64 (d))] 32 false 1)), (Prod.mk 1001 (AObj.sym [(Go.Value.int Go.IntKind.i64 (Go.IntKind.wrap Go.IntKind.i64 (n1 + x)))] true 1))]))))))))
 False)
 False)
 ((((Go.Value.int Go.IntKind.i64 (d)) = (Go.Value.int Go.IntKind.i64 (d))) ∧
 (((Go.Value.pointer (Option.some (Go.Addr.mk 1000 3 Option.none))) = (Go.Value.pointer (Option.some (Go.Addr.mk 1000 3 Option.none)))) ∧
 (((Go.Value.int Go.IntKind.i64 (0 : Int)) = (Go.Value.int Go.IntKind.i64 (0 : Int))) ∧
 True))) ∧
 (∃ n2 : Int,
 ((Says C 18 [(D.val (Go.Value.int Go.IntKind.i64 (0 : Int)))] [(D.val (Go.Value.int Go.IntKind.i64 (n2)))]) ∧
 (bcase (decide (n2 > d))
 (((bcase (decide (n2 > d))
 ((Go.Value.bool true) = (Go.Value.bool true))
 ((Go.Value.bool false) = (Go.Value.bool true))) ∧
 (((Go.Value.int Go.IntKind.i64 (d)) = (Go.Value.int Go.IntKind.i64 (d))) ∧
 (((Go.Value.pointer (Option.some (Go.Addr.mk 1000 3 Option.none))) = (Go.Value.pointer (Option.some (Go.Addr.mk 1000 3 Option.none)))) ∧
 True))) ∧
 (bcase (c != 0)
 (B [(Prod.mk 1 (Go.Value.slice (Option.some (Go.Addr.mk 500 0 Option.none)) (n) (cap))), (Prod.mk 2 (Go.Value.pointer (Option.some (Go.Addr.mk 1000 0 Option.none)))), (Prod.mk 6 (Go.Value.slice (Option.some (Go.Addr.mk 1001 0 Option.none)) 1 1)), (Prod.mk 7 (Go.Value.int Go.IntKind.i64 (Go.IntKind.wrap Go.IntKind.i64 (x - Go.IntKind.wrap Go.IntKind.i64 (Int.tdiv (Go.IntKind.wrap Go.IntKind.i64 (b * 0)) c))))), (Prod.mk 8 (Go.Value.int Go.IntKind.i64 (Go.IntKind.wrap Go.IntKind.i64 (i + 1))))] [(Prod.mk 500 (AObj.sym (l) false 1)), (Prod.mk 1000 (AObj.cells [(Go.Value.int Go.IntKind.i64 (a)), (Go.Value.int Go.IntKind.i64 (b)), (Go.Value.int Go.IntKind.i64 (c)), (Go.Value.int Go.IntKind.i64 (d))] 32 false 1)), (Prod.mk 1001 (AObj.sym [(Go.Value.int Go.IntKind.i64 (Go.IntKind.wrap Go.IntKind.i64 (n1 + x)))] true 1))])
 False))
 (((bcase (decide (n2 > d))
 ((Go.Value.bool true) = (Go.Value.bool false))
 ((Go.Value.bool false) = (Go.Value.bool false))) ∧
 (((Go.Value.int Go.IntKind.i64 (d)) = (Go.Value.int Go.IntKind.i64 (d))) ∧
 (((Go.Value.pointer (Option.some (Go.Addr.mk 1000 3 Option.none))) = (Go.Value.pointer (Option.some (Go.Addr.mk 1000 3 Option.none)))) ∧
 True))) ∧
 (B [(Prod.mk 1 (Go.Value.slice (Option.some (Go.Addr.mk 500 0 Option.none)) (n) (cap))), (Prod.mk 2 (Go.Value.pointer (Option.some (Go.Addr.mk 1000 0 Option.none)))), (Prod.mk 6 (Go.Value.slice (Option.some (Go.Addr.mk 1001 0 Option.none)) 1 1)), (Prod.mk 7 (Go.Value.int Go.IntKind.i64 (x))), (Prod.mk 8 (Go.Value.int Go.IntKind.i64 (Go.IntKind.wrap Go.IntKind.i64 (i + 1))))] [(Prod.mk 500 (AObj.sym (l) false 1)), (Prod.mk 1000 (AObj.cells [(Go.Value.int Go.IntKind.i64 (a)), (Go.Value.int Go.IntKind.i64 (b)), (Go.Value.int Go.IntKind.i64 (c)), (Go.Value.int Go.IntKind.i64 (d))] 32 false 1)), (Prod.mk 1001 (AObj.sym [(Go.Value.int Go.IntKind.i64 (Go.IntKind.wrap Go.IntKind.i64 (n1 + x)))] true 1))])))))))) ∨
 ((Says C 17 [(D.val (Go.Value.int Go.IntKind.i64 (Go.IntKind.wrap Go.IntKind.i64 (n1 + x)))), (D.val (Go.Value.int Go.IntKind.i64 (-(99999 + 1) : Int))), (D.val (Go.Value.int Go.IntKind.i64 (100000 : Int)))] [(D.val (Go.Value.bool false))]) ∧
 (k [D.nil, (D.val (Go.Value.bool false))])))))
 False)
 False)
 (X 0 [(Prod.mk 6 (Go.Value.slice Option.none 0 0))] [])) := by kernel_rfl
def rRO (C : Ct) (L : AtLoop) (a b c d x : Int) (n cap : Nat) (l : List Value) (m mc : Nat) (vs : List Value) (i : Int) (B : Bx) (X : Xx) (k : List D → Prop) : Prop := wpRound Try.prog (hG C) L 37 0 (sRO (.slice (some ⟨1001, 0, none⟩) m mc) x n cap i) [Q500 l, oN a b c d, (1001, .sym vs true 1)] B X (dataK k)
theorem rRO_text (C : Ct) (L : AtLoop) (a : Int) (b : Int) (c : Int) (d : Int) (x : Int) (n : Nat) (cap : Nat) (l : List Go.Value) (m : Nat) (mc : Nat) (vs : List Go.Value) (i : Int) (B : Bx) (X : Xx) (k : List D → Prop) : rRO C L a b c d x n cap l m mc vs i B X k =
 (bcase (decide (i < (↑n : Int)))
 (bcase (decide (0 ≤ i))
 (bcase (decide (i < (↑n : Int)))
 (∃ n1 : Int,
 ((At (l) (0 + Int.toNat i * 1) 1 [(Go.Value.int Go.IntKind.i64 (n1))]) ∧
 (((Says C 17 [(D.val (Go.Value.int Go.IntKind.i64 (Go.IntKind.wrap Go.IntKind.i64 (n1 + x)))), (D.val (Go.Value.int Go.IntKind.i64 (-(99999 + 1) : Int))), (D.val (Go.Value.int Go.IntKind.i64 (100000 : Int)))] [(D.val (Go.Value.bool true))]) ∧
 (bcase (decide (mc < m + 1))
 (bcase (decide ((2 * (m + 1) + 768) * 8 ≤ 281474976710656))
 (bcase (decide (m + 1 ≤ 1099511627776))
 (bcase (decide (0 + m * 1 ≤ List.length vs))
 (bcase (decide (0 + mc * 1 = List.length vs))
 (bcase (decide (i ≥ a))
 (bcase (decide (0 ≤ Go.IntKind.wrap Go.IntKind.i64 (i - a)))
 (bcase (decide (Go.IntKind.wrap Go.IntKind.i64 (i - a) < (↑(m + 1) : Int)))
 (∃ n2 : Int,
 ((At ((List.take (m * 1) (List.drop 0 vs)) ++ [(Go.Value.int Go.IntKind.i64 (Go.IntKind.wrap Go.IntKind.i64 (n1 + x)))]) (0 + Int.toNat (Go.IntKind.wrap Go.IntKind.i64 (i - a)) * 1) 1 [(Go.Value.int Go.IntKind.i64 (n2))]) ∧
 ((((Go.Value.int Go.IntKind.i64 (d)) = (Go.Value.int Go.IntKind.i64 (d))) ∧
 (((Go.Value.pointer (Option.some (Go.Addr.mk 1000 3 Option.none))) = (Go.Value.pointer (Option.some (Go.Addr.mk 1000 3 Option.none)))) ∧
 (((Go.Value.int Go.IntKind.i64 (n2)) = (Go.Value.int Go.IntKind.i64 (n2))) ∧
 True))) ∧
 (∃ n3 : Int,
 ((Says C 18 [(D.val (Go.Value.int Go.IntKind.i64 (n2)))] [(D.val (Go.Value.int Go.IntKind.i64 (n3)))]) ∧
 (bcase (decide (n3 > d))
 (((bcase (decide (n3 > d))
 ((Go.Value.bool true) = (Go.Value.bool true))
 ((Go.Value.bool false) = (Go.Value.bool true))) ∧
 (((Go.Value.int Go.IntKind.i64 (d)) = (Go.Value.int Go.IntKind.i64 (d))) ∧
 (((Go.Value.pointer (Option.some (Go.Addr.mk 1000 3 Option.none))) = (Go.Value.pointer (Option.some (Go.Addr.mk 1000 3 Option.none)))) ∧
 True))) ∧
 (bcase (c != 0)
 (B [(Prod.mk 1 (Go.Value.slice (Option.some (Go.Addr.mk 500 0 Option.none)) (n) (cap))), (Prod.mk 2 (Go.Value.pointer (Option.some (Go.Addr.mk 1000 0 Option.none)))), (Prod.mk 6 (Go.Value.slice (Option.some (Go.Addr.mk 1001 0 Option.none)) (m + 1) (m + 1))), (Prod.mk 7 (Go.Value.int Go.IntKind.i64 (Go.IntKind.wrap Go.IntKind.i64 (x - Go.IntKind.wrap Go.IntKind.i64 (Int.tdiv (Go.IntKind.wrap Go.IntKind.i64 (b * n2)) c))))), (Prod.mk 8 (Go.Value.int Go.IntKind.i64 (Go.IntKind.wrap Go.IntKind.i64 (i + 1))))] [(Prod.mk 500 (AObj.sym (l) false 1)), (Prod.mk 1000 (AObj.cells [(Go.Value.int Go.IntKind.i64 (a)), (Go.Value.int Go.IntKind.i64 (b)), (Go.Value.int Go.IntKind.i64 (c)), (Go.Value.int Go.IntKind.i64 (d))] 32 false 1)), (Prod.mk 1001 (AObj.sym ((List.take (m * 1) (List.drop 0 vs)) ++ [(Go.Value.int Go.IntKind.i64 (Go.IntKind.wrap Go.IntKind.i64 (n1 + x)))]) true 1))])
 False))
 (((bcase (decide (n3 > d))
 ((Go.Value.bool true) = (Go.Value.bool false))
 ((Go.Value.bool false) = (Go.Value.bool false))) ∧
 (((Go.Value.int Go.IntKind.i64 (d)) = (Go.Value.int Go.IntKind.i64 (d))) ∧
 (((Go.Value.pointer (Option.some (Go.Addr.mk 1000 3 Option.none))) = (Go.Value.pointer (Option.some (Go.Addr.mk 1000 3 Option.none)))) ∧
 True))) ∧
 (B [(Prod.mk 1 (Go.Value.slice (Option.some (Go.Addr.mk 500 0 Option.none)) (n) (cap))), (Prod.mk 2 (Go.Value.pointer (Option.some (Go.Addr.mk 1000 0 Option.none)))), (Prod.mk 6 (Go.Value.slice (Option.some (Go.Addr.mk 1001 0 Option.none)) (m + 1) (m + 1))), (Prod.mk 7 (Go.Value.int Go.IntKind.i64 (x))), (Prod.mk 8 (Go.Value.int Go.IntKind.i64 (Go.IntKind.wrap Go.IntKind.i64 (i + 1))))] [(Prod.mk 500 (AObj.sym (l) false 1)), (Prod.mk 1000 (AObj.cells [(Go.Value.int Go.IntKind.i64 (a)), (Go.Value.int Go.IntKind.i64 (b)), (Go.Value.int Go.IntKind.i64 (c)), (Go.Value.int Go.IntKind.i64 (d))] 32 false 1)), (Prod.mk 1001 (AObj.sym ((List.take (m * 1) (List.drop 0 vs)) ++ [(Go.Value.int Go.IntKind.i64 (Go.IntKind.wrap Go.IntKind.i64 (n1 + x)))]) true 1))]))))))))
 False)
 False)
 ((((Go.Value.int Go.IntKind.i64 (d)) = (Go.Value.int Go.IntKind.i64 (d))) ∧
 (((Go.Value.pointer (Option.some (Go.Addr.mk 1000 3 Option.none))) = (Go.Value.pointer (Option.some (Go.Addr.mk 1000 3 Option.none)))) ∧
 (((Go.Value.int Go.IntKind.i64 (0 : Int)) = (Go.Value.int Go.IntKind.i64 (0 : Int))) ∧
 True))) ∧
 (∃ n2 : Int,
 ((Says C 18 [(D.val (Go.Value.int Go.IntKind.i64 (0 : Int)))] [(D.val (Go.Value.int Go.IntKind.i64 (n2)))]) ∧
 (bcase (decide (n2 > d))
 (((bcase (decide (n2 > d))
 ((Go.Value.bool true) = (Go.Value.bool true))
 ((Go.Value.bool false) = (Go.Value.bool true))) ∧
 (((Go.Value.int Go.IntKind.i64 (d)) = (Go.Value.int Go.IntKind.i64 (d))) ∧
 (((Go.Value.pointer (Option.some (Go.Addr.mk 1000 3 Option.none))) = (Go.Value.pointer (Option.some (Go.Addr.mk 1000 3 Option.none)))) ∧
 True))) ∧
 (bcase (c != 0)
 (B [(Prod.mk 1 (Go.Value.slice (Option.some (Go.Addr.mk 500 0 Option.none)) (n) (cap))), (Prod.mk 2 (Go.Value.pointer (Option.some (Go.Addr.mk 1000 0 Option.none)))), (Prod.mk 6 (Go.Value.slice (Option.some (Go.Addr.mk 1001 0 Option.none)) (m + 1) (m + 1))), (Prod.mk 7 (Go.Value.int Go.IntKind.i64 (Go.IntKind.wrap Go.IntKind.i64 (x - Go.IntKind.wrap Go.IntKind.i64 (Int.tdiv (Go.IntKind.wrap Go.IntKind.i64 (b * 0)) c))))), (Prod.mk 8 (Go.Value.int Go.IntKind.i64 (Go.IntKind.wrap Go.IntKind.i64 (i + 1))))] [(Prod.mk 500 (AObj.sym (l) false 1)), (Prod.mk 1000 (AObj.cells [(Go.Value.int Go.IntKind.i64 (a)), (Go.Value.int Go.IntKind.i64 (b)), (Go.Value.int Go.IntKind.i64 (c)), (Go.Value.int Go.IntKind.i64 (d))] 32 false 1)), (Prod.mk 1001 (AObj.sym ((List.take (m * 1) (List.drop 0 vs)) ++ [(Go.Value.int Go.IntKind.i64 (Go.IntKind.wrap Go.IntKind.i64 (n1 + x)))]) true 1))])
 False))
 (((bcase (decide (n2 > d))
 ((Go.Value.bool true) = (Go.Value.bool false))
 ((Go.Value.bool false) = (Go.Value.bool false))) ∧
 (((Go.Value.int Go.IntKind.i64 (d)) = (Go.Value.int Go.IntKind.i64 (d))) ∧
 (((Go.Value.pointer (Option.some (Go.Addr.mk 1000 3 Option.none))) = (Go.Value.pointer (Option.some (Go.Addr.mk 1000 3 Option.none)))) ∧
 True))) ∧
 (B [(Prod.mk 1 (Go.Value.slice (Option.some (Go.Addr.mk 500 0 Option.none)) (n) (cap))), (Prod.mk 2 (Go.Value.pointer (Option.some (Go.Addr.mk 1000 0 Option.none)))), (Prod.mk 6 (Go.Value.slice (Option.some (Go.Addr.mk 1001 0 Option.none)) (m + 1) (m + 1))), (Prod.mk 7 (Go.Value.int Go.IntKind.i64 (x))), (Prod.mk 8 (Go.Value.int Go.IntKind.i64 (Go.IntKind.wrap Go.IntKind.i64 (i + 1))))] [(Prod.mk 500 (AObj.sym (l) false 1)), (Prod.mk 1000 (AObj.cells [(Go.Value.int Go.IntKind.i64 (a)), (Go.Value.int Go.IntKind.i64 (b)), (Go.Value.int Go.IntKind.i64 (c)), (Go.Value.int Go.IntKind.i64 (d))] 32 false 1)), (Prod.mk 1001 (AObj.sym ((List.take (m * 1) (List.drop 0 vs)) ++ [(Go.Value.int Go.IntKind.i64 (Go.IntKind.wrap Go.IntKind.i64 (n1 + x)))]) true 1))])))))))
 False)
 False)
 False)
 False)
 False)) ∨
 ((Says C 17 [(D.val (Go.Value.int Go.IntKind.i64 (Go.IntKind.wrap Go.IntKind.i64 (n1 + x)))), (D.val (Go.Value.int Go.IntKind.i64 (-(99999 + 1) : Int))), (D.val (Go.Value.int Go.IntKind.i64 (100000 : Int)))] [(D.val (Go.Value.bool false))]) ∧
 (k [D.nil, (D.val (Go.Value.bool false))])))))
 False)
 False)
 (X 0 [(Prod.mk 6 (Go.Value.slice (Option.some (Go.Addr.mk 1000 0 Option.none)) (m) (mc)))] [(Prod.mk 1000 (AObj.sym (vs) true 1))])) := by kernel_rfl
def sRM (n cap : Nat) (i : Int) : Slots := [(1, S500 n cap), (2, P1 1000 0), (6, vI i)]
def rRM (C : Ct) (L : AtLoop) (a b c d : Int) (n cap : Nat) (l : List Value) (i : Int) (B : Bx) (X : Xx) (k : List D → Prop) : Prop := wpRound Try.prog (hG C) L 15 0 (sRM n cap i) [Q500 l, oN a b c d] B X (dataK k)
theorem rRM_text (C : Ct) (L : AtLoop) (a : Int) (b : Int) (c : Int) (d : Int) (n : Nat) (cap : Nat) (l : List Go.Value) (i : Int) (B : Bx) (X : Xx) (k : List D → Prop) : rRM C L a b c d n cap l i B X k =
 (bcase (decide (i < (↑n : Int)))
 (bcase (decide (0 ≤ i))
 (bcase (decide (i < (↑n : Int)))
 (∃ n1 : Int,
 ((At (l) (0 + Int.toNat i * 1) 1 [(Go.Value.int Go.IntKind.i64 (n1))]) ∧
 (((Says C 17 [(D.val (Go.Value.int Go.IntKind.i64 (n1))), (D.val (Go.Value.int Go.IntKind.i64 (-(9999 + 1) : Int))), (D.val (Go.Value.int Go.IntKind.i64 (10000 : Int)))] [(D.val (Go.Value.bool true))]) ∧
 (B [(Prod.mk 1 (Go.Value.slice (Option.some (Go.Addr.mk 500 0 Option.none)) (n) (cap))), (Prod.mk 2 (Go.Value.pointer (Option.some (Go.Addr.mk 1000 0 Option.none)))), (Prod.mk 6 (Go.Value.int Go.IntKind.i64 (Go.IntKind.wrap Go.IntKind.i64 (i + 1))))] [(Prod.mk 500 (AObj.sym (l) false 1)), (Prod.mk 1000 (AObj.cells [(Go.Value.int Go.IntKind.i64 (a)), (Go.Value.int Go.IntKind.i64 (b)), (Go.Value.int Go.IntKind.i64 (c)), (Go.Value.int Go.IntKind.i64 (d))] 32 false 1))])) ∨
 ((Says C 17 [(D.val (Go.Value.int Go.IntKind.i64 (n1))), (D.val (Go.Value.int Go.IntKind.i64 (-(9999 + 1) : Int))), (D.val (Go.Value.int Go.IntKind.i64 (10000 : Int)))] [(D.val (Go.Value.bool false))]) ∧
 (k [D.nil, (D.val (Go.Value.int Go.IntKind.i64 (2 : Int)))])))))
 False)
 False)
 (X 0 [(Prod.mk 1 (Go.Value.slice (Option.some (Go.Addr.mk 500 0 Option.none)) (n) (cap))), (Prod.mk 2 (Go.Value.pointer (Option.some (Go.Addr.mk 1000 0 Option.none))))] [(Prod.mk 500 (AObj.sym (l) false 1)), (Prod.mk 1000 (AObj.cells [(Go.Value.int Go.IntKind.i64 (a)), (Go.Value.int Go.IntKind.i64 (b)), (Go.Value.int Go.IntKind.i64 (c)), (Go.Value.int Go.IntKind.i64 (d))] 32 false 1))])) := by kernel_rfl
def nRM (C : Ct) (L : AtLoop) (a b c d : Int) (n cap : Nat) (l : List Value) (k : List D → Prop) : Prop := wpNext Try.prog (hG C) L 15 0 .normal [(1, S500 n cap), (2, P1 1000 0)] [Q500 l, oN a b c d] (dataK k)
theorem nRM_text (C : Ct) (L : AtLoop) (a : Int) (b : Int) (c : Int) (d : Int) (n : Nat) (cap : Nat) (l : List Go.Value) (k : List D → Prop) : nRM C L a b c d n cap l k =
 (bcase (decide (0 + n * 1 ≤ List.length l))
 ((((Says C 37 [(D.agg [(D.val (Go.Value.int Go.IntKind.i64 (a))), (D.val (Go.Value.int Go.IntKind.i64 (b))), (D.val (Go.Value.int Go.IntKind.i64 (c))), (D.val (Go.Value.int Go.IntKind.i64 (d)))]), (D.sl (n) 1 (List.take (n * 1) (List.drop 0 l)))] [D.nil, (D.val (Go.Value.bool true))]) ∧
 (k [D.nil, (D.val (Go.Value.int Go.IntKind.i64 (0 : Int)))])) ∨
 ((Says C 37 [(D.agg [(D.val (Go.Value.int Go.IntKind.i64 (a))), (D.val (Go.Value.int Go.IntKind.i64 (b))), (D.val (Go.Value.int Go.IntKind.i64 (c))), (D.val (Go.Value.int Go.IntKind.i64 (d)))]), (D.sl (n) 1 (List.take (n * 1) (List.drop 0 l)))] [D.nil, (D.val (Go.Value.bool false))]) ∧
 (k [D.nil, (D.val (Go.Value.int Go.IntKind.i64 (22 : Int)))]))) ∨
 (∃ n1 : Nat,
 (∃ cs1 : List Go.Value,
 (((Says C 37 [(D.agg [(D.val (Go.Value.int Go.IntKind.i64 (a))), (D.val (Go.Value.int Go.IntKind.i64 (b))), (D.val (Go.Value.int Go.IntKind.i64 (c))), (D.val (Go.Value.int Go.IntKind.i64 (d)))]), (D.sl (n) 1 (List.take (n * 1) (List.drop 0 l)))] [(D.sl (n1) 1 (cs1)), (D.val (Go.Value.bool true))]) ∧
 ((((n1) = (n1)) ∧
 ((List.length cs1) = (n1 * 1))) ∧
 (k [(D.sl (n1) 1 (cs1)), (D.val (Go.Value.int Go.IntKind.i64 (0 : Int)))]))) ∨
 ((Says C 37 [(D.agg [(D.val (Go.Value.int Go.IntKind.i64 (a))), (D.val (Go.Value.int Go.IntKind.i64 (b))), (D.val (Go.Value.int Go.IntKind.i64 (c))), (D.val (Go.Value.int Go.IntKind.i64 (d)))]), (D.sl (n) 1 (List.take (n * 1) (List.drop 0 l)))] [(D.sl (n1) 1 (cs1)), (D.val (Go.Value.bool false))]) ∧
 (k [D.nil, (D.val (Go.Value.int Go.IntKind.i64 (22 : Int)))]))))))
 False) := by kernel_rfl
def sRA (a : Int) (l41 : Value) (n q t : Int) : Slots := [(2, P1 1000 0), (6, P1 1001 0), (10, vI q), (41, l41), (42, vI n), (43, vI t)]
def rRA0 (C : Ct) (L : AtLoop) (a b c d n q t : Int) (B : Bx) (X : Xx) (k : List D → Prop) : Prop := wpRound Try.prog (hG C) L 12 0 (sRA a (.slice none 0 0) n q t) [oN a b c d, (1001, .cells [vI a, vI b, vI c, vI d] 71 false 4)] B X (dataK k)
theorem rRA0_text (C : Ct) (L : AtLoop) (a : Int) (b : Int) (c : Int) (d : Int) (n : Int) (q : Int) (t : Int) (B : Bx) (X : Xx) (k : List D → Prop) : rRA0 C L a b c d n q t B X k =
 (bcase (decide (t < n))
 False
 (X 0 [] [])) := by kernel_rfl
def rRA (C : Ct) (L : AtLoop) (a b c d : Int) (n : Nat) (q t : Int) (l : List Value) (B : Bx) (X : Xx) (k : List D → Prop) : Prop := wpRound Try.prog (hG C) L 12 0 (sRA a (.slice (some ⟨1002, 0, none⟩) n n) n q t) [oN a b c d, (1001, .cells [vI a, vI b, vI c, vI d] 71 false 4), (1002, .sym l true 1)] B X (dataK k)
theorem rRA_text (C : Ct) (L : AtLoop) (a : Int) (b : Int) (c : Int) (d : Int) (n : Nat) (q : Int) (t : Int) (l : List Go.Value) (B : Bx) (X : Xx) (k : List D → Prop) : rRA C L a b c d n q t l B X k =
 (bcase (decide (t < (↑n : Int)))
 (bcase (decide (0 ≤ t))
 (bcase (decide (t < (↑n : Int)))
 (∃ n1 : Int,
 ((At (l) (0 + Int.toNat t * 1) 1 [(Go.Value.int Go.IntKind.i64 (n1))]) ∧
 (∃ n2 : Int,
 ((Says C 36 [(D.agg [(D.val (Go.Value.int Go.IntKind.i64 (a))), (D.val (Go.Value.int Go.IntKind.i64 (b))), (D.val (Go.Value.int Go.IntKind.i64 (c))), (D.val (Go.Value.int Go.IntKind.i64 (d)))]), (D.val (Go.Value.int Go.IntKind.i64 (n1)))] [(D.val (Go.Value.int Go.IntKind.i64 (n2)))]) ∧
 (bcase (n2 != 0)
 (bcase (decide (0 > a))
 (k [(D.val (Go.Value.int Go.IntKind.i64 (t))), (D.val (Go.Value.int Go.IntKind.i64 (0 : Int)))])
 (B [(Prod.mk 2 (Go.Value.pointer (Option.some (Go.Addr.mk 1000 0 Option.none)))), (Prod.mk 6 (Go.Value.pointer (Option.some (Go.Addr.mk 1001 0 Option.none)))), (Prod.mk 10 (Go.Value.int Go.IntKind.i64 (0 : Int))), (Prod.mk 41 (Go.Value.slice (Option.some (Go.Addr.mk 1002 0 Option.none)) (n) (n))), (Prod.mk 42 (Go.Value.int Go.IntKind.i64 ((↑n : Int)))), (Prod.mk 43 (Go.Value.int Go.IntKind.i64 (Go.IntKind.wrap Go.IntKind.i64 (t + 1))))] [(Prod.mk 1000 (AObj.cells [(Go.Value.int Go.IntKind.i64 (a)), (Go.Value.int Go.IntKind.i64 (b)), (Go.Value.int Go.IntKind.i64 (c)), (Go.Value.int Go.IntKind.i64 (d))] 32 false 1)), (Prod.mk 1001 (AObj.cells [(Go.Value.int Go.IntKind.i64 (a)), (Go.Value.int Go.IntKind.i64 (b)), (Go.Value.int Go.IntKind.i64 (c)), (Go.Value.int Go.IntKind.i64 (d))] 71 false 4)), (Prod.mk 1002 (AObj.sym (l) true 1))]))
 (bcase (decide (Go.IntKind.wrap Go.IntKind.i64 (q + 1) > a))
 (k [(D.val (Go.Value.int Go.IntKind.i64 (t))), (D.val (Go.Value.int Go.IntKind.i64 (0 : Int)))])
 (B [(Prod.mk 2 (Go.Value.pointer (Option.some (Go.Addr.mk 1000 0 Option.none)))), (Prod.mk 6 (Go.Value.pointer (Option.some (Go.Addr.mk 1001 0 Option.none)))), (Prod.mk 10 (Go.Value.int Go.IntKind.i64 (Go.IntKind.wrap Go.IntKind.i64 (q + 1)))), (Prod.mk 41 (Go.Value.slice (Option.some (Go.Addr.mk 1002 0 Option.none)) (n) (n))), (Prod.mk 42 (Go.Value.int Go.IntKind.i64 ((↑n : Int)))), (Prod.mk 43 (Go.Value.int Go.IntKind.i64 (Go.IntKind.wrap Go.IntKind.i64 (t + 1))))] [(Prod.mk 1000 (AObj.cells [(Go.Value.int Go.IntKind.i64 (a)), (Go.Value.int Go.IntKind.i64 (b)), (Go.Value.int Go.IntKind.i64 (c)), (Go.Value.int Go.IntKind.i64 (d))] 32 false 1)), (Prod.mk 1001 (AObj.cells [(Go.Value.int Go.IntKind.i64 (a)), (Go.Value.int Go.IntKind.i64 (b)), (Go.Value.int Go.IntKind.i64 (c)), (Go.Value.int Go.IntKind.i64 (d))] 71 false 4)), (Prod.mk 1002 (AObj.sym (l) true 1))])))))))
 False)
 False)
 (X 0 [] [])) := by kernel_rfl
def nRA (C : Ct) (L : AtLoop) (a b c d : Int) (k : List D → Prop) : Prop := wpNext Try.prog (hG C) L 12 0 .normal [] [] (dataK k)
theorem nRA_text (C : Ct) (L : AtLoop) (a : Int) (b : Int) (c : Int) (d : Int) (k : List D → Prop) : nRA C L a b c d k =
 (k [(D.val (Go.Value.int Go.IntKind.i64 (0 : Int))), (D.val (Go.Value.int Go.IntKind.i64 (21 : Int)))]) := by kernel_rfl
def sRR (l6 : Value) (x t : Int) : Slots := [(1, vI x), (2, P1 1000 0), (6, l6), (7, vI t)]
def rRR0 (C : Ct) (L : AtLoop) (a b c d x t : Int) (B : Bx) (X : Xx) (k : List D → Prop) : Prop := wpRound Try.prog (hG C) L 16 0 (sRR (.slice none 0 0) x t) [oN a b c d] B X (dataK k)
theorem rRR0_text (C : Ct) (L : AtLoop) (a : Int) (b : Int) (c : Int) (d : Int) (x : Int) (t : Int) (B : Bx) (X : Xx) (k : List D → Prop) : rRR0 C L a b c d x t B X k =
 (bcase (decide (t ≤ 500))
 (B [(Prod.mk 1 (Go.Value.int Go.IntKind.i64 (x))), (Prod.mk 2 (Go.Value.pointer (Option.some (Go.Addr.mk 1000 0 Option.none)))), (Prod.mk 6 (Go.Value.slice (Option.some (Go.Addr.mk 1001 0 Option.none)) 1 1)), (Prod.mk 7 (Go.Value.int Go.IntKind.i64 (Go.IntKind.wrap Go.IntKind.i64 (t + 1))))] [(Prod.mk 1000 (AObj.cells [(Go.Value.int Go.IntKind.i64 (a)), (Go.Value.int Go.IntKind.i64 (b)), (Go.Value.int Go.IntKind.i64 (c)), (Go.Value.int Go.IntKind.i64 (d))] 32 false 1)), (Prod.mk 1001 (AObj.sym [(Go.Value.int Go.IntKind.i64 (x))] true 1))])
 (X 0 [(Prod.mk 1 (Go.Value.int Go.IntKind.i64 (x))), (Prod.mk 2 (Go.Value.pointer (Option.some (Go.Addr.mk 1000 0 Option.none)))), (Prod.mk 6 (Go.Value.slice Option.none 0 0))] [(Prod.mk 1000 (AObj.cells [(Go.Value.int Go.IntKind.i64 (a)), (Go.Value.int Go.IntKind.i64 (b)), (Go.Value.int Go.IntKind.i64 (c)), (Go.Value.int Go.IntKind.i64 (d))] 32 false 1))])) := by kernel_rfl
def rRR (C : Ct) (L : AtLoop) (a b c d x t : Int) (m mc : Nat) (vs : List Value) (B : Bx) (X : Xx) (k : List D → Prop) : Prop := wpRound Try.prog (hG C) L 16 0 (sRR (.slice (some ⟨1001, 0, none⟩) m mc) x t) [oN a b c d, (1001, .sym vs true 1)] B X (dataK k)
theorem rRR_text (C : Ct) (L : AtLoop) (a : Int) (b : Int) (c : Int) (d : Int) (x : Int) (t : Int) (m : Nat) (mc : Nat) (vs : List Go.Value) (B : Bx) (X : Xx) (k : List D → Prop) : rRR C L a b c d x t m mc vs B X k =
 (bcase (decide (t ≤ 500))
 (bcase (decide (mc < m + 1))
 (bcase (decide ((2 * (m + 1) + 768) * 8 ≤ 281474976710656))
 (bcase (decide (m + 1 ≤ 1099511627776))
 (bcase (decide (0 + m * 1 ≤ List.length vs))
 (bcase (decide (0 + mc * 1 = List.length vs))
 (B [(Prod.mk 1 (Go.Value.int Go.IntKind.i64 (x))), (Prod.mk 2 (Go.Value.pointer (Option.some (Go.Addr.mk 1000 0 Option.none)))), (Prod.mk 6 (Go.Value.slice (Option.some (Go.Addr.mk 1001 0 Option.none)) (m + 1) (m + 1))), (Prod.mk 7 (Go.Value.int Go.IntKind.i64 (Go.IntKind.wrap Go.IntKind.i64 (t + 1))))] [(Prod.mk 1000 (AObj.cells [(Go.Value.int Go.IntKind.i64 (a)), (Go.Value.int Go.IntKind.i64 (b)), (Go.Value.int Go.IntKind.i64 (c)), (Go.Value.int Go.IntKind.i64 (d))] 32 false 1)), (Prod.mk 1001 (AObj.sym ((List.take (m * 1) (List.drop 0 vs)) ++ [(Go.Value.int Go.IntKind.i64 (x))]) true 1))])
 False)
 False)
 False)
 False)
 False)
 (X 0 [(Prod.mk 1 (Go.Value.int Go.IntKind.i64 (x))), (Prod.mk 2 (Go.Value.pointer (Option.some (Go.Addr.mk 1000 0 Option.none)))), (Prod.mk 6 (Go.Value.slice (Option.some (Go.Addr.mk 1001 0 Option.none)) (m) (mc)))] [(Prod.mk 1000 (AObj.cells [(Go.Value.int Go.IntKind.i64 (a)), (Go.Value.int Go.IntKind.i64 (b)), (Go.Value.int Go.IntKind.i64 (c)), (Go.Value.int Go.IntKind.i64 (d))] 32 false 1)), (Prod.mk 1001 (AObj.sym (vs) true 1))])) := by kernel_rfl
def sIn (n cap m cap2 : Nat) (i : Int) : Slots := [(0, S500 n cap), (1, S501 m cap2), (5, vI i)]
def rIn (C : Ct) (L : AtLoop) (n cap : Nat) (l : List Value) (m cap2 : Nat) (l2 : List Value) (i : Int) (B : Bx) (X : Xx) (k : List D → Prop) : Prop := wpRound Try.prog (hG C) L 10 0 (sIn n cap m cap2 i) [Q500 l, Q501 l2] B X (dataK k)
theorem rIn_text (C : Ct) (L : AtLoop) (n : Nat) (cap : Nat) (l : List Go.Value) (m : Nat) (cap2 : Nat) (l2 : List Go.Value) (i : Int) (B : Bx) (X : Xx) (k : List D → Prop) : rIn C L n cap l m cap2 l2 i B X k =
 (bcase (decide (i < (↑n : Int)))
 (bcase (decide (0 ≤ i))
 (bcase (decide (i < (↑n : Int)))
 (∃ n1 : Int,
 ((At (l) (0 + Int.toNat i * 1) 1 [(Go.Value.int Go.IntKind.i64 (n1))]) ∧
 (bcase (decide (0 ≤ i))
 (bcase (decide (i < (↑m : Int)))
 (∃ n2 : Int,
 ((At (l2) (0 + Int.toNat i * 1) 1 [(Go.Value.int Go.IntKind.i64 (n2))]) ∧
 (bcase (n1 != n2)
 (((bcase (n1 != n2)
 ((Go.Value.bool true) = (Go.Value.bool true))
 ((Go.Value.bool false) = (Go.Value.bool true))) ∧
 ((∃ n3 : Int,
 ((At (l2) (0 + Int.toNat i * 1) 1 [(Go.Value.int Go.IntKind.i64 (n3))]) ∧
 ((Go.Value.int Go.IntKind.i64 (n3)) = (Go.Value.int Go.IntKind.i64 (n2))))) ∧
 ((bcase (decide (0 ≤ i))
 (bcase (decide (i < (↑m : Int)))
 ((Go.Value.pointer (Option.some (Go.Addr.mk 501 (0 + Int.toNat i * 1) Option.none))) = (Go.Value.pointer (Option.some (Go.Addr.mk 501 (0 + Int.toNat i * 1) Option.none))))
 False)
 False) ∧
 (((Go.Value.int Go.IntKind.i64 (i)) = (Go.Value.int Go.IntKind.i64 (i))) ∧
 (((Go.Value.slice (Option.some (Go.Addr.mk 501 0 Option.none)) (m) (cap2)) = (Go.Value.slice (Option.some (Go.Addr.mk 501 0 Option.none)) (m) (cap2))) ∧
 ((∃ n3 : Int,
 ((At (l) (0 + Int.toNat i * 1) 1 [(Go.Value.int Go.IntKind.i64 (n3))]) ∧
 ((Go.Value.int Go.IntKind.i64 (n3)) = (Go.Value.int Go.IntKind.i64 (n1))))) ∧
 ((bcase (decide (0 ≤ i))
 (bcase (decide (i < (↑n : Int)))
 ((Go.Value.pointer (Option.some (Go.Addr.mk 500 (0 + Int.toNat i * 1) Option.none))) = (Go.Value.pointer (Option.some (Go.Addr.mk 500 (0 + Int.toNat i * 1) Option.none))))
 False)
 False) ∧
 (((Go.Value.int Go.IntKind.i64 (i)) = (Go.Value.int Go.IntKind.i64 (i))) ∧
 (((Go.Value.slice (Option.some (Go.Addr.mk 500 0 Option.none)) (n) (cap)) = (Go.Value.slice (Option.some (Go.Addr.mk 500 0 Option.none)) (n) (cap))) ∧
 True))))))))) ∧
 (k [(D.val (Go.Value.bool false))]))
 (((bcase (n1 != n2)
 ((Go.Value.bool true) = (Go.Value.bool false))
 ((Go.Value.bool false) = (Go.Value.bool false))) ∧
 ((∃ n3 : Int,
 ((At (l2) (0 + Int.toNat i * 1) 1 [(Go.Value.int Go.IntKind.i64 (n3))]) ∧
 ((Go.Value.int Go.IntKind.i64 (n3)) = (Go.Value.int Go.IntKind.i64 (n2))))) ∧
 ((bcase (decide (0 ≤ i))
 (bcase (decide (i < (↑m : Int)))
 ((Go.Value.pointer (Option.some (Go.Addr.mk 501 (0 + Int.toNat i * 1) Option.none))) = (Go.Value.pointer (Option.some (Go.Addr.mk 501 (0 + Int.toNat i * 1) Option.none))))
 False)
 False) ∧
 (((Go.Value.int Go.IntKind.i64 (i)) = (Go.Value.int Go.IntKind.i64 (i))) ∧
 (((Go.Value.slice (Option.some (Go.Addr.mk 501 0 Option.none)) (m) (cap2)) = (Go.Value.slice (Option.some (Go.Addr.mk 501 0 Option.none)) (m) (cap2))) ∧
 ((∃ n3 : Int,
 ((At (l) (0 + Int.toNat i * 1) 1 [(Go.Value.int Go.IntKind.i64 (n3))]) ∧
 ((Go.Value.int Go.IntKind.i64 (n3)) = (Go.Value.int Go.IntKind.i64 (n1))))) ∧
 ((bcase (decide (0 ≤ i))
 (bcase (decide (i < (↑n : Int)))
 ((Go.Value.pointer (Option.some (Go.Addr.mk 500 (0 + Int.toNat i * 1) Option.none))) = (Go.Value.pointer (Option.some (Go.Addr.mk 500 (0 + Int.toNat i * 1) Option.none))))
 False)
 False) ∧
 (((Go.Value.int Go.IntKind.i64 (i)) = (Go.Value.int Go.IntKind.i64 (i))) ∧
 (((Go.Value.slice (Option.some (Go.Addr.mk 500 0 Option.none)) (n) (cap)) = (Go.Value.slice (Option.some (Go.Addr.mk 500 0 Option.none)) (n) (cap))) ∧
 True))))))))) ∧
 (B [(Prod.mk 0 (Go.Value.slice (Option.some (Go.Addr.mk 500 0 Option.none)) (n) (cap))), (Prod.mk 1 (Go.Value.slice (Option.some (Go.Addr.mk 501 0 Option.none)) (m) (cap2))), (Prod.mk 5 (Go.Value.int Go.IntKind.i64 (Go.IntKind.wrap Go.IntKind.i64 (i + 1))))] [(Prod.mk 500 (AObj.sym (l) false 1)), (Prod.mk 501 (AObj.sym (l2) false 1))])))))
 False)
 False)))
 False)
 False)
 (X 0 [] [])) := by kernel_rfl
def nIn (C : Ct) (L : AtLoop) (k : List D → Prop) : Prop := wpNext Try.prog (hG C) L 10 0 .normal [] [] (dataK k)
theorem nIn_text (C : Ct) (L : AtLoop) (k : List D → Prop) : nIn C L k =
 (k [(D.val (Go.Value.bool true))]) := by kernel_rfl
def nOu0 (C : Ct) (L : AtLoop) (k : List D → Prop) : Prop := wpNext Try.prog (hG C) L 34 0 .normal [(7, .slice none 0 0)] [] (dataK k)
theorem nOu0_text (C : Ct) (L : AtLoop) (k : List D → Prop) : nOu0 C L k =
 (k [D.nil, (D.val (Go.Value.int Go.IntKind.i64 (0 : Int)))]) := by kernel_rfl
def nOu (C : Ct) (L : AtLoop) (m mc : Nat) (vs : List Value) (k : List D → Prop) : Prop := wpNext Try.prog (hG C) L 34 0 .normal [(7, .slice (some ⟨1000, 0, none⟩) m mc)] [(1000, .sym vs true 1)] (dataK k)
theorem nOu_text (C : Ct) (L : AtLoop) (m : Nat) (mc : Nat) (vs : List Go.Value) (k : List D → Prop) : nOu C L m mc vs k =
 ((((m) = (mc)) ∧
 ((List.length vs) = (m * 1))) ∧
 (k [(D.sl (m) 1 (vs)), (D.val (Go.Value.int Go.IntKind.i64 (0 : Int)))])) := by kernel_rfl
def nRO0 (C : Ct) (L : AtLoop) (k : List D → Prop) : Prop := wpNext Try.prog (hG C) L 37 0 .normal [(6, .slice none 0 0)] [] (dataK k)
theorem nRO0_text (C : Ct) (L : AtLoop) (k : List D → Prop) : nRO0 C L k =
 (k [D.nil, (D.val (Go.Value.bool true))]) := by kernel_rfl
def nRO (C : Ct) (L : AtLoop) (m mc : Nat) (vs : List Value) (k : List D → Prop) : Prop := wpNext Try.prog (hG C) L 37 0 .normal [(6, .slice (some ⟨1000, 0, none⟩) m mc)] [(1000, .sym vs true 1)] (dataK k)
theorem nRO_text (C : Ct) (L : AtLoop) (m : Nat) (mc : Nat) (vs : List Go.Value) (k : List D → Prop) : nRO C L m mc vs k =
 ((((m) = (mc)) ∧
 ((List.length vs) = (m * 1))) ∧
 (k [(D.sl (m) 1 (vs)), (D.val (Go.Value.bool true))])) := by kernel_rfl
def nRR (C : Ct) (L : AtLoop) (a b c d x : Int) (m : Nat) (vs : List Value) (k : List D → Prop) : Prop := wpNext Try.prog (hG C) L 16 0 .normal [(1, vI x), (2, P1 1000 0), (6, .slice (some ⟨1001, 0, none⟩) m m)] [oN a b c d, (1001, .sym vs true 1)] (dataK k)
theorem nRR_text (C : Ct) (L : AtLoop) (a : Int) (b : Int) (c : Int) (d : Int) (x : Int) (m : Nat) (vs : List Go.Value) (k : List D → Prop) : nRR C L a b c d x m vs k =
 (bcase (decide (0 + m * 1 ≤ List.length vs))
 ((((Says C 37 [(D.agg [(D.val (Go.Value.int Go.IntKind.i64 (a))), (D.val (Go.Value.int Go.IntKind.i64 (b))), (D.val (Go.Value.int Go.IntKind.i64 (c))), (D.val (Go.Value.int Go.IntKind.i64 (d)))]), (D.sl (m) 1 (List.take (m * 1) (List.drop 0 vs)))] [D.nil, (D.val (Go.Value.bool true))]) ∧
 (L 2 [(Prod.mk 1 (Go.Value.int Go.IntKind.i64 (x))), (Prod.mk 2 (Go.Value.pointer (Option.some (Go.Addr.mk 1000 0 Option.none)))), (Prod.mk 6 (Go.Value.slice (Option.some (Go.Addr.mk 1001 0 Option.none)) (m) (m))), (Prod.mk 8 (Go.Value.slice Option.none 0 0)), (Prod.mk 10 (Go.Value.int Go.IntKind.i64 (-(0 + 1) : Int)))] [(Prod.mk 1000 (AObj.cells [(Go.Value.int Go.IntKind.i64 (a)), (Go.Value.int Go.IntKind.i64 (b)), (Go.Value.int Go.IntKind.i64 (c)), (Go.Value.int Go.IntKind.i64 (d))] 32 false 1)), (Prod.mk 1001 (AObj.sym (vs) true 1))])) ∨
 ((Says C 37 [(D.agg [(D.val (Go.Value.int Go.IntKind.i64 (a))), (D.val (Go.Value.int Go.IntKind.i64 (b))), (D.val (Go.Value.int Go.IntKind.i64 (c))), (D.val (Go.Value.int Go.IntKind.i64 (d)))]), (D.sl (m) 1 (List.take (m * 1) (List.drop 0 vs)))] [D.nil, (D.val (Go.Value.bool false))]) ∧
 (k [(D.val (Go.Value.int Go.IntKind.i64 (0 : Int))), (D.val (Go.Value.int Go.IntKind.i64 (22 : Int)))]))) ∨
 (∃ n1 : Nat,
 (∃ cs1 : List Go.Value,
 (((Says C 37 [(D.agg [(D.val (Go.Value.int Go.IntKind.i64 (a))), (D.val (Go.Value.int Go.IntKind.i64 (b))), (D.val (Go.Value.int Go.IntKind.i64 (c))), (D.val (Go.Value.int Go.IntKind.i64 (d)))]), (D.sl (m) 1 (List.take (m * 1) (List.drop 0 vs)))] [(D.sl (n1) 1 (cs1)), (D.val (Go.Value.bool true))]) ∧
 (L 2 [(Prod.mk 1 (Go.Value.int Go.IntKind.i64 (x))), (Prod.mk 2 (Go.Value.pointer (Option.some (Go.Addr.mk 1000 0 Option.none)))), (Prod.mk 6 (Go.Value.slice (Option.some (Go.Addr.mk 1001 0 Option.none)) (m) (m))), (Prod.mk 8 (Go.Value.slice (Option.some (Go.Addr.mk 1002 0 Option.none)) (n1) (n1))), (Prod.mk 10 (Go.Value.int Go.IntKind.i64 (Go.IntKind.wrap Go.IntKind.i64 ((↑n1 : Int) - 1))))] [(Prod.mk 1000 (AObj.cells [(Go.Value.int Go.IntKind.i64 (a)), (Go.Value.int Go.IntKind.i64 (b)), (Go.Value.int Go.IntKind.i64 (c)), (Go.Value.int Go.IntKind.i64 (d))] 32 false 1)), (Prod.mk 1001 (AObj.sym (vs) true 1)), (Prod.mk 1002 (AObj.sym (cs1) true 1))])) ∨
 ((Says C 37 [(D.agg [(D.val (Go.Value.int Go.IntKind.i64 (a))), (D.val (Go.Value.int Go.IntKind.i64 (b))), (D.val (Go.Value.int Go.IntKind.i64 (c))), (D.val (Go.Value.int Go.IntKind.i64 (d)))]), (D.sl (m) 1 (List.take (m * 1) (List.drop 0 vs)))] [(D.sl (n1) 1 (cs1)), (D.val (Go.Value.bool false))]) ∧
 (k [(D.val (Go.Value.int Go.IntKind.i64 (0 : Int))), (D.val (Go.Value.int Go.IntKind.i64 (22 : Int)))]))))))
 False) := by kernel_rfl
def fRe (C : Ct) (cap : Nat) (x : Int) (k : List D → Prop) : Prop := wpFn Try.prog (hE C) (fun _ _ _ => False) 12 35 #[S500 1 cap, vI 501] (heapOf [Q500 [vI x]]) (dataK k)
end Go.Proofs.G5a

/- Chapter 5: monitors in data: outputs, rest. -/
namespace Go.Proofs.G5
open Go Go.Abs
/-- the size of a number -/
def szI (y : Int) : Int := if -y > y then -y else y
/-- what is taken from the correction for an output -/
def tk (nu de ba y : Int) : Int := if szI y ≤ ba then 0 else (nu * y).tdiv de
/-- the outputs, none if one is too great -/
def outs (D : Nat) (f : Int → Int) : List Int → Int → List Int → Option (List Int)
  | done, _, [] => some done
  | done, c, d :: r => if -100000 ≤ d + c ∧ d + c ≤ 100000 then outs D f (done ++ [d + c]) (c - if D ≤ done.length then f ((done ++ [d + c]).getD (done.length - D) 0) else 0) r else none
/-- the first tick after which it rests -/
def restGo (D : Int) (f : Int → Int) : Int → Int → List Int → Int × Int
  | _, _, [] => (0, 21)
  | q, t, y :: r => if (if f y ≠ 0 then 0 else q + 1) > D then (t, 0) else restGo D f (if f y ≠ 0 then 0 else q + 1) (t + 1) r
/-! ### a constant disturbance -/
def hist (D : Nat) (f : Int → Int) (d : Int) : Nat → List Int × Int
  | 0 => ([], 0)
  | t + 1 => ((hist D f d t).1 ++ [d + (hist D f d t).2], (hist D f d t).2 - if D ≤ t then f (((hist D f d t).1 ++ [d + (hist D f d t).2]).getD (t - D) 0) else 0)
def Y (D : Nat) (f : Int → Int) (d : Int) (t : Nat) : Int := d + (hist D f d t).2
variable {D : Nat} {f : Int → Int} {d : Int}
theorem hist_eq : ∀ t, (hist D f d t).1 = (List.range t).map (Y D f d)
  | 0 => rfl
  | t + 1 => by
    show (hist D f d t).1 ++ [d + (hist D f d t).2] = _
    rw [hist_eq t, List.range_succ, List.map_append]; rfl
theorem hist_len (t : Nat) : (hist D f d t).1.length = t := by rw [hist_eq]; simp
theorem Y_succ (t : Nat) : Y D f d (t + 1) = Y D f d t - if D ≤ t then f (Y D f d (t - D)) else 0 := by
  show d + ((hist D f d t).2 - if D ≤ t then f (((hist D f d t).1 ++ [d + (hist D f d t).2]).getD (t - D) 0) else 0) = d + (hist D f d t).2 - _
  have e : (hist D f d t).1 ++ [d + (hist D f d t).2] = (List.range (t + 1)).map (Y D f d) := hist_eq (t + 1)
  rw [e]
  have : ((List.range (t + 1)).map (Y D f d)).getD (t - D) 0 = Y D f d (t - D) := by
    rw [List.getD_eq_getElem?_getD, List.getElem?_map, List.getElem?_range (by omega)]; rfl
  rw [this]
  omega
def okY (D : Nat) (f : Int → Int) (d : Int) (t : Nat) : Prop := -100000 ≤ Y D f d t ∧ Y D f d t ≤ 100000
instance (t : Nat) : Decidable (okY D f d t) := by unfold okY; infer_instance
theorem outs_hist : ∀ (k t : Nat), outs D f (hist D f d t).1 (hist D f d t).2 (List.replicate k d) = if ∀ i, i < k → okY D f d (t + i) then some ((List.range (t + k)).map (Y D f d)) else none
  | 0, t => by
    rw [if_pos (fun i hi => absurd hi (by omega))]
    show some _ = _
    rw [hist_eq]; rfl
  | k + 1, t => by
    rw [List.replicate_succ, outs]
    by_cases h : -100000 ≤ d + (hist D f d t).2 ∧ d + (hist D f d t).2 ≤ 100000
    · rw [if_pos h, hist_len]
      have ih := outs_hist k (t + 1)
      rw [show outs D f ((hist D f d t).1 ++ [d + (hist D f d t).2]) ((hist D f d t).2 - if D ≤ t then f (((hist D f d t).1 ++ [d + (hist D f d t).2]).getD (t - D) 0) else 0) (List.replicate k d) = outs D f (hist D f d (t + 1)).1 (hist D f d (t + 1)).2 (List.replicate k d) from rfl, ih]
      have e : (∀ i, i < k → okY D f d (t + 1 + i)) ↔ (∀ i, i < k + 1 → okY D f d (t + i)) := by
        constructor
        · intro hh i hi
          cases i with
          | zero => exact h
          | succ i => have := hh i (by omega); rwa [show t + 1 + i = t + (i + 1) by omega] at this
        · intro hh i hi
          have := hh (i + 1) (by omega)
          rwa [show t + (i + 1) = t + 1 + i by omega] at this
      rw [show t + 1 + k = t + (k + 1) by omega]
      by_cases hc : ∀ i, i < k + 1 → okY D f d (t + i)
      · rw [if_pos hc, if_pos (e.2 hc)]
      · rw [if_neg hc, if_neg (fun x => hc (e.1 x))]
    · rw [if_neg h, if_neg (fun hh => h (hh 0 (by omega)))]
theorem outs_rep (k : Nat) : outs D f [] 0 (List.replicate k d) = if ∀ i, i < k → okY D f d i then some ((List.range k).map (Y D f d)) else none := by
  have := outs_hist (D := D) (f := f) (d := d) k 0
  simpa [hist] using this
/-! ### rest -/
/-- nothing is taken for the last outputs -/
def Qt (D : Nat) (f : Int → Int) (d : Int) (t : Nat) : Prop := ∀ s, s ≤ t → t ≤ s + D → f (Y D f d s) = 0
theorem rest_same {t0 : Nat} (h : Qt D f d t0) : ∀ k, Y D f d (t0 + k) = Y D f d t0 := by
  intro k
  induction k using Nat.strongRecOn with
  | ind k ih =>
    cases k with
    | zero => rfl
    | succ k =>
      rw [show t0 + (k + 1) = (t0 + k) + 1 by omega, Y_succ, ih k (by omega)]
      by_cases hD : D ≤ t0 + k
      · rw [if_pos hD]
        by_cases hk : t0 + k - D ≤ t0
        · rw [h _ hk (by omega)]; omega
        · have e := ih (k - D) (by omega)
          rw [show t0 + k - D = t0 + (k - D) by omega, e, h t0 (by omega) (by omega)]; omega
      · rw [if_neg hD]; omega
theorem rest_first {t0 : Nat} (h : Qt D f d (t0 + 1)) (hn : ¬ Qt D f d t0) : Y D f d t0 ≠ Y D f d (t0 + 1) := by
  have : D ≤ t0 ∧ f (Y D f d (t0 - D)) ≠ 0 := by
    apply Classical.byContradiction
    intro hc
    apply hn
    intro s hs1 hs2
    by_cases he : s + D = t0
    · apply Classical.byContradiction
      intro hf
      exact hc ⟨by omega, by rw [show t0 - D = s by omega]; exact hf⟩
    · exact h s (by omega) (by omega)
  rw [Y_succ, if_pos this.1]
  omega
/-- the count of quiet outputs before a tick -/
def qb (D : Nat) (f : Int → Int) (d : Int) : Nat → Int
  | 0 => D
  | t + 1 => if f (Y D f d t) ≠ 0 then 0 else qb D f d t + 1
theorem qb_nn : ∀ t, 0 ≤ qb D f d t
  | 0 => by unfold qb; omega
  | t + 1 => by
    have := qb_nn t
    unfold qb; split <;> omega
/-- it is at least n if the last n outputs before are quiet -/
theorem qb_ge : ∀ (t n : Nat), n ≤ D + t → ((n : Int) ≤ qb D f d t ↔ ∀ s, s < t → t ≤ s + n → f (Y D f d s) = 0)
  | 0, n, hn => ⟨fun _ s hs => absurd hs (by omega), fun _ => by unfold qb; omega⟩
  | t + 1, n, hn => by
    unfold qb
    cases n with
    | zero =>
      refine ⟨fun _ s h1 h2 => absurd h1 (by omega), fun _ => ?_⟩
      have h0 : ∀ t, 0 ≤ qb D f d t := qb_nn
      have := h0 t
      split <;> omega
    | succ n =>
      have ih := qb_ge t n (by omega)
      by_cases h : f (Y D f d t) = 0
      · rw [if_neg (by simpa using h)]
        constructor
        · intro hq s h1 h2
          by_cases hs : s = t
          · rw [hs]; exact h
          · exact ih.1 (by omega) s (by omega) (by omega)
        · intro hh
          have := ih.2 (fun s h1 h2 => hh s (by omega) (by omega))
          omega
      · rw [if_pos h]
        constructor
        · intro hq; omega
        · intro hh; exact absurd (hh t (by omega) (by omega)) h
theorem qb_quiet (t : Nat) : qb D f d (t + 1) > D ↔ Qt D f d t := by
  have := qb_ge (D := D) (f := f) (d := d) (t + 1) (D + 1) (by omega)
  constructor
  · intro h s h1 h2
    exact this.1 (by omega) s (by omega) (by omega)
  · intro h
    have := this.2 (fun s h1 h2 => h s (by omega) (by omega))
    omega
theorem restGo_at : ∀ (k t : Nat), (∀ i, i < t → ¬ Qt D f d i) →
    (∃ t0, t0 < t + k ∧ Qt D f d t0 ∧ (∀ i, i < t0 → ¬ Qt D f d i) ∧ restGo D f (qb D f d t) t ((List.range' t k).map (Y D f d)) = ((t0 : Int), 0)) ∨
    ((∀ i, i < t + k → ¬ Qt D f d i) ∧ restGo D f (qb D f d t) t ((List.range' t k).map (Y D f d)) = (0, 21))
  | 0, t, h => .inr ⟨by simpa using h, rfl⟩
  | k + 1, t, h => by
    rw [List.range'_succ, List.map_cons, restGo]
    have e : (if f (Y D f d t) ≠ 0 then 0 else qb D f d t + 1) = qb D f d (t + 1) := rfl
    rw [e]
    by_cases hq : Qt D f d t
    · rw [if_pos ((qb_quiet t).2 hq)]
      exact .inl ⟨t, by omega, hq, h, rfl⟩
    · rw [if_neg (fun x => hq ((qb_quiet t).1 x))]
      have ih := restGo_at k (t + 1) (fun i hi => by
        by_cases he : i = t
        · rw [he]; exact hq
        · exact h i (by omega))
      rw [show ((t : Nat) : Int) + 1 = ((t + 1 : Nat) : Int) by omega]
      rw [show t + (k + 1) = t + 1 + k by omega]
      exact ih
theorem rest_cases (k : Nat) :
    (∃ t0, t0 < k ∧ Qt D f d t0 ∧ (∀ i, i < t0 → ¬ Qt D f d i) ∧ restGo D f D 0 ((List.range k).map (Y D f d)) = ((t0 : Int), 0)) ∨
    ((∀ i, i < k → ¬ Qt D f d i) ∧ restGo D f D 0 ((List.range k).map (Y D f d)) = (0, 21)) := by
  have := restGo_at (D := D) (f := f) (d := d) k 0 (fun i hi => absurd hi (by omega))
  rw [← List.range_eq_range'] at this
  have e : qb D f d 0 = (D : Int) := rfl
  rw [e] at this
  simpa using this
/-- the first place from which on all are the same -/
def runAt (l : List Int) : Nat → Nat
  | 0 => 0
  | n + 1 => if l.getD n 0 = l.getD (n + 1) 0 then runAt l n else n + 1
open Classical in
/-- after how many ticks it rests, by the definition -/
noncomputable def restRef (D : Nat) (f : Int → Int) (d : Int) : Int × Int :=
  match outs D f [] 0 (List.replicate 501 d) with
  | none => (0, 22)
  | some out =>
    match outs D f [] 0 (List.replicate (501 + D + 1) d) with
    | none => (0, 21)
    | some more => if ∀ t, runAt out 500 ≤ t → t < 501 + D + 1 → more.getD t 0 = out.getD (runAt out 500) 0 then ((runAt out 500 : Nat), 0) else (0, 21)
/-- after how many ticks it rests -/
def restV (D : Nat) (f : Int → Int) (d : Int) : Int × Int :=
  match outs D f [] 0 (List.replicate 501 d) with
  | none => (0, 22)
  | some out => restGo D f D 0 out
theorem getD_Y (k i : Nat) (h : i < k) : ((List.range k).map (Y D f d)).getD i 0 = Y D f d i := by
  rw [List.getD_eq_getElem?_getD, List.getElem?_map, List.getElem?_range h]; rfl
theorem runAt_le (l : List Int) : ∀ n, runAt l n ≤ n
  | 0 => Nat.le_refl _
  | n + 1 => by unfold runAt; have := runAt_le l n; split <;> omega
theorem runAt_same (l : List Int) : ∀ n i, runAt l n ≤ i → i ≤ n → l.getD i 0 = l.getD n 0
  | 0, i, _, h => by rw [show i = 0 by omega]
  | n + 1, i, h1, h2 => by
    unfold runAt at h1
    split at h1
    · rename_i e
      by_cases hi : i = n + 1
      · rw [hi]
      · rw [runAt_same l n i h1 (by omega), e]
    · rw [show i = n + 1 by omega]
theorem runAt_diff (l : List Int) : ∀ n t, runAt l n = t + 1 → l.getD t 0 ≠ l.getD (t + 1) 0
  | 0, t, h => by unfold runAt at h; omega
  | n + 1, t, h => by
    unfold runAt at h
    split at h
    · exact runAt_diff l n t h
    · rename_i e
      rw [show t = n by omega]; exact e
theorem rest_eq : restRef D f d = restV D f d := by
  unfold restRef restV
  rw [outs_rep, outs_rep]
  by_cases h : ∀ i, i < 501 → okY D f d i
  · rw [if_pos h]
    simp only
    rcases rest_cases (D := D) (f := f) (d := d) 501 with ⟨t0, ht, hq, hm, he⟩ | ⟨hn, he⟩
    · rw [he]
      have hs := rest_same hq
      have hrun : runAt ((List.range 501).map (Y D f d)) 500 = t0 := by
        have hle := runAt_le ((List.range 501).map (Y D f d)) 500
        apply Classical.byContradiction
        intro hne
        by_cases hlt : runAt ((List.range 501).map (Y D f d)) 500 < t0
        · have s1 := runAt_same ((List.range 501).map (Y D f d)) 500 (t0 - 1) (by omega) (by omega)
          have s2 := runAt_same ((List.range 501).map (Y D f d)) 500 t0 (by omega) (by omega)
          rw [getD_Y _ _ (by omega), getD_Y _ _ (by omega)] at s1 s2
          have := rest_first (t0 := t0 - 1) (by rw [show t0 - 1 + 1 = t0 by omega]; exact hq) (hm _ (by omega))
          rw [show t0 - 1 + 1 = t0 by omega] at this
          omega
        · have := runAt_diff ((List.range 501).map (Y D f d)) 500 (runAt ((List.range 501).map (Y D f d)) 500 - 1) (by omega)
          rw [getD_Y _ _ (by omega), getD_Y _ _ (by omega)] at this
          have a1 := hs (runAt ((List.range 501).map (Y D f d)) 500 - 1 - t0)
          have a2 := hs (runAt ((List.range 501).map (Y D f d)) 500 - 1 + 1 - t0)
          rw [show t0 + (runAt ((List.range 501).map (Y D f d)) 500 - 1 - t0) = runAt ((List.range 501).map (Y D f d)) 500 - 1 by omega] at a1
          rw [show t0 + (runAt ((List.range 501).map (Y D f d)) 500 - 1 + 1 - t0) = runAt ((List.range 501).map (Y D f d)) 500 - 1 + 1 by omega] at a2
          omega
      have hok : ∀ i, i < 501 + D + 1 → okY D f d i := by
        intro i hi
        by_cases h5 : i < 501
        · exact h i h5
        · have := hs (i - t0)
          rw [show t0 + (i - t0) = i by omega] at this
          unfold okY; rw [this]; exact h t0 ht
      rw [if_pos hok, hrun]
      simp only
      rw [if_pos]
      intro t h1 h2
      rw [getD_Y _ _ h2, getD_Y _ _ ht]
      have := hs (t - t0)
      rw [show t0 + (t - t0) = t by omega] at this
      exact this
    · rw [he]
      by_cases hok : ∀ i, i < 501 + D + 1 → okY D f d i
      · rw [if_pos hok]
        simp only
        rw [if_neg]
        intro hall
        have hle := runAt_le ((List.range 501).map (Y D f d)) 500
        refine hn (runAt ((List.range 501).map (Y D f d)) 500) (by omega) ?_
        intro s h1 h2
        have b1 := hall (s + D) (by omega) (by omega)
        have b2 := hall (s + D + 1) (by omega) (by omega)
        rw [getD_Y _ _ (by omega)] at b1 b2
        rw [Y_succ, if_pos (by omega), b1, show s + D - D = s by omega] at b2
        omega
      · rw [if_neg hok]
  · rw [if_neg h]
end Go.Proofs.G5

/- Chapter 5: monitors that rest: what is true of them. -/
namespace Go.Proofs.G5
open Go Go.Abs
variable {D : Nat} {f : Int → Int} {d : Int}
/-- nothing is ever taken -/
theorem Y_zero (h : ∀ y, f y = 0) : ∀ t, Y D f d t = d
  | 0 => by show d + 0 = d; omega
  | t + 1 => by rw [Y_succ, Y_zero h t]; split <;> (try rw [h]) <;> omega
theorem tk_zero (de ba y : Int) : tk 0 de ba y = 0 := by
  unfold tk; split
  · rfl
  · rw [Int.zero_mul, Int.zero_tdiv]
/-- if it does not rest, there is a gain -/
theorem rest_err {nu de ba : Int} (hd : -10000 ≤ d ∧ d ≤ 10000) (h : (restV D (tk nu de ba) d).2 ≠ 0) : ((restV D (tk nu de ba) d).2 = 21 ∨ (restV D (tk nu de ba) d).2 = 22) ∧ (restV D (tk nu de ba) d).1 = 0 ∧ nu ≠ 0 := by
  have hz : nu = 0 → (restV D (tk nu de ba) d).2 = 0 := by
    intro h0
    subst h0
    have hy := Y_zero (D := D) (d := d) (tk_zero de ba)
    unfold restV
    rw [outs_rep, if_pos (fun i _ => by unfold okY; rw [hy]; omega)]
    show (restGo _ _ _ _ _).2 = 0
    rcases rest_cases (D := D) (f := tk 0 de ba) (d := d) 501 with ⟨t0, _, _, _, he⟩ | ⟨hn, _⟩
    · rw [he]
    · exact absurd (fun s _ _ => tk_zero de ba _) (hn 0 (by omega))
  refine ⟨?_, ?_, fun h0 => h (hz h0)⟩
  · unfold restV at h ⊢
    rw [outs_rep] at h ⊢
    by_cases hok : ∀ i, i < 501 → okY D (tk nu de ba) d i
    · rw [if_pos hok] at h ⊢
      simp only at h ⊢
      rcases rest_cases (D := D) (f := tk nu de ba) (d := d) 501 with ⟨t0, _, _, _, he⟩ | ⟨_, he⟩
      · rw [he] at h; exact absurd rfl h
      · rw [he]; exact .inl rfl
    · rw [if_neg hok]; exact .inr rfl
  · unfold restV at h ⊢
    rw [outs_rep] at h ⊢
    by_cases hok : ∀ i, i < 501 → okY D (tk nu de ba) d i
    · rw [if_pos hok] at h ⊢
      simp only at h ⊢
      rcases rest_cases (D := D) (f := tk nu de ba) (d := d) 501 with ⟨t0, _, _, _, he⟩ | ⟨_, he⟩
      · rw [he] at h; exact absurd rfl h
      · rw [he]
    · rw [if_neg hok]
/-- if it rests -/
theorem rest_ok (h : (restV D f d).2 = 0) : ∃ t0 : Nat, t0 < 501 ∧ (restV D f d).1 = t0 ∧ (∀ i, i < 501 → okY D f d i) ∧ (∀ t, t0 ≤ t → Y D f d t = Y D f d t0) ∧ (0 < t0 → Y D f d (t0 - 1) ≠ Y D f d t0) ∧ f (Y D f d t0) = 0 := by
  unfold restV at h ⊢
  rw [outs_rep] at h ⊢
  by_cases hok : ∀ i, i < 501 → okY D f d i
  · rw [if_pos hok] at h ⊢
    simp only at h ⊢
    rcases rest_cases (D := D) (f := f) (d := d) 501 with ⟨t0, ht, hq, hm, he⟩ | ⟨_, he⟩
    · rw [he]
      refine ⟨t0, ht, rfl, hok, fun t htt => ?_, fun h0 => ?_, hq t0 (by omega) (by omega)⟩
      · have := rest_same hq (t - t0)
        rwa [show t0 + (t - t0) = t by omega] at this
      · have := rest_first (t0 := t0 - 1) (by rw [show t0 - 1 + 1 = t0 by omega]; exact hq) (hm _ (by omega))
        rwa [show t0 - 1 + 1 = t0 by omega] at this
    · rw [he] at h; exact absurd h (by decide)
  · rw [if_neg hok] at h
    have h : (22 : Int) = 0 := h
    omega
/-- nothing is taken: the output is in the band, or too small -/
theorem tk_none {nu de ba y : Int} (hnu : 0 ≤ nu) (hde : 0 < de) (h : tk nu de ba y = 0) : szI y ≤ ba ∨ nu * szI y < de := by
  unfold tk at h
  split at h
  · rename_i hb; exact .inl hb
  · right
    have hs : ∀ z : Int, 0 ≤ z → z.tdiv de = 0 → z < de := by
      intro z hz h0
      rw [Int.tdiv_eq_ediv_of_nonneg hz] at h0
      have h1 := Int.emod_add_mul_ediv z de
      have h2 := Int.emod_lt_of_pos z hde
      rw [h0, Int.mul_zero] at h1
      omega
    unfold szI
    split
    · rename_i hy
      have e : nu * -y = -(nu * y) := by rw [Int.mul_neg]
      refine hs _ (Int.mul_nonneg hnu (by omega)) ?_
      rw [e, Int.neg_tdiv, h]; rfl
    · rename_i hy
      exact hs _ (Int.mul_nonneg hnu (by omega)) h
end Go.Proofs.G5

/- The evaluator with a table: calls whose outcome on some data is known are not entered. -/
namespace Go.Abs
open Go.RowKit
variable {P : Program} {ρ : Ren} {w0 : Start} {w : World} {H : Heap}

/-! ### Data of values, computed -/
def readCO (H : Heap) : List Value → Option (List D)
  | [] => some []
  | v :: r =>
    match v with
    | .slice none 0 0 => (readCO H r).map (.nil :: ·)
    | .slice (some ⟨i, o, none⟩) len _ =>
      match H.get i with
      | some (.sym cs _ es) => if o + len * es ≤ cs.length then (readCO H r).map (.sl len es ((cs.drop o).take (len * es)) :: ·) else none
      | some (.cells cs _ _ es) => if o + len * es ≤ cs.length then (if ((cs.drop o).take (len * es)).all cellP then (readCO H r).map (.sl len es ((cs.drop o).take (len * es)) :: ·) else none) else none
      | _ => none
    | v => if plain 8 v then (readCO H r).map (.val v :: ·) else none
def readVO (H : Heap) : List Value → Option (List D)
  | [] => some []
  | .agg cs :: r => (readCO H cs.toList).bind fun ds => (readVO H r).map (.agg ds :: ·)
  | v :: r => (readCO H [v]).bind fun ds => (readVO H r).map (ds ++ ·)
theorem readCO_ok : ∀ {l : List Value} {ds : List D}, readCO H l = some ds → ∀ k : List D → Prop, k ds → readCells H l k
  | [], ds, h, k, hk => by
    simp only [readCO, Option.some.injEq] at h; subst h; exact hk
  | v :: r, ds, h, k, hk => by
    unfold readCO at h
    unfold readCells
    split at h
    · obtain ⟨x, hx, rfl⟩ := Option.map_eq_some_iff.1 h
      exact readCO_ok hx _ hk
    · simp only
      split at h
      · rename_i hg
        simp only [hg]
        split at h
        · rename_i hle
          obtain ⟨x, hx, rfl⟩ := Option.map_eq_some_iff.1 h
          exact bcase_intro (fun _ => readCO_ok hx _ hk) (fun hf => absurd hle (of_decide_eq_false hf))
        · cases h
      · rename_i hg
        simp only [hg]
        split at h
        · rename_i hle
          split at h
          · rename_i hall
            obtain ⟨x, hx, rfl⟩ := Option.map_eq_some_iff.1 h
            exact bcase_intro (fun _ => bcase_intro (fun _ => readCO_ok hx _ hk) (fun hf => by rw [hall] at hf; cases hf)) (fun hf => absurd hle (of_decide_eq_false hf))
          · cases h
        · cases h
      · cases h
    · rename_i h1 h2
      split
      · exact absurd rfl h1
      · exact absurd rfl (h2 _ _ _ _)
      · split at h
        · rename_i hp
          obtain ⟨x, hx, rfl⟩ := Option.map_eq_some_iff.1 h
          rw [if_pos hp]
          exact readCO_ok hx _ hk
        · cases h
theorem readVO_ok : ∀ {l : List Value} {ds : List D}, readVO H l = some ds → ∀ k : List D → Prop, k ds → readVals H l k
  | [], ds, h, k, hk => by
    simp only [readVO, Option.some.injEq] at h; subst h; exact hk
  | v :: r, ds, h, k, hk => by
    unfold readVO at h
    unfold readVals
    split at h
    · rename_i e; cases e
    · rename_i e; cases e
      obtain ⟨x, hx, h⟩ := Option.bind_eq_some_iff.1 h
      obtain ⟨y, hy, rfl⟩ := Option.map_eq_some_iff.1 h
      exact readCO_ok hx _ (readVO_ok hy _ hk)
    · rename_i h1 e; cases e
      obtain ⟨x, hx, h⟩ := Option.bind_eq_some_iff.1 h
      obtain ⟨y, hy, rfl⟩ := Option.map_eq_some_iff.1 h
      split
      · rename_i e; cases e
      · rename_i e; cases e; exact absurd rfl (h1 _)
      · rename_i e; cases e
        exact readCO_ok hx _ (readVO_ok hy _ hk)

/-! ### Data laid, computed -/
def layCO : List D → Heap → Option (List Value × Heap)
  | [], H => some ([], H)
  | .nil :: r, H => (layCO r H).map fun x => (.slice none 0 0 :: x.1, x.2)
  | .sl n es cs :: r, H => (layCO r (H.new (.sym cs true es))).map fun x => (.slice (some ⟨H.next, 0, none⟩) n n :: x.1, x.2)
  | .val v :: r, H => match v with
    | .agg _ => none
    | v => (layCO r H).map fun x => (v :: x.1, x.2)
  | .agg _ :: _, _ => none
def layVO : List D → Heap → Option (List Value × Heap)
  | [], H => some ([], H)
  | .agg ds :: r, H => (layCO ds H).bind fun x => (layVO r x.2).map fun y => (.agg x.1.toArray :: y.1, y.2)
  | d :: r, H => (layCO [d] H).bind fun x => match x.1 with
    | [v] => (layVO r x.2).map fun y => (v :: y.1, y.2)
    | _ => none
theorem layCO_ok : ∀ {ds : List D} {H : Heap} {x : List Value × Heap}, layCO ds H = some x → ∀ k : List Value → Heap → Prop, k x.1 x.2 → layC ds H k
  | [], H, x, h, k, hk => by
    simp only [layCO, Option.some.injEq] at h; subst h; exact hk
  | .nil :: r, H, x, h, k, hk => by
    obtain ⟨y, hy, rfl⟩ := Option.map_eq_some_iff.1 h
    exact layCO_ok hy _ hk
  | .sl n es cs :: r, H, x, h, k, hk => by
    obtain ⟨y, hy, rfl⟩ := Option.map_eq_some_iff.1 h
    exact layCO_ok hy _ hk
  | .val v :: r, H, x, h, k, hk => by
    unfold layCO at h
    unfold layC
    split at h
    · cases h
    · rename_i hv
      split
      · exact absurd rfl (hv _)
      · obtain ⟨y, hy, rfl⟩ := Option.map_eq_some_iff.1 h
        exact layCO_ok hy _ hk
  | .agg _ :: _, H, x, h, k, hk => by cases h
theorem layVO_ok : ∀ {ds : List D} {H : Heap} {x : List Value × Heap}, layVO ds H = some x → ∀ k : List Value → Heap → Prop, k x.1 x.2 → layV ds H k
  | [], H, x, h, k, hk => by
    simp only [layVO, Option.some.injEq] at h; subst h; exact hk
  | d :: r, H, x, h, k, hk => by
    unfold layVO at h
    unfold layV
    split at h
    · rename_i e; cases e
    · rename_i e; cases e
      obtain ⟨y, hy, h⟩ := Option.bind_eq_some_iff.1 h
      obtain ⟨z, hz, rfl⟩ := Option.map_eq_some_iff.1 h
      exact layCO_ok hy _ (layVO_ok hz _ hk)
    · rename_i h1 e; cases e
      obtain ⟨y, hy, h⟩ := Option.bind_eq_some_iff.1 h
      split at h
      · rename_i he
        obtain ⟨z, hz, rfl⟩ := Option.map_eq_some_iff.1 h
        split
        · rename_i e; cases e
        · rename_i e; cases e; exact absurd rfl (h1 _)
        · rename_i e; cases e
          refine layCO_ok hy _ ?_
          simp only [he]
          exact layVO_ok hz _ hk
      · cases h

/-! ### Data given, computed -/
def giveCO (H : Heap) : List Nat → List Value → Option (List Nat × List D)
  | used, [] => some (used, [])
  | used, v :: r =>
    match v with
    | .slice none 0 0 => (giveCO H used r).map fun x => (x.1, .nil :: x.2)
    | .slice (some ⟨i, 0, none⟩) len cap =>
      if gbase ≤ i ∧ used.contains i = false then
        match H.get i with
        | some (.sym cs true es) => if len = cap ∧ cs.length = len * es then (giveCO H (i :: used) r).map fun x => (x.1, .sl len es cs :: x.2) else none
        | some (.cells cs _ _ es) => if len = cap ∧ cs.length = len * es then (if cs.all cellP then (giveCO H (i :: used) r).map fun x => (x.1, .sl len es cs :: x.2) else none) else none
        | _ => none
      else none
    | v => if plain 8 v then (giveCO H used r).map fun x => (x.1, .val v :: x.2) else none
def giveVO (H : Heap) : List Nat → List Value → Option (List D)
  | _, [] => some []
  | used, .agg cs :: r => (giveCO H used cs.toList).bind fun x => (giveVO H x.1 r).map (.agg x.2 :: ·)
  | used, v :: r => (giveCO H used [v]).bind fun x => (giveVO H x.1 r).map (x.2 ++ ·)
def giveO (v : Value) (H : Heap) : Option (List D) :=
  match v with
  | .tuple vs => if vs.size = 1 then none else giveVO H [] vs.toList
  | v => giveVO H [] [v]
theorem giveCO_ok : ∀ {l : List Value} {used : List Nat} {x : List Nat × List D}, giveCO H used l = some x → ∀ k : List Nat → List D → Prop, k x.1 x.2 → giveCells H used l k
  | [], used, x, h, k, hk => by
    simp only [giveCO, Option.some.injEq] at h; subst h; exact hk
  | v :: r, used, x, h, k, hk => by
    unfold giveCO at h
    unfold giveCells
    split at h
    · obtain ⟨y, hy, rfl⟩ := Option.map_eq_some_iff.1 h
      exact giveCO_ok hy _ hk
    · simp only
      split at h
      · rename_i hc
        rw [if_pos hc]
        split at h
        · rename_i hg
          simp only [hg]
          split at h
          · rename_i hl
            obtain ⟨y, hy, rfl⟩ := Option.map_eq_some_iff.1 h
            exact ⟨hl, giveCO_ok hy _ hk⟩
          · cases h
        · rename_i hg
          simp only [hg]
          split at h
          · rename_i hl
            split at h
            · rename_i hall
              obtain ⟨y, hy, rfl⟩ := Option.map_eq_some_iff.1 h
              exact ⟨hl, bcase_intro (fun _ => giveCO_ok hy _ hk) (fun hf => by rw [hall] at hf; cases hf)⟩
            · cases h
          · cases h
        · cases h
      · cases h
    · rename_i h1 h2
      split
      · exact absurd rfl h1
      · exact absurd rfl (h2 _ _ _)
      · split at h
        · rename_i hp
          obtain ⟨y, hy, rfl⟩ := Option.map_eq_some_iff.1 h
          rw [if_pos hp]
          exact giveCO_ok hy _ hk
        · cases h
theorem giveVO_ok : ∀ {l : List Value} {used : List Nat} {ds : List D}, giveVO H used l = some ds → ∀ k : List D → Prop, k ds → giveVals H used l k
  | [], used, ds, h, k, hk => by
    simp only [giveVO, Option.some.injEq] at h; subst h; exact hk
  | v :: r, used, ds, h, k, hk => by
    unfold giveVO at h
    unfold giveVals
    split at h
    · rename_i e; cases e
    · rename_i e; cases e
      obtain ⟨x, hx, h⟩ := Option.bind_eq_some_iff.1 h
      obtain ⟨y, hy, rfl⟩ := Option.map_eq_some_iff.1 h
      exact giveCO_ok hx _ (giveVO_ok hy _ hk)
    · rename_i h1 e; cases e
      obtain ⟨x, hx, h⟩ := Option.bind_eq_some_iff.1 h
      obtain ⟨y, hy, rfl⟩ := Option.map_eq_some_iff.1 h
      split
      · rename_i e; cases e
      · rename_i e; cases e; exact absurd rfl (h1 _)
      · rename_i e; cases e
        exact giveCO_ok hx _ (giveVO_ok hy _ hk)
theorem giveO_ok {v : Value} {ds : List D} (h : giveO v H = some ds) : dataK (· = ds) v H := by
  unfold giveO at h
  unfold dataK
  split at h
  · split at h
    · cases h
    · rename_i hs
      simp only [if_neg hs]
      exact giveVO_ok h _ rfl
  · rename_i hn
    split
    · exact absurd rfl (hn _)
    · exact giveVO_ok h _ rfl

/-! ### Data compared -/
def cEq : Value → Value → Bool
  | .int j a, .int k b => j == k && a == b
  | .bool a, .bool b => a == b
  | .string a, .string b => a.data.toList == b.data.toList
  | _, _ => false
def csEq : List Value → List Value → Bool
  | [], [] => true
  | a :: xs, b :: bs => cEq a b && csEq xs bs
  | _, _ => false
def d1Eq : D → D → Bool
  | .nil, .nil => true
  | .val a, .val b => cEq a b
  | .sl n es cs, .sl m fs bs => n == m && es == fs && csEq cs bs
  | _, _ => false
def d2Eq : List D → List D → Bool
  | [], [] => true
  | a :: xs, b :: bs => d1Eq a b && d2Eq xs bs
  | _, _ => false
def dEq : D → D → Bool
  | .agg a, .agg b => d2Eq a b
  | a, b => d1Eq a b
def dsEq : List D → List D → Bool
  | [], [] => true
  | a :: xs, b :: bs => dEq a b && dsEq xs bs
  | _, _ => false
theorem cEq_ok : ∀ {a b : Value}, cEq a b = true → a = b := by
  intro a b h
  unfold cEq at h
  split at h
  · simp only [Bool.and_eq_true, beq_iff_eq] at h; rw [h.1, h.2]
  · rw [eq_of_beq h]
  · rename_i x y
    have e := eq_of_beq h
    obtain ⟨x⟩ := x
    obtain ⟨y⟩ := y
    have : x = y := Array.ext' e
    rw [this]
  · cases h
theorem csEq_ok : ∀ {a b : List Value}, csEq a b = true → a = b
  | [], [], _ => rfl
  | a :: xs, b :: bs, h => by
    simp only [csEq, Bool.and_eq_true] at h
    rw [cEq_ok h.1, csEq_ok h.2]
  | [], _ :: _, h => by cases h
  | _ :: _, [], h => by cases h
theorem d1Eq_ok {a b : D} (h : d1Eq a b = true) : a = b := by
  unfold d1Eq at h
  split at h
  · rfl
  · rw [cEq_ok h]
  · simp only [Bool.and_eq_true, beq_iff_eq] at h
    rw [h.1.1, h.1.2, csEq_ok h.2]
  · cases h
theorem d2Eq_ok : ∀ {a b : List D}, d2Eq a b = true → a = b
  | [], [], _ => rfl
  | a :: xs, b :: bs, h => by
    simp only [d2Eq, Bool.and_eq_true] at h
    rw [d1Eq_ok h.1, d2Eq_ok h.2]
  | [], _ :: _, h => by cases h
  | _ :: _, [], h => by cases h
theorem dEq_ok {a b : D} (h : dEq a b = true) : a = b := by
  unfold dEq at h
  split at h
  · rw [d2Eq_ok h]
  · exact d1Eq_ok h
theorem dsEq_ok : ∀ {a b : List D}, dsEq a b = true → a = b
  | [], [], _ => rfl
  | a :: xs, b :: bs, h => by
    simp only [dsEq, Bool.and_eq_true] at h
    rw [dEq_ok h.1, dsEq_ok h.2]
  | [], _ :: _, h => by cases h
  | _ :: _, [], h => by cases h

/-! ### The evaluator with a table -/
abbrev Tab := FuncId → Option (List D → Option (List D))
/-- (a list of what is known) -/
def tabLook : List (List D × List D) → List D → Option (List D)
  | [], _ => none
  | p :: r, ds => if dsEq p.1 ds then some p.2 else tabLook r ds
theorem tabLook_ok : ∀ {t : List (List D × List D)} {ds rs : List D}, tabLook t ds = some rs → (ds, rs) ∈ t
  | [], _, _, h => by cases h
  | p :: r, ds, rs, h => by
    unfold tabLook at h
    split at h
    · rename_i he
      simp only [Option.some.injEq] at h
      rw [← dsEq_ok he, ← h]
      exact List.mem_cons_self ..
    · exact List.mem_cons_of_mem _ (tabLook_ok h)
def tabCall (t : List D → Option (List D)) (args : Array Value) (H : Heap) : Option (Value × Heap) :=
  (readVO H args.toList).bind fun ds => (t ds).bind fun rs => (layVO rs H).map fun x => (tupleOf x.1, x.2)
def evalT (P : Program) (tab : Tab) : Nat → Self
  | 0 => ⟨fun _ _ _ => none, fun _ _ _ _ => none⟩
  | n + 1 => ⟨fun f args H => match tab f with | none => callBody P (evalT P tab n) f args H | some t => tabCall t args H, fun round c A H => codeA P (evalT P tab n) round c A H⟩
def TabOK (P : Program) (tab : Tab) : Prop := ∀ f t, tab f = some t → ∀ ds rs, t ds = some rs → Con P f ds rs
theorem tabCall_sound {f : FuncId} {t : List D → Option (List D)} (ht : ∀ ds rs, t ds = some rs → Con P f ds rs) {args : Array Value} {v : Value} {H' : Heap} (h : tabCall t args H = some (v, H')) : CallH P f args H (fun u K => u = v ∧ K = H') := by
  obtain ⟨ds, h1, h⟩ := Option.bind_eq_some_iff.1 h
  obtain ⟨rs, h2, h⟩ := Option.bind_eq_some_iff.1 h
  obtain ⟨x, h3, h⟩ := Option.map_eq_some_iff.1 h
  simp only [Prod.mk.injEq] at h
  obtain ⟨rfl, rfl⟩ := h
  refine wpFix_call (C := fun g ds rs => g = f ∧ t ds = some rs ∨ Con P g ds rs) (fun g ds rs hc => ?_) (fix := t) ?_
  · rcases hc with ⟨rfl, hm⟩ | hc
    · exact ht _ _ hm
    · exact hc
  · unfold wpFix
    refine readVO_ok h1 _ ?_
    simp only [h2]
    exact ⟨⟨.inl ⟨rfl, h2⟩⟩, layVO_ok h3 _ ⟨rfl, rfl⟩⟩
theorem evalT_sound {tab : Tab} (htab : TabOK P tab) (hmix : P.follows .mixedOrders = true) : ∀ n, SelfS P w0 (evalT P tab n)
  | 0 => ⟨fun n _ _ h => by simp [evalT] at h, fun n _ _ _ h => by simp [evalT] at h, fun n _ _ _ h => by simp [evalT] at h⟩
  | k + 1 => ⟨fun {ρ H w f args args' v H'} n g ha h => by
      simp only [evalT] at h
      split at h
      · exact callBody_sound (evalT_sound htab hmix k) g n ha h
      · rename_i t ht
        refine (tabCall_sound (htab f t ht) h w0 ρ w args' n g ha).mono ?_
        rintro e w' ⟨u, K, ρ', v', ⟨rfl, rfl⟩, h1, h2, h3, h4⟩
        exact ⟨ρ', v', h1, h2, h3, h4⟩, fun n g rr ra h => codeA_sound (evalT_sound htab hmix k) hmix n _ g rr ra h,
      fun n g rr ra h => loopIn_once (loop_body (evalT_sound htab hmix k) n _ (fun g rr ra h => codeA_sound (evalT_sound htab hmix k) hmix n _ g rr ra h) g rr ra h)⟩
/-- A call of known data is run. -/
def runOK (P : Program) (tab : Tab) (n : Nat) (f : FuncId) (ds rs : List D) (caps : Nat → Nat) : Bool :=
  match (evalT P tab n).call f (layVals caps 500 ds).1.toArray (heapOf (layVals caps 500 ds).2) with
  | some (v, H) => (match giveO v H with | some rs' => dsEq rs' rs | none => false)
  | none => false
theorem con_run {tab : Tab} (htab : TabOK P tab) (hmix : P.follows .mixedOrders = true) {n : Nat} {f : FuncId} {ds rs : List D} (hcount : countV ds ≤ 400) (h : ∀ caps, runOK P tab n f ds rs caps = true) : Con P f ds rs := by
  intro w args hr
  obtain ⟨caps, ρ, hst, g, ha⟩ := lay_gam hr hcount
  have h := h caps
  unfold runOK at h
  split at h
  · rename_i v H hc
    split at h
    · rename_i rs' hg
      have e := dsEq_ok h
      subst e
      refine callsIn_wide.1 (((evalT_sound htab hmix n).call 0 g (by simpa using ha) hc).mono ?_)
      rintro e w' ⟨ρ', v', rfl, hv, g', ext'⟩
      obtain ⟨vs, ds', u, rfl, h1, rfl⟩ := dataK_out g' hv (giveO_ok hg)
      exact ⟨⟨vs, u, rfl, h1⟩, g'.below.below hst⟩
    · cases h
  · cases h
end Go.Abs

/- Chapter 5: what small functions do, in data. -/
namespace Go.Proofs.G5a
open Go Go.Abs Go.Proofs Go.Proofs.G5
set_option maxRecDepth 100000
abbrev C5 : FuncId → List D → List D → Prop := Con Try.prog
theorem preOK : PreOK Try.prog (preG C5) := by
  intro g h he args ats H k hk
  unfold preG at he
  split at he
  · rename_i e
    obtain rfl := Option.some.inj he
    rw [beq_iff_eq] at e
    subst e
    exact wpState_call (fun args bs K hk => wit_ok hk) hk
  · split at he
    · obtain rfl := Option.some.inj he
      exact fixH_ok (fun _ _ _ h => h) _ _ _ _ _ hk
    · split at he
      · obtain rfl := Option.some.inj he
        exact saidH_ok (fun _ _ _ h => h) _ _ _ _ _ hk
      · cases he
theorem hok : HandlerOK Try.prog (hG C5) := handlerX_ok mixed preOK (by decide) 6
theorem hokE : HandlerOK Try.prog (hE C5) := handlerX_ok mixed (fun g h he => by cases he) (by decide) 6
theorem vi_snoc (r : List Int) (z : Int) : vi r ++ [vI z] = vi (r ++ [z]) := by simp [vi]
theorem wit_of1 {lo hi e x r : Int} (h : r = if lo ≤ x ∧ x ≤ hi then 0 else e) : Says witC 0 [dI lo, dI hi, dI e, .sl 1 1 [vI x]] [dI r] := ⟨by
  show r = witE lo hi e [.int .i64 x]
  rw [h]; simp only [witE]
  split <;> split <;> first | rfl | omega⟩
def rngE (lo hi e x : Int) : Int := if lo ≤ x ∧ x ≤ hi then 0 else e
theorem wit_rng {lo hi e x : Int} : Says witC 0 [dI lo, dI hi, dI e, .sl 1 1 [vI x]] [dI (rngE lo hi e x)] := wit_of1 rfl
theorem rngE0 {lo hi e x : Int} (he : e ≠ 0) : rngE lo hi e x = 0 ↔ lo ≤ x ∧ x ≤ hi := by
  unfold rngE; split <;> omega
theorem rngE_no {lo hi e x : Int} (h : ¬ (lo ≤ x ∧ x ≤ hi)) : rngE lo hi e x = e := if_neg h
theorem fst0_rng {lo hi e x : Int} {l : List Int} (he : e ≠ 0) : fst0 (rngE lo hi e x :: l) = if lo ≤ x ∧ x ≤ hi then fst0 l else e := by
  unfold rngE
  rw [fst0]
  by_cases h : lo ≤ x ∧ x ≤ hi
  · rw [if_pos h, if_pos h, if_pos rfl]
  · rw [if_neg h, if_neg h, if_neg he]
theorem ite_and2 {α : Type} {p q : Prop} [Decidable p] [Decidable q] {a b : α} : (if p ∧ q then a else b) = if p then (if q then a else b) else b := by
  by_cases hp : p
  · by_cases hq : q
    · rw [if_pos ⟨hp, hq⟩, if_pos hp, if_pos hq]
    · rw [if_neg (fun h => hq h.2), if_pos hp, if_neg hq]
  · rw [if_neg (fun h => hp h.1), if_neg hp]
/-- the first error of a list of errors -/
theorem conFE (l : List Int) (hlen : l.length < 1000000000) : C5 26 [.sl l.length 1 (vi l)] [dI (fst0 l)] := by
  let inv : Nat × Nat → Prop := fun x => x.1 ≤ l.length ∧ fst0 l = fst0 (l.drop x.1)
  let st : Nat × Nat → Slots × Blocks := fun x => (sFE l.length x.2 x.1, [Q500 (vi l)])
  refine con_of (L := fun _ s b => ∃ x, inv x ∧ st x = (s, b)) hok mixed Try.func26 rfl (by show 1 ≤ 400; omega) rfl (ids := [0]) (by kernel_rfl) rfl (fun caps => ?_) (fun id hid => ?_)
  · show gFE _ _ l.length (caps 500) (vi l) _
    rw [gFE_text]
    exact ⟨(0, caps 500), ⟨by simp, rfl⟩, rfl⟩
  · obtain rfl := List.mem_singleton.1 hid
    refine ⟨Nat × Nat, st, inv, fun x => l.length - x.1, ⟨fun s b h => h, by kernel_rfl, ?_⟩⟩
    rintro ⟨i, cap⟩ ⟨hi, hr⟩
    simp only at hi hr
    show rFE _ _ l.length cap (vi l) i _ _ _
    rw [rFE_text]
    refine bc_dec (fun h => ?_) (fun h => ?_)
    · have hi' : i < l.length := by omega
      rw [List.drop_eq_getElem_cons hi', fst0] at hr
      simp only [bc_t h, bc_t (show (0 : Int) ≤ (i : Int) by omega), Int.toNat_natCast, at1 (vi_at l i hi')]
      refine bc_bne (fun hc => ?_) (fun hc => ?_)
      · rw [if_neg hc] at hr
        show [dI l[i]] = [dI (fst0 l)]
        rw [hr]
      · rw [if_pos hc] at hr
        refine ⟨(i + 1, cap), ⟨by show i + 1 ≤ l.length; omega, hr⟩, by show l.length - (i + 1) < l.length - i; omega, ?_⟩
        rw [w64 (by omega) (by omega)]; rfl
    · show (if 0 = 0 then _ else _)
      rw [if_pos rfl]
      show nFE _ _ _
      rw [nFE_text]
      have : i = l.length := by omega
      rw [this, List.drop_length] at hr
      show [dI 0] = [dI (fst0 l)]
      rw [hr]; rfl
def sameE (a : Int) : List Int → Int
  | [] => 0
  | p :: r => if p = a then sameE a r else 10
theorem conCS (a : Int) (l : List Int) (hlen : l.length < 1000000000) : C5 27 [dI a, .sl l.length 1 (vi l)] [dI (sameE a l)] := by
  let inv : Nat × Nat → Prop := fun x => x.1 ≤ l.length ∧ sameE a l = sameE a (l.drop x.1)
  let st : Nat × Nat → Slots × Blocks := fun x => (sCS a l.length x.2 x.1, [Q500 (vi l)])
  refine con_of (L := fun _ s b => ∃ x, inv x ∧ st x = (s, b)) hok mixed Try.func27 rfl (by show 1 ≤ 400; omega) rfl (ids := [0]) (by kernel_rfl) rfl (fun caps => ?_) (fun id hid => ?_)
  · show gCS _ _ a l.length (caps 500) (vi l) _
    rw [gCS_text]
    exact ⟨(0, caps 500), ⟨by simp, rfl⟩, rfl⟩
  · obtain rfl := List.mem_singleton.1 hid
    refine ⟨Nat × Nat, st, inv, fun x => l.length - x.1, ⟨fun s b h => h, by kernel_rfl, ?_⟩⟩
    rintro ⟨i, cap⟩ ⟨hi, hr⟩
    simp only at hi hr
    show rCS _ _ a l.length cap (vi l) i _ _ _
    rw [rCS_text]
    refine bc_dec (fun h => ?_) (fun h => ?_)
    · have hi' : i < l.length := by omega
      rw [List.drop_eq_getElem_cons hi', sameE] at hr
      simp only [bc_t h, bc_t (show (0 : Int) ≤ (i : Int) by omega), Int.toNat_natCast, at1 (vi_at l i hi')]
      refine bc_bne (fun hc => ?_) (fun hc => ?_)
      · rw [if_neg hc] at hr
        show [dI _] = [dI (sameE a l)]
        rw [hr]
      · rw [if_pos hc] at hr
        refine ⟨(i + 1, cap), ⟨by show i + 1 ≤ l.length; omega, hr⟩, by show l.length - (i + 1) < l.length - i; omega, ?_⟩
        rw [w64 (by omega) (by omega)]; rfl
    · show (if 0 = 0 then _ else _)
      rw [if_pos rfl]
      show nCS _ _ _
      rw [nCS_text]
      have : i = l.length := by omega
      rw [this, List.drop_length] at hr
      show [dI 0] = [dI (sameE a l)]
      rw [hr]; rfl
theorem conCC (a b : Int) : C5 28 [dI a, dI b] [dI (if a = 0 then 10 else if a > b then 8 else 0)] := by
  refine con_flat hok mixed Try.func28 rfl (by show 0 ≤ 400; omega) rfl (by kernel_rfl) (fun caps => ?_)
  show gCC _ _ a b _
  rw [gCC_text]
  refine bc_beq (fun h => ?_) (fun h => bc_dec (fun h2 => ?_) (fun h2 => ?_))
  · show _ = _; rw [if_pos h]
  · show _ = _; rw [if_neg h, if_pos h2]
  · show _ = _; rw [if_neg h, if_neg h2]
theorem conWi (a b c : Int) : C5 17 [dI a, dI b, dI c] [.val (.bool (decide (b ≤ a ∧ a ≤ c)))] := by
  refine con_flat hok mixed Try.func17 rfl (by show 0 ≤ 400; omega) rfl (by kernel_rfl) (fun caps => ?_)
  show gWi _ _ a b c _
  rw [gWi_text]
  refine bc_dec (fun h => bc_dec (fun h2 => ?_) (fun h2 => ?_)) (fun h => ?_)
  · show _ = _; rw [decide_eq_true (show b ≤ a ∧ a ≤ c from ⟨h, h2⟩)]
  · show _ = _; rw [decide_eq_false (show ¬ (b ≤ a ∧ a ≤ c) by omega)]
  · show _ = _; rw [decide_eq_false (show ¬ (b ≤ a ∧ a ≤ c) by omega)]
theorem sayWt {a b c : Int} (h : b ≤ a ∧ a ≤ c) : Says C5 17 [dI a, dI b, dI c] [.val (.bool true)] := by
  have := conWi a b c
  rw [decide_eq_true h] at this
  exact ⟨this⟩
theorem sayWf {a b c : Int} (h : ¬ (b ≤ a ∧ a ≤ c)) : Says C5 17 [dI a, dI b, dI c] [.val (.bool false)] := by
  have := conWi a b c
  rw [decide_eq_false h] at this
  exact ⟨this⟩
theorem conSi (a : Int) (h : -9223372036854775807 ≤ a ∧ a ≤ 9223372036854775807) : C5 18 [dI a] [dI (szI a)] := by
  refine con_flat hok mixed Try.func18 rfl (by show 0 ≤ 400; omega) rfl (by kernel_rfl) (fun caps => ?_)
  show gSi _ _ a _
  rw [gSi_text, w64 (by omega) (by omega)]
  show [dI _] = [dI _]
  rw [show (0 : Int) - a = -a by omega]; rfl
/-- the numbers of a monitor -/
structure VM (D nu de ba : Int) : Prop where
  dl : 0 ≤ D ∧ D ≤ 10
  nu : 0 ≤ nu ∧ nu ≤ 100
  de : 1 ≤ de ∧ de ≤ 100
  ba : 0 ≤ ba ∧ ba ≤ 10000
def mE (D nu de ba : Int) : Int := if (0 ≤ D ∧ D ≤ 10) ∧ (0 ≤ nu ∧ nu ≤ 100) ∧ (1 ≤ de ∧ de ≤ 100) ∧ (0 ≤ ba ∧ ba ≤ 10000) then 0 else 2
theorem mE_ok {D nu de ba : Int} : mE D nu de ba = 0 ↔ VM D nu de ba := by
  unfold mE
  constructor
  · intro h
    split at h
    · rename_i hc; exact ⟨hc.1, hc.2.1, hc.2.2.1, hc.2.2.2⟩
    · omega
  · intro h; rw [if_pos ⟨h.1, h.2, h.3, h.4⟩]
theorem conCM (a b c d : Int) : C5 14 [.agg [dI a, dI b, dI c, dI d]] [dI (mE a b c d)] := by
  refine con_flat hok mixed Try.func14 rfl (by show 0 ≤ 400; omega) rfl (by kernel_rfl) (fun caps => ?_)
  show gCM _ _ a b c d _
  rw [gCM_text]
  simp only [eq_self, true_and, and_true]
  refine ⟨_, wit_rng, _, wit_rng, _, wit_rng, _, wit_rng, _, ⟨conFE [rngE 0 10 2 a, rngE 0 100 2 b, rngE 1 100 2 c, rngE 0 10000 2 d] (by simp)⟩, ?_⟩
  show [dI _] = [dI _]
  have : fst0 [rngE 0 10 2 a, rngE 0 100 2 b, rngE 1 100 2 c, rngE 0 10000 2 d] = mE a b c d := by
    have h2 : (2 : Int) ≠ 0 := by decide
    rw [fst0_rng h2, fst0_rng h2, fst0_rng h2, fst0_rng h2, mE, ite_and2 (p := 0 ≤ a ∧ a ≤ 10) (q := (0 ≤ b ∧ b ≤ 100) ∧ (1 ≤ c ∧ c ≤ 100) ∧ (0 ≤ d ∧ d ≤ 10000)), ite_and2 (p := 0 ≤ b ∧ b ≤ 100) (q := (1 ≤ c ∧ c ≤ 100) ∧ (0 ≤ d ∧ d ≤ 10000)), ite_and2 (p := 1 ≤ c ∧ c ≤ 100) (q := (0 ≤ d ∧ d ≤ 10000))]
    rfl
  rw [this]
theorem conME (a b c d : Int) : C5 13 [.agg [dI a, dI b, dI c, dI d]] [dI (mE a b c d)] := by
  refine con_flat hok mixed Try.func13 rfl (by show 0 ≤ 400; omega) rfl (by kernel_rfl) (fun caps => ?_)
  show gME _ _ a b c d _
  rw [gME_text]
  unfold mE
  by_cases h1 : 0 ≤ a ∧ a ≤ 10
  · refine .inl ⟨sayWt h1, ?_⟩
    by_cases h2 : 0 ≤ b ∧ b ≤ 100
    · refine .inl ⟨sayWt h2, ?_⟩
      by_cases h3 : 1 ≤ c ∧ c ≤ 100
      · refine .inl ⟨sayWt h3, ?_⟩
        by_cases h4 : 0 ≤ d ∧ d ≤ 10000
        · exact .inl ⟨sayWt h4, by show _ = _; rw [if_pos ⟨h1, h2, h3, h4⟩]⟩
        · exact .inr ⟨sayWf h4, by show _ = _; rw [if_neg (fun h => h4 h.2.2.2)]⟩
      · exact .inr ⟨sayWf h3, by show _ = _; rw [if_neg (fun h => h3 h.2.2.1)]⟩
    · exact .inr ⟨sayWf h2, by show _ = _; rw [if_neg (fun h => h2 h.2.1)]⟩
  · exact .inr ⟨sayWf h1, by show _ = _; rw [if_neg (fun h => h1 h.1)]⟩
theorem mul_bd {a b A B : Int} (ha : 0 ≤ a ∧ a ≤ A) (hb : -B ≤ b ∧ b ≤ B) : -(A * B) ≤ a * b ∧ a * b ≤ A * B := by
  have hB : 0 ≤ B := by omega
  have e1 : a * B ≤ A * B := Int.mul_le_mul_of_nonneg_right ha.2 hB
  have e2 : a * b ≤ a * B := Int.mul_le_mul_of_nonneg_left hb.2 ha.1
  have e3 : a * -B ≤ a * b := Int.mul_le_mul_of_nonneg_left hb.1 ha.1
  rw [Int.mul_neg] at e3
  omega
theorem tdiv_bd {n g : Int} (hn : -10000000 ≤ n ∧ n ≤ 10000000) : -10000000 ≤ n.tdiv g ∧ n.tdiv g ≤ 10000000 := by
  have h := Int.natAbs_tdiv_le_natAbs n g
  omega
theorem tk_bd {D nu de ba y : Int} (hm : VM D nu de ba) (hy : -100000 ≤ y ∧ y ≤ 100000) : -10000000 ≤ tk nu de ba y ∧ tk nu de ba y ≤ 10000000 := by
  unfold tk
  split
  · omega
  · exact tdiv_bd (mul_bd hm.nu hy)
theorem conTk {D nu de ba y : Int} (hm : VM D nu de ba) (hy : -100000 ≤ y ∧ y ≤ 100000) : C5 36 [.agg [dI D, dI nu, dI de, dI ba], dI y] [dI (tk nu de ba y)] := by
  refine con_flat hok mixed Try.func36 rfl (by show 0 ≤ 400; omega) rfl (by kernel_rfl) (fun caps => ?_)
  show gTk _ _ D nu de ba y _
  rw [gTk_text, w64 (z := 0 - y) (by omega) (by omega)]
  have hp := mul_bd hm.nu hy
  rw [w64 (z := nu * y) (by omega) (by omega)]
  have hq := tdiv_bd (n := nu * y) (g := de) hp
  rw [w64 (by omega) (by omega)]
  have e : (if 0 - y > y then 0 - y else y) = szI y := by rw [show (0 : Int) - y = -y by omega]; rfl
  rw [e]
  have := hm.de
  refine bc_dec (fun h => ?_) (fun h => bc_bne (fun _ => ?_) (fun h0 => absurd h0 (by omega)))
  · show _ = _; rw [tk, if_pos h]
  · show _ = _; rw [tk, if_neg h]
end Go.Proofs.G5a

/- Chapter 5: what the frames of the laws share. -/
namespace Go.Proofs.Ythgcicagmdlnmaa.K
open Go Go.Abs Go.RowKit Go.ChangeShapes Go.WideShapes Go.ChangeAt Go.Proofs Go.Flat
set_option maxRecDepth 100000
theorem own : ownKnob Try.prog.godebug = none := by kernel_rfl
theorem laidP : laidOutB Try.prog = true := by kernel_rfl
theorem mapsP : mapsRowed Try.prog = true := by kernel_rfl
theorem slicesP : ∀ t e, t < Try.prog.types.size → Try.prog.underlying t = some (.slice e) → 0 < Try.prog.cellsOf e := slices_full_of Try.prog (by kernel_rfl)
theorem tsP {l : List TypeId} (h : l.all (fun t => decide (t < Try.prog.types.size)) = true) : ∀ t ∈ l, t < Try.prog.types.size := fun t ht => of_decide_eq_true (List.all_eq_true.1 h t ht)
theorem flat_vi : ∀ l : List Int, (l.flatMap fun a => [Value.int .i64 a]) = vi l
  | [] => rfl
  | a :: r => by rw [List.flatMap_cons, flat_vi r]; rfl
/-- lists of whole numbers -/
theorem leaf_ints {t e : TypeId} {d : D} (ht : Try.prog.underlying t = some (.slice e)) (he : leaves Try.prog 10 e = some [.int .i64]) (h : LeafD Try.prog t d) : d = .nil ∨ ∃ l : List Int, d = .sl l.length 1 (vi l) := by
  unfold LeafD at h
  rw [ht] at h
  simp only at h
  rcases h with h | ⟨n, cs, L, rfl, hL, hn, hl, hc⟩
  · exact .inl h
  · rw [he] at hL
    obtain rfl := Option.some.inj hL
    simp only [List.length_cons, List.length_nil, Nat.zero_add] at hl hc ⊢
    obtain ⟨ps, hp, rfl⟩ := chunks_of (f := fun a : Int => [Value.int .i64 a]) (k := 1) (fun _ => rfl) n cs hl (fun i hi => by
      have := hc i hi
      generalize (cs.drop (i * 1)).take 1 = x at this ⊢
      cases this with
      | cons h t => cases t; obtain ⟨a, rfl, _⟩ := h; exact ⟨a, rfl⟩)
    refine .inr ⟨ps, ?_⟩
    rw [hp]
    rw [flat_vi]
theorem leaf_int {t : TypeId} {d : D} (ht : Try.prog.underlying t = some (.int .i64)) (h : LeafD Try.prog t d) : ∃ n : Int, d = dI n ∧ (-9223372036854775808 ≤ n ∧ n ≤ 9223372036854775807) := by
  unfold LeafD at h
  rw [ht] at h
  obtain ⟨n, rfl, hw⟩ := h
  exact ⟨n, rfl, wf64 hw⟩
end Go.Proofs.Ythgcicagmdlnmaa.K

/- slices.Insert at the beginning, where there is room: one number is put before the others, in place. -/
namespace Go.Proofs.G5a
open Go Go.Abs Go.Proofs Go.Shelf Go.RowKit Go.Lib
set_option maxHeartbeats 4000000 in
set_option maxRecDepth 100000 in
theorem insW (b off n c vb voff vc : Nat) (cs : List Value) (x : Value) (w : World) (hn : 0 < n) (hn63 : n + 1 ≤ 9223372036854775807) (hroom : n + 1 ≤ c) (hvb : vb ≠ b) (hcl : cs.length = n)
    (hcs : ∀ j v, cs[j]? = some v → w.cell? ⟨b, off + j, none⟩ = some v) (hsp : ∀ j, j < n + 1 → (w.cell? ⟨b, off + j, none⟩).isSome = true) (hfz : ∀ j, j < n + 1 → w.frozen? ⟨b, off + j, none⟩ = false)
    (hvs : w.cell? ⟨vb, voff, none⟩ = some x) (h1c : ∀ v ∈ cs, v.oneCell' = true) (h1v : x.oneCell' = true)
    (tA tB : TypeId) (kA kB : Nat) (hsa : w.shape? vb = some (tA, kA)) (hsb : w.shape? b = some (tB, kB)) (hkB : kB ≠ 0) (hfa : w.frozen? ⟨vb, voff, none⟩ = false) (hfe : w.frozen? ⟨vb, kA, none⟩ = false) :
    Calls Try.prog 86 #[.slice (some ⟨b, off, none⟩) n c, .int .i64 0, .slice (some ⟨vb, voff, none⟩) 1 vc] w fun e w' =>
      e = .returned (.slice (some ⟨b, off, none⟩) (n + 1) c) ∧ w' = (w.drew.setCells b (off + 1) cs).setCells b off [x] := by
  have t22 := Try.underlying22
  have t3 := Try.underlying3
  have t4 := Try.underlying4
  have z3 : ∀ w, (Go.sizeOf 3).run Try.prog w = .ok 1 w := by intro w; kernel_rfl
  have z22 : ∀ w, (Go.sizeOf 22).run Try.prog w = .ok 1 w := by intro w; kernel_rfl
  have z4 : ∀ w, (Go.sizeOf 4).run Try.prog w = .ok 1 w := by intro w; kernel_rfl
  have a3 : ∀ w, (isAgg 3).run Try.prog w = .ok false w := by intro w; kernel_rfl
  have a22 : ∀ w, (isAgg 22).run Try.prog w = .ok false w := by intro w; kernel_rfl
  have a4 : ∀ w, (isAgg 4).run Try.prog w = .ok false w := by intro w; kernel_rfl
  have v3 : ∀ w, (zeroValue 3).run Try.prog w = .ok (Value.int IntKind.i64 0) w := by intro w; kernel_rfl
  have v22 : ∀ w, (zeroValue 22).run Try.prog w = .ok (Value.slice none 0 0) w := by intro w; kernel_rfl
  have v4 : ∀ w, (zeroValue 4).run Try.prog w = .ok (Value.bool false) w := by intro w; kernel_rfl
  have u22 := run_underlying t22
  have u3 := run_underlying t3
  have u4 := run_underlying t4
  have hz2 : ¬ ((0 : Int) = (n : Int)) := by omega
  have hsz : (Try.prog.info? 3).map (·.size) = some 1 := by kernel_rfl
  have hov : ∀ lb cb, (callFunc 90 #[.slice (some ⟨vb, voff, none⟩) 1 vc, .slice (some ⟨b, off + 1, none⟩) lb cb]).run Try.prog w = .ok (.value (.bool false)) w := fun lb cb => by
    rw [run_callFunc_extern Try.func90 (by kernel_rfl) (by kernel_rfl) (by kernel_rfl) (e := Extern.SlicesOverlaps.overlaps #[22, 22] #[4]) (by kernel_rfl),
      Lib.run_overlaps_apart w 22 4 3 t22 1 z3 ⟨vb, voff, none⟩ ⟨b, off + 1, none⟩ 1 vc lb cb hvb tA tB kA kB hsa hsb hkB hfa hfe]
    rfl
  have mixed := mixed
  have hb2 : ¬ (c = 1) := by omega
  have hw1 : IntKind.i64.wrap 1 = 1 := by rw [IntKind.wrap_i64]; omega
  have hw2 : IntKind.i64.wrap ((n : Int) + 1) = (n : Int) + 1 := by rw [IntKind.wrap_i64]; omega
  have hb1 : (1 : Int) ≤ (n : Int) + 1 := by omega
  have hb0 : (0 : Int) ≤ (n : Int) + 1 := by omega
  have htn : (1 : Int).toNat = 1 := rfl
  have hb4 : ¬ (c = 0) := by omega
  have hcp1 : ∀ ty dc sc, (Builtin.copy_ #[22, 22] ty #[.slice (some ⟨b, off + 1, none⟩) n dc, .slice (some ⟨b, off, none⟩) (n + 1) sc]).run Try.prog w.drew = .ok (goInt cs.length) (w.drew.setCells b (off + 1) cs) := fun ty dc sc =>
    run_copy_cells w.drew _ _ ty 3 b (off + 1) n dc ⟨b, off, none⟩ (n + 1) sc cs t22 hsz (by rw [hcl]; simp only [Nat.min_def]; split <;> omega)
      (fun j v hj => by rw [Addr.add_lit]; exact hcs j v hj)
      (fun j hj => by rw [Nat.add_assoc]; exact hsp _ (by omega)) (fun j hj => by rw [Nat.add_assoc]; exact hfz _ (by omega)) h1c
  obtain ⟨W1, hW1⟩ : ∃ W1, W1 = w.drew.setCells b (off + 1) cs := ⟨_, rfl⟩
  have hsp1 : ∀ k, k < n + 1 → (W1.cell? ⟨b, off + k, none⟩).isSome = true := fun k hk => by
    rw [hW1]
    exact isSome_setCells b _ _ _ (fun j hj => by rw [Nat.add_assoc]; exact hsp _ (by omega)) _ (hsp k hk)
  have hcp2 : ∀ (W : World), (∀ x, W.cell? x = W1.cell? x) → (∀ x, W.frozen? x = W1.frozen? x) → ∀ ty dc, (Builtin.copy_ #[22, 22] ty #[.slice (some ⟨b, off, none⟩) (n + 1) dc, .slice (some ⟨vb, voff, none⟩) 1 vc]).run Try.prog W = .ok (goInt 1) (W.setCells b off [x]) := fun W hWc hWf ty dc =>
    run_copy_cells W _ _ ty 3 b off (n + 1) dc ⟨vb, voff, none⟩ 1 vc [x] t22 hsz (by simp only [List.length_singleton, Nat.min_def]; split <;> omega)
      (fun j v hj => by
        rw [Addr.add_lit, hWc, hW1, World.cell?_setCells_out b _ _ _ _ (fun h _ => absurd h hvb)]
        cases j with
        | zero => simp only [List.getElem?_cons_zero, Option.some.injEq] at hj; rw [← hj]; exact hvs
        | succ j => simp at hj)
      (fun j hj => by rw [hWc]; exact hsp1 _ (by simp only [List.length_singleton] at hj; omega)) (fun j hj => by rw [hWf, hW1, World.frozen?_setCells]; exact hfz _ (by simp only [List.length_singleton] at hj; omega)) (by intro v hv; rw [List.mem_singleton.1 hv]; exact h1v)
  rw [← hW1] at hcp1
  go_enter Try.func86, Try.ntmps86
  go_wp2_with (simp only [hov])
  go_region_law_o (refine step_copy_runI rfl _ _ 22 22 rfl _ _ (by simp [Act.eval, Act.put]) (by simp [Act.eval, Act.put]) (hcp1 _ _ _) ?_)
  go_wp2_with (at_builtin; refine wpList_copy_runI _ rfl _ _ 22 22 rfl _ _ rfl rfl (hcp2 _ (fun _ => rfl) (fun _ => rfl) _ _) ?_)
  go_ret
  first | exact ⟨rfl, rfl⟩ | exact ⟨rfl, by rw [hW1]⟩
end Go.Proofs.G5a

/- What is left to show of each function, written out; the kernel reckons it. -/
namespace Go.Proofs.G5a
open Go Go.Abs Go.Proofs
set_option maxRecDepth 100000
set_option linter.unusedVariables false
def gROn (C : Ct) (L : AtLoop) (a b c d : Int) (k : List D → Prop) : Prop := wpFn Try.prog (hG C) L 0 37 #[vA a b c d, .slice none 0 0] (heapOf []) (dataK k)
theorem gROn_text (C : Ct) (L : AtLoop) (a : Int) (b : Int) (c : Int) (d : Int) (k : List D → Prop) : gROn C L a b c d k =
 (L 0 [(Prod.mk 1 (Go.Value.slice Option.none 0 0)), (Prod.mk 2 (Go.Value.pointer (Option.some (Go.Addr.mk 1000 0 Option.none)))), (Prod.mk 6 (Go.Value.slice Option.none 0 0)), (Prod.mk 7 (Go.Value.int Go.IntKind.i64 (0 : Int))), (Prod.mk 8 (Go.Value.int Go.IntKind.i64 (0 : Int)))] [(Prod.mk 1000 (AObj.cells [(Go.Value.int Go.IntKind.i64 (a)), (Go.Value.int Go.IntKind.i64 (b)), (Go.Value.int Go.IntKind.i64 (c)), (Go.Value.int Go.IntKind.i64 (d))] 32 false 1))]) := by kernel_rfl
def sROn (c : Int) (i : Int) : Slots := [(1, .slice none 0 0), (2, P1 1000 0), (6, .slice none 0 0), (7, vI c), (8, vI i)]
def rROn (C : Ct) (L : AtLoop) (a b c d : Int) (x i : Int) (B : Bx) (X : Xx) (k : List D → Prop) : Prop := wpRound Try.prog (hG C) L 37 0 (sROn x i) [oN a b c d] B X (dataK k)
theorem rROn_text (C : Ct) (L : AtLoop) (a : Int) (b : Int) (c : Int) (d : Int) (x : Int) (i : Int) (B : Bx) (X : Xx) (k : List D → Prop) : rROn C L a b c d x i B X k =
 (bcase (decide (i < (↑0 : Int)))
 False
 (X 0 [(Prod.mk 6 (Go.Value.slice Option.none 0 0))] [])) := by kernel_rfl
def gRMn (C : Ct) (L : AtLoop) (a b c d : Int) (k : List D → Prop) : Prop := wpFn Try.prog (hG C) L 0 15 #[vA a b c d, .slice none 0 0] (heapOf []) (dataK k)
theorem gRMn_text (C : Ct) (L : AtLoop) (a : Int) (b : Int) (c : Int) (d : Int) (k : List D → Prop) : gRMn C L a b c d k =
 (L 0 [(Prod.mk 1 (Go.Value.slice Option.none 0 0)), (Prod.mk 2 (Go.Value.pointer (Option.some (Go.Addr.mk 1000 0 Option.none)))), (Prod.mk 6 (Go.Value.int Go.IntKind.i64 (0 : Int)))] [(Prod.mk 1000 (AObj.cells [(Go.Value.int Go.IntKind.i64 (a)), (Go.Value.int Go.IntKind.i64 (b)), (Go.Value.int Go.IntKind.i64 (c)), (Go.Value.int Go.IntKind.i64 (d))] 32 false 1))]) := by kernel_rfl
def sRMn (i : Int) : Slots := [(1, .slice none 0 0), (2, P1 1000 0), (6, vI i)]
def rRMn (C : Ct) (L : AtLoop) (a b c d : Int) (i : Int) (B : Bx) (X : Xx) (k : List D → Prop) : Prop := wpRound Try.prog (hG C) L 15 0 (sRMn i) [oN a b c d] B X (dataK k)
theorem rRMn_text (C : Ct) (L : AtLoop) (a : Int) (b : Int) (c : Int) (d : Int) (i : Int) (B : Bx) (X : Xx) (k : List D → Prop) : rRMn C L a b c d i B X k =
 (bcase (decide (i < (↑0 : Int)))
 False
 (X 0 [(Prod.mk 1 (Go.Value.slice Option.none 0 0)), (Prod.mk 2 (Go.Value.pointer (Option.some (Go.Addr.mk 1000 0 Option.none))))] [(Prod.mk 1000 (AObj.cells [(Go.Value.int Go.IntKind.i64 (a)), (Go.Value.int Go.IntKind.i64 (b)), (Go.Value.int Go.IntKind.i64 (c)), (Go.Value.int Go.IntKind.i64 (d))] 32 false 1))])) := by kernel_rfl
def nRMn (C : Ct) (L : AtLoop) (a b c d : Int) (k : List D → Prop) : Prop := wpNext Try.prog (hG C) L 15 0 .normal [(1, .slice none 0 0), (2, P1 1000 0)] [oN a b c d] (dataK k)
theorem nRMn_text (C : Ct) (L : AtLoop) (a : Int) (b : Int) (c : Int) (d : Int) (k : List D → Prop) : nRMn C L a b c d k =
 ((((Says C 37 [(D.agg [(D.val (Go.Value.int Go.IntKind.i64 (a))), (D.val (Go.Value.int Go.IntKind.i64 (b))), (D.val (Go.Value.int Go.IntKind.i64 (c))), (D.val (Go.Value.int Go.IntKind.i64 (d)))]), D.nil] [D.nil, (D.val (Go.Value.bool true))]) ∧
 (k [D.nil, (D.val (Go.Value.int Go.IntKind.i64 (0 : Int)))])) ∨
 ((Says C 37 [(D.agg [(D.val (Go.Value.int Go.IntKind.i64 (a))), (D.val (Go.Value.int Go.IntKind.i64 (b))), (D.val (Go.Value.int Go.IntKind.i64 (c))), (D.val (Go.Value.int Go.IntKind.i64 (d)))]), D.nil] [D.nil, (D.val (Go.Value.bool false))]) ∧
 (k [D.nil, (D.val (Go.Value.int Go.IntKind.i64 (22 : Int)))]))) ∨
 (∃ n1 : Nat,
 (∃ cs1 : List Go.Value,
 (((Says C 37 [(D.agg [(D.val (Go.Value.int Go.IntKind.i64 (a))), (D.val (Go.Value.int Go.IntKind.i64 (b))), (D.val (Go.Value.int Go.IntKind.i64 (c))), (D.val (Go.Value.int Go.IntKind.i64 (d)))]), D.nil] [(D.sl (n1) 1 (cs1)), (D.val (Go.Value.bool true))]) ∧
 ((((n1) = (n1)) ∧
 ((List.length cs1) = (n1 * 1))) ∧
 (k [(D.sl (n1) 1 (cs1)), (D.val (Go.Value.int Go.IntKind.i64 (0 : Int)))]))) ∨
 ((Says C 37 [(D.agg [(D.val (Go.Value.int Go.IntKind.i64 (a))), (D.val (Go.Value.int Go.IntKind.i64 (b))), (D.val (Go.Value.int Go.IntKind.i64 (c))), (D.val (Go.Value.int Go.IntKind.i64 (d)))]), D.nil] [(D.sl (n1) 1 (cs1)), (D.val (Go.Value.bool false))]) ∧
 (k [D.nil, (D.val (Go.Value.int Go.IntKind.i64 (22 : Int)))])))))) := by kernel_rfl
def gInN (C : Ct) (L : AtLoop) (k : List D → Prop) : Prop := wpFn Try.prog (hG C) L 0 10 #[.slice none 0 0, .slice none 0 0] (heapOf []) (dataK k)
theorem gInN_text (C : Ct) (L : AtLoop) (k : List D → Prop) : gInN C L k =
 (L 0 [(Prod.mk 0 (Go.Value.slice Option.none 0 0)), (Prod.mk 1 (Go.Value.slice Option.none 0 0)), (Prod.mk 5 (Go.Value.int Go.IntKind.i64 (0 : Int)))] []) := by kernel_rfl
def sInN (i : Int) : Slots := [(0, .slice none 0 0), (1, .slice none 0 0), (5, vI i)]
def rInN (C : Ct) (L : AtLoop) (i : Int) (B : Bx) (X : Xx) (k : List D → Prop) : Prop := wpRound Try.prog (hG C) L 10 0 (sInN i) [] B X (dataK k)
theorem rInN_text (C : Ct) (L : AtLoop) (i : Int) (B : Bx) (X : Xx) (k : List D → Prop) : rInN C L i B X k =
 (bcase (decide (i < (↑0 : Int)))
 False
 (X 0 [] [])) := by kernel_rfl
def sB0 (x n count : Int) (l8 : Value) (t : Int) : Slots := [(1, vI x), (2, P1 1000 0), (5, vI n), (7, vI count), (8, l8), (9, vI t)]
def rB0 (C : Ct) (L : AtLoop) (a b c d x n count t : Int) (B : Bx) (X : Xx) (k : List D → Prop) : Prop := wpRound Try.prog (hG C) L 5 0 (sB0 x n count (.slice none 0 0) t) [oN a b c d] B X (dataK k)
theorem rB0_text (C : Ct) (L : AtLoop) (a : Int) (b : Int) (c : Int) (d : Int) (x : Int) (n : Int) (count : Int) (t : Int) (B : Bx) (X : Xx) (k : List D → Prop) : rB0 C L a b c d x n count t B X k =
 (bcase (decide (t < count))
 (B [(Prod.mk 1 (Go.Value.int Go.IntKind.i64 (x))), (Prod.mk 2 (Go.Value.pointer (Option.some (Go.Addr.mk 1000 0 Option.none)))), (Prod.mk 5 (Go.Value.int Go.IntKind.i64 (n))), (Prod.mk 7 (Go.Value.int Go.IntKind.i64 (count))), (Prod.mk 8 (Go.Value.slice (Option.some (Go.Addr.mk 1001 0 Option.none)) 1 1)), (Prod.mk 9 (Go.Value.int Go.IntKind.i64 (Go.IntKind.wrap Go.IntKind.i64 (t + 1))))] [(Prod.mk 1000 (AObj.cells [(Go.Value.int Go.IntKind.i64 (a)), (Go.Value.int Go.IntKind.i64 (b)), (Go.Value.int Go.IntKind.i64 (c)), (Go.Value.int Go.IntKind.i64 (d))] 32 false 1)), (Prod.mk 1001 (AObj.sym [(Go.Value.int Go.IntKind.i64 (x))] true 1))])
 (X 0 [(Prod.mk 1 (Go.Value.int Go.IntKind.i64 (x))), (Prod.mk 2 (Go.Value.pointer (Option.some (Go.Addr.mk 1000 0 Option.none)))), (Prod.mk 5 (Go.Value.int Go.IntKind.i64 (n))), (Prod.mk 7 (Go.Value.int Go.IntKind.i64 (count))), (Prod.mk 8 (Go.Value.slice Option.none 0 0))] [(Prod.mk 1000 (AObj.cells [(Go.Value.int Go.IntKind.i64 (a)), (Go.Value.int Go.IntKind.i64 (b)), (Go.Value.int Go.IntKind.i64 (c)), (Go.Value.int Go.IntKind.i64 (d))] 32 false 1))])) := by kernel_rfl
def rB1 (C : Ct) (L : AtLoop) (a b c d x n count t : Int) (m : Nat) (vs : List Value) (B : Bx) (X : Xx) (k : List D → Prop) : Prop := wpRound Try.prog (hG C) L 5 0 (sB0 x n count (.slice (some ⟨1001, 0, none⟩) m m) t) [oN a b c d, (1001, .sym vs true 1)] B X (dataK k)
theorem rB1_text (C : Ct) (L : AtLoop) (a : Int) (b : Int) (c : Int) (d : Int) (x : Int) (n : Int) (count : Int) (t : Int) (m : Nat) (vs : List Go.Value) (B : Bx) (X : Xx) (k : List D → Prop) : rB1 C L a b c d x n count t m vs B X k =
 (bcase (decide (t < count))
 (bcase (decide (m < m + 1))
 (bcase (decide ((2 * (m + 1) + 768) * 8 ≤ 281474976710656))
 (bcase (decide (m + 1 ≤ 1099511627776))
 (bcase (decide (0 + m * 1 ≤ List.length vs))
 (bcase (decide (0 + m * 1 = List.length vs))
 (B [(Prod.mk 1 (Go.Value.int Go.IntKind.i64 (x))), (Prod.mk 2 (Go.Value.pointer (Option.some (Go.Addr.mk 1000 0 Option.none)))), (Prod.mk 5 (Go.Value.int Go.IntKind.i64 (n))), (Prod.mk 7 (Go.Value.int Go.IntKind.i64 (count))), (Prod.mk 8 (Go.Value.slice (Option.some (Go.Addr.mk 1001 0 Option.none)) (m + 1) (m + 1))), (Prod.mk 9 (Go.Value.int Go.IntKind.i64 (Go.IntKind.wrap Go.IntKind.i64 (t + 1))))] [(Prod.mk 1000 (AObj.cells [(Go.Value.int Go.IntKind.i64 (a)), (Go.Value.int Go.IntKind.i64 (b)), (Go.Value.int Go.IntKind.i64 (c)), (Go.Value.int Go.IntKind.i64 (d))] 32 false 1)), (Prod.mk 1001 (AObj.sym ((List.take (m * 1) (List.drop 0 vs)) ++ [(Go.Value.int Go.IntKind.i64 (x))]) true 1))])
 False)
 False)
 False)
 False)
 False)
 (X 0 [(Prod.mk 1 (Go.Value.int Go.IntKind.i64 (x))), (Prod.mk 2 (Go.Value.pointer (Option.some (Go.Addr.mk 1000 0 Option.none)))), (Prod.mk 5 (Go.Value.int Go.IntKind.i64 (n))), (Prod.mk 7 (Go.Value.int Go.IntKind.i64 (count))), (Prod.mk 8 (Go.Value.slice (Option.some (Go.Addr.mk 1001 0 Option.none)) (m) (m)))] [(Prod.mk 1000 (AObj.cells [(Go.Value.int Go.IntKind.i64 (a)), (Go.Value.int Go.IntKind.i64 (b)), (Go.Value.int Go.IntKind.i64 (c)), (Go.Value.int Go.IntKind.i64 (d))] 32 false 1)), (Prod.mk 1001 (AObj.sym (vs) true 1))])) := by kernel_rfl
def sBN (x n count : Int) (l8 : Value) : Slots := [(1, vI x), (2, P1 1000 0), (5, vI n), (7, vI count), (8, l8)]
def nB0 (C : Ct) (L : AtLoop) (a b c d x n count : Int) (m : Nat) (vs : List Value) (k : List D → Prop) : Prop := wpNext Try.prog (hG C) L 5 0 .normal (sBN x n count (.slice (some ⟨1001, 0, none⟩) m m)) [oN a b c d, (1001, .sym vs true 1)] (dataK k)
theorem nB0_text (C : Ct) (L : AtLoop) (a : Int) (b : Int) (c : Int) (d : Int) (x : Int) (n : Int) (count : Int) (m : Nat) (vs : List Go.Value) (k : List D → Prop) : nB0 C L a b c d x n count m vs k =
 ((((Go.Value.slice (Option.some (Go.Addr.mk 1001 0 Option.none)) (m) (m)) = (Go.Value.slice (Option.some (Go.Addr.mk 1001 0 Option.none)) (m) (m))) ∧
 (((Go.Value.agg [(Go.Value.int Go.IntKind.i64 (a)), (Go.Value.int Go.IntKind.i64 (b)), (Go.Value.int Go.IntKind.i64 (c)), (Go.Value.int Go.IntKind.i64 (d))].toArray) = (Go.Value.agg [(Go.Value.int Go.IntKind.i64 (a)), (Go.Value.int Go.IntKind.i64 (b)), (Go.Value.int Go.IntKind.i64 (c)), (Go.Value.int Go.IntKind.i64 (d))].toArray)) ∧
 True)) ∧
 (bcase (decide (0 + m * 1 ≤ List.length vs))
 ((Says C 8 [(D.sl (m) 1 (List.take (m * 1) (List.drop 0 vs)))] [(D.sl (m) 1 (List.take (m * 1) (List.drop 0 vs)))]) ∧
 ((((Go.Value.agg [(Go.Value.int Go.IntKind.i64 (a)), (Go.Value.int Go.IntKind.i64 (b)), (Go.Value.int Go.IntKind.i64 (c)), (Go.Value.int Go.IntKind.i64 (d))].toArray) = (Go.Value.agg [(Go.Value.int Go.IntKind.i64 (a)), (Go.Value.int Go.IntKind.i64 (b)), (Go.Value.int Go.IntKind.i64 (c)), (Go.Value.int Go.IntKind.i64 (d))].toArray)) ∧
 True) ∧
 (bcase (decide (0 + m * 1 ≤ List.length (List.take (m * 1) (List.drop 0 vs))))
 ((∃ n1 : Int,
 ((Says C 11 [(D.agg [(D.val (Go.Value.int Go.IntKind.i64 (a))), (D.val (Go.Value.int Go.IntKind.i64 (b))), (D.val (Go.Value.int Go.IntKind.i64 (c))), (D.val (Go.Value.int Go.IntKind.i64 (d)))]), (D.sl (m) 1 (List.take (m * 1) (List.drop 0 (List.take (m * 1) (List.drop 0 vs)))))] [D.nil, (D.val (Go.Value.int Go.IntKind.i64 (n1)))]) ∧
 ((((Go.Value.int Go.IntKind.i64 (n1)) = (Go.Value.int Go.IntKind.i64 (n1))) ∧
 (((Go.Value.slice Option.none 0 0) = (Go.Value.slice Option.none 0 0)) ∧
 (((Go.Value.tuple [(Go.Value.slice Option.none 0 0), (Go.Value.int Go.IntKind.i64 (n1))].toArray) = (Go.Value.tuple [(Go.Value.slice Option.none 0 0), (Go.Value.int Go.IntKind.i64 (n1))].toArray)) ∧
 True))) ∧
 ((((Go.Value.int Go.IntKind.i64 (n1)) = (Go.Value.int Go.IntKind.i64 (n1))) ∧
 True) ∧
 (True ∧
 (bcase (n1 != 0)
 (k [(D.val (Go.Value.bool false))])
 (bcase ((↑0 : Int) != count)
 (k [(D.val (Go.Value.bool false))])
 (L 2 [(Prod.mk 1 (Go.Value.int Go.IntKind.i64 (x))), (Prod.mk 2 (Go.Value.pointer (Option.some (Go.Addr.mk 1000 0 Option.none)))), (Prod.mk 5 (Go.Value.int Go.IntKind.i64 (n))), (Prod.mk 7 (Go.Value.int Go.IntKind.i64 (count))), (Prod.mk 10 (Go.Value.slice Option.none 0 0)), (Prod.mk 12 (Go.Value.int Go.IntKind.i64 (0 : Int)))] [(Prod.mk 1000 (AObj.cells [(Go.Value.int Go.IntKind.i64 (a)), (Go.Value.int Go.IntKind.i64 (b)), (Go.Value.int Go.IntKind.i64 (c)), (Go.Value.int Go.IntKind.i64 (d))] 32 false 1))])))))))) ∨
 (∃ n1 : Nat,
 (∃ cs1 : List Go.Value,
 (∃ n2 : Int,
 ((Says C 11 [(D.agg [(D.val (Go.Value.int Go.IntKind.i64 (a))), (D.val (Go.Value.int Go.IntKind.i64 (b))), (D.val (Go.Value.int Go.IntKind.i64 (c))), (D.val (Go.Value.int Go.IntKind.i64 (d)))]), (D.sl (m) 1 (List.take (m * 1) (List.drop 0 (List.take (m * 1) (List.drop 0 vs)))))] [(D.sl (n1) 1 (cs1)), (D.val (Go.Value.int Go.IntKind.i64 (n2)))]) ∧
 ((((Go.Value.int Go.IntKind.i64 (n2)) = (Go.Value.int Go.IntKind.i64 (n2))) ∧
 (((Go.Value.slice (Option.some (Go.Addr.mk 1003 0 Option.none)) (n1) (n1)) = (Go.Value.slice (Option.some (Go.Addr.mk 1003 0 Option.none)) (n1) (n1))) ∧
 (((Go.Value.tuple [(Go.Value.slice (Option.some (Go.Addr.mk 1003 0 Option.none)) (n1) (n1)), (Go.Value.int Go.IntKind.i64 (n2))].toArray) = (Go.Value.tuple [(Go.Value.slice (Option.some (Go.Addr.mk 1003 0 Option.none)) (n1) (n1)), (Go.Value.int Go.IntKind.i64 (n2))].toArray)) ∧
 True))) ∧
 ((((Go.Value.int Go.IntKind.i64 (n2)) = (Go.Value.int Go.IntKind.i64 (n2))) ∧
 True) ∧
 (True ∧
 (bcase (n2 != 0)
 (k [(D.val (Go.Value.bool false))])
 (bcase ((↑n1 : Int) != count)
 (k [(D.val (Go.Value.bool false))])
 (L 2 [(Prod.mk 1 (Go.Value.int Go.IntKind.i64 (x))), (Prod.mk 2 (Go.Value.pointer (Option.some (Go.Addr.mk 1000 0 Option.none)))), (Prod.mk 5 (Go.Value.int Go.IntKind.i64 (n))), (Prod.mk 7 (Go.Value.int Go.IntKind.i64 (count))), (Prod.mk 10 (Go.Value.slice (Option.some (Go.Addr.mk 1001 0 Option.none)) (n1) (n1))), (Prod.mk 12 (Go.Value.int Go.IntKind.i64 (0 : Int)))] [(Prod.mk 1000 (AObj.cells [(Go.Value.int Go.IntKind.i64 (a)), (Go.Value.int Go.IntKind.i64 (b)), (Go.Value.int Go.IntKind.i64 (c)), (Go.Value.int Go.IntKind.i64 (d))] 32 false 1)), (Prod.mk 1001 (AObj.sym (cs1) true 1))])))))))))))
 False)))
 False)) := by kernel_rfl
end Go.Proofs.G5a
