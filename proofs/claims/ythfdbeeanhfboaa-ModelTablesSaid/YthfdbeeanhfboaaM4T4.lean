/- What is left to show of each function, written out; the kernel reckons it. -/
import Derived.Test.YthfdbeeanhfboaaP5
namespace Go.Proofs.M4
open Go Go.Abs Go.Proofs
set_option maxRecDepth 100000
set_option linter.unusedVariables false
def g4 (C : Ct) (L : AtLoop) (n cap : Nat) (l : List Value) (a b c d e v w x : Int) (k : List D → Prop) : Prop := wpFn Try.prog (hM C) L 0 4 #[vR (S500 n cap) a b c d e, vP v w, vI x] (heapOf [T500 l]) (dataK k)
theorem g4_text (C : Ct) (L : AtLoop) (n : Nat) (cap : Nat) (l : List Go.Value) (a : Int) (b : Int) (c : Int) (d : Int) (e : Int) (v : Int) (w : Int) (x : Int) (k : List D → Prop) : g4 C L n cap l a b c d e v w x k =
 (((Says C 9 [] [(D.val (Go.Value.bool true))]) ∧
 (bcase (decide ((↑n : Int) ≤ 14))
 (bcase (decide (0 + n * 2 ≤ List.length l))
 ((Says C 20 [(D.agg [(D.sl (n) 2 (List.take (n * 2) (List.drop 0 l))), (D.val (Go.Value.int Go.IntKind.i64 (a))), (D.val (Go.Value.int Go.IntKind.i64 (b))), (D.val (Go.Value.int Go.IntKind.i64 (c))), (D.val (Go.Value.int Go.IntKind.i64 (d))), (D.val (Go.Value.int Go.IntKind.i64 (e)))])] [(D.agg [(D.sl (n) 2 (List.take (n * 2) (List.drop 0 l))), (D.val (Go.Value.int Go.IntKind.i64 (a))), (D.val (Go.Value.int Go.IntKind.i64 (b))), (D.val (Go.Value.int Go.IntKind.i64 (c))), (D.val (Go.Value.int Go.IntKind.i64 (d))), (D.val (Go.Value.int Go.IntKind.i64 (e)))])]) ∧
 (bcase (decide (0 + n * 2 ≤ List.length (List.take (n * 2) (List.drop 0 l))))
 (∃ n1 : Int,
 (∃ n2 : Int,
 ((Says C 19 [(D.agg [(D.sl (n) 2 (List.take (n * 2) (List.drop 0 (List.take (n * 2) (List.drop 0 l))))), (D.val (Go.Value.int Go.IntKind.i64 (a))), (D.val (Go.Value.int Go.IntKind.i64 (b))), (D.val (Go.Value.int Go.IntKind.i64 (c))), (D.val (Go.Value.int Go.IntKind.i64 (d))), (D.val (Go.Value.int Go.IntKind.i64 (e)))])] [(D.val (Go.Value.int Go.IntKind.i64 (n1))), (D.val (Go.Value.int Go.IntKind.i64 (n2)))]) ∧
 (((((Go.Value.pointer (Option.some (Go.Addr.mk 1004 0 Option.none))) = (Go.Value.pointer (Option.some (Go.Addr.mk 1004 0 Option.none)))) ∧
 ((Option.some (AObj.cells [(Go.Value.int Go.IntKind.i64 (0 : Int)), (Go.Value.int Go.IntKind.i64 (0 : Int))] 40 false 2)) = (Option.some (AObj.cells [(Go.Value.int Go.IntKind.i64 (0 : Int)), (Go.Value.int Go.IntKind.i64 (0 : Int))] 40 false 2)))) ∧
 (((Go.Value.agg [(Go.Value.int Go.IntKind.i64 (v)), (Go.Value.int Go.IntKind.i64 (w))].toArray) = (Go.Value.agg [(Go.Value.int Go.IntKind.i64 (v)), (Go.Value.int Go.IntKind.i64 (w))].toArray)) ∧
 (((Go.Value.agg [(Go.Value.slice (Option.some (Go.Addr.mk 500 0 Option.none)) (n) (cap)), (Go.Value.int Go.IntKind.i64 (a)), (Go.Value.int Go.IntKind.i64 (b)), (Go.Value.int Go.IntKind.i64 (c)), (Go.Value.int Go.IntKind.i64 (d)), (Go.Value.int Go.IntKind.i64 (e))].toArray) = (Go.Value.agg [(Go.Value.slice (Option.some (Go.Addr.mk 500 0 Option.none)) (n) (cap)), (Go.Value.int Go.IntKind.i64 (a)), (Go.Value.int Go.IntKind.i64 (b)), (Go.Value.int Go.IntKind.i64 (c)), (Go.Value.int Go.IntKind.i64 (d)), (Go.Value.int Go.IntKind.i64 (e))].toArray)) ∧
 True))) ∧
 (bcase (decide (0 + n * 2 ≤ List.length l))
 ((Says C 20 [(D.agg [(D.sl (n) 2 (List.take (n * 2) (List.drop 0 l))), (D.val (Go.Value.int Go.IntKind.i64 (a))), (D.val (Go.Value.int Go.IntKind.i64 (b))), (D.val (Go.Value.int Go.IntKind.i64 (c))), (D.val (Go.Value.int Go.IntKind.i64 (d))), (D.val (Go.Value.int Go.IntKind.i64 (e)))])] [(D.agg [(D.sl (n) 2 (List.take (n * 2) (List.drop 0 l))), (D.val (Go.Value.int Go.IntKind.i64 (a))), (D.val (Go.Value.int Go.IntKind.i64 (b))), (D.val (Go.Value.int Go.IntKind.i64 (c))), (D.val (Go.Value.int Go.IntKind.i64 (d))), (D.val (Go.Value.int Go.IntKind.i64 (e)))])]) ∧
 (((((Go.Value.pointer (Option.some (Go.Addr.mk 1004 0 Option.none))) = (Go.Value.pointer (Option.some (Go.Addr.mk 1004 0 Option.none)))) ∧
 ((Option.some (AObj.cells [(Go.Value.int Go.IntKind.i64 (0 : Int)), (Go.Value.int Go.IntKind.i64 (0 : Int))] 40 false 2)) = (Option.some (AObj.cells [(Go.Value.int Go.IntKind.i64 (0 : Int)), (Go.Value.int Go.IntKind.i64 (0 : Int))] 40 false 2)))) ∧
 (((Go.Value.agg [(Go.Value.int Go.IntKind.i64 (v)), (Go.Value.int Go.IntKind.i64 (w))].toArray) = (Go.Value.agg [(Go.Value.int Go.IntKind.i64 (v)), (Go.Value.int Go.IntKind.i64 (w))].toArray)) ∧
 True)) ∧
 (bcase (decide (0 + n * 2 ≤ List.length (List.take (n * 2) (List.drop 0 l))))
 (∃ n3 : Int,
 (∃ n4 : Int,
 (∃ n5 : Int,
 ((Says C 21 [(D.agg [(D.sl (n) 2 (List.take (n * 2) (List.drop 0 (List.take (n * 2) (List.drop 0 l))))), (D.val (Go.Value.int Go.IntKind.i64 (a))), (D.val (Go.Value.int Go.IntKind.i64 (b))), (D.val (Go.Value.int Go.IntKind.i64 (c))), (D.val (Go.Value.int Go.IntKind.i64 (d))), (D.val (Go.Value.int Go.IntKind.i64 (e)))]), (D.agg [(D.val (Go.Value.int Go.IntKind.i64 (v))), (D.val (Go.Value.int Go.IntKind.i64 (w)))])] [(D.agg [(D.val (Go.Value.int Go.IntKind.i64 (n3))), (D.val (Go.Value.int Go.IntKind.i64 (n4)))]), (D.val (Go.Value.int Go.IntKind.i64 (n5)))]) ∧
 ((((Go.Value.int Go.IntKind.i64 (n5)) = (Go.Value.int Go.IntKind.i64 (n5))) ∧
 (((Go.Value.agg [(Go.Value.int Go.IntKind.i64 (n3)), (Go.Value.int Go.IntKind.i64 (n4))].toArray) = (Go.Value.agg [(Go.Value.int Go.IntKind.i64 (n3)), (Go.Value.int Go.IntKind.i64 (n4))].toArray)) ∧
 (((Go.Value.tuple [(Go.Value.agg [(Go.Value.int Go.IntKind.i64 (n3)), (Go.Value.int Go.IntKind.i64 (n4))].toArray), (Go.Value.int Go.IntKind.i64 (n5))].toArray) = (Go.Value.tuple [(Go.Value.agg [(Go.Value.int Go.IntKind.i64 (n3)), (Go.Value.int Go.IntKind.i64 (n4))].toArray), (Go.Value.int Go.IntKind.i64 (n5))].toArray)) ∧
 ((((Go.Value.pointer (Option.some (Go.Addr.mk 1004 0 Option.none))) = (Go.Value.pointer (Option.some (Go.Addr.mk 1004 0 Option.none)))) ∧
 ((Option.some (AObj.cells [(Go.Value.int Go.IntKind.i64 (0 : Int)), (Go.Value.int Go.IntKind.i64 (0 : Int))] 40 false 2)) = (Option.some (AObj.cells [(Go.Value.int Go.IntKind.i64 (0 : Int)), (Go.Value.int Go.IntKind.i64 (0 : Int))] 40 false 2)))) ∧
 True)))) ∧
 ((((Go.Value.int Go.IntKind.i64 (n5)) = (Go.Value.int Go.IntKind.i64 (n5))) ∧
 True) ∧
 (True ∧
 (((((Go.Value.pointer (Option.some (Go.Addr.mk 1006 0 Option.none))) = (Go.Value.pointer (Option.some (Go.Addr.mk 1006 0 Option.none)))) ∧
 ((Option.some (AObj.cells [(Go.Value.int Go.IntKind.i64 (0 : Int)), (Go.Value.int Go.IntKind.i64 (0 : Int))] 40 false 2)) = (Option.some (AObj.cells [(Go.Value.int Go.IntKind.i64 (0 : Int)), (Go.Value.int Go.IntKind.i64 (0 : Int))] 40 false 2)))) ∧
 (((Go.Value.int Go.IntKind.i64 (x)) = (Go.Value.int Go.IntKind.i64 (x))) ∧
 (((Go.Value.agg [(Go.Value.int Go.IntKind.i64 (v)), (Go.Value.int Go.IntKind.i64 (w))].toArray) = (Go.Value.agg [(Go.Value.int Go.IntKind.i64 (v)), (Go.Value.int Go.IntKind.i64 (w))].toArray)) ∧
 (((Go.Value.agg [(Go.Value.slice (Option.some (Go.Addr.mk 500 0 Option.none)) (n) (cap)), (Go.Value.int Go.IntKind.i64 (a)), (Go.Value.int Go.IntKind.i64 (b)), (Go.Value.int Go.IntKind.i64 (c)), (Go.Value.int Go.IntKind.i64 (d)), (Go.Value.int Go.IntKind.i64 (e))].toArray) = (Go.Value.agg [(Go.Value.slice (Option.some (Go.Addr.mk 500 0 Option.none)) (n) (cap)), (Go.Value.int Go.IntKind.i64 (a)), (Go.Value.int Go.IntKind.i64 (b)), (Go.Value.int Go.IntKind.i64 (c)), (Go.Value.int Go.IntKind.i64 (d)), (Go.Value.int Go.IntKind.i64 (e))].toArray)) ∧
 True)))) ∧
 (bcase (decide (0 + n * 2 ≤ List.length l))
 ((Says C 20 [(D.agg [(D.sl (n) 2 (List.take (n * 2) (List.drop 0 l))), (D.val (Go.Value.int Go.IntKind.i64 (a))), (D.val (Go.Value.int Go.IntKind.i64 (b))), (D.val (Go.Value.int Go.IntKind.i64 (c))), (D.val (Go.Value.int Go.IntKind.i64 (d))), (D.val (Go.Value.int Go.IntKind.i64 (e)))])] [(D.agg [(D.sl (n) 2 (List.take (n * 2) (List.drop 0 l))), (D.val (Go.Value.int Go.IntKind.i64 (a))), (D.val (Go.Value.int Go.IntKind.i64 (b))), (D.val (Go.Value.int Go.IntKind.i64 (c))), (D.val (Go.Value.int Go.IntKind.i64 (d))), (D.val (Go.Value.int Go.IntKind.i64 (e)))])]) ∧
 (((((Go.Value.pointer (Option.some (Go.Addr.mk 1006 0 Option.none))) = (Go.Value.pointer (Option.some (Go.Addr.mk 1006 0 Option.none)))) ∧
 ((Option.some (AObj.cells [(Go.Value.int Go.IntKind.i64 (0 : Int)), (Go.Value.int Go.IntKind.i64 (0 : Int))] 40 false 2)) = (Option.some (AObj.cells [(Go.Value.int Go.IntKind.i64 (0 : Int)), (Go.Value.int Go.IntKind.i64 (0 : Int))] 40 false 2)))) ∧
 (((Go.Value.int Go.IntKind.i64 (x)) = (Go.Value.int Go.IntKind.i64 (x))) ∧
 (((Go.Value.agg [(Go.Value.int Go.IntKind.i64 (v)), (Go.Value.int Go.IntKind.i64 (w))].toArray) = (Go.Value.agg [(Go.Value.int Go.IntKind.i64 (v)), (Go.Value.int Go.IntKind.i64 (w))].toArray)) ∧
 True))) ∧
 (bcase (decide (0 + n * 2 ≤ List.length (List.take (n * 2) (List.drop 0 l))))
 (∃ n6 : Int,
 (∃ n7 : Int,
 (∃ n8 : Int,
 ((Says C 22 [(D.agg [(D.sl (n) 2 (List.take (n * 2) (List.drop 0 (List.take (n * 2) (List.drop 0 l))))), (D.val (Go.Value.int Go.IntKind.i64 (a))), (D.val (Go.Value.int Go.IntKind.i64 (b))), (D.val (Go.Value.int Go.IntKind.i64 (c))), (D.val (Go.Value.int Go.IntKind.i64 (d))), (D.val (Go.Value.int Go.IntKind.i64 (e)))]), (D.agg [(D.val (Go.Value.int Go.IntKind.i64 (v))), (D.val (Go.Value.int Go.IntKind.i64 (w)))]), (D.val (Go.Value.int Go.IntKind.i64 (x)))] [(D.agg [(D.val (Go.Value.int Go.IntKind.i64 (n6))), (D.val (Go.Value.int Go.IntKind.i64 (n7)))]), (D.val (Go.Value.int Go.IntKind.i64 (n8)))]) ∧
 ((((Go.Value.int Go.IntKind.i64 (n8)) = (Go.Value.int Go.IntKind.i64 (n8))) ∧
 (((Go.Value.agg [(Go.Value.int Go.IntKind.i64 (n6)), (Go.Value.int Go.IntKind.i64 (n7))].toArray) = (Go.Value.agg [(Go.Value.int Go.IntKind.i64 (n6)), (Go.Value.int Go.IntKind.i64 (n7))].toArray)) ∧
 (((Go.Value.tuple [(Go.Value.agg [(Go.Value.int Go.IntKind.i64 (n6)), (Go.Value.int Go.IntKind.i64 (n7))].toArray), (Go.Value.int Go.IntKind.i64 (n8))].toArray) = (Go.Value.tuple [(Go.Value.agg [(Go.Value.int Go.IntKind.i64 (n6)), (Go.Value.int Go.IntKind.i64 (n7))].toArray), (Go.Value.int Go.IntKind.i64 (n8))].toArray)) ∧
 ((((Go.Value.pointer (Option.some (Go.Addr.mk 1006 0 Option.none))) = (Go.Value.pointer (Option.some (Go.Addr.mk 1006 0 Option.none)))) ∧
 ((Option.some (AObj.cells [(Go.Value.int Go.IntKind.i64 (0 : Int)), (Go.Value.int Go.IntKind.i64 (0 : Int))] 40 false 2)) = (Option.some (AObj.cells [(Go.Value.int Go.IntKind.i64 (0 : Int)), (Go.Value.int Go.IntKind.i64 (0 : Int))] 40 false 2)))) ∧
 True)))) ∧
 ((((Go.Value.int Go.IntKind.i64 (n8)) = (Go.Value.int Go.IntKind.i64 (n8))) ∧
 True) ∧
 (True ∧
 (bcase (decide (0 + n * 2 ≤ List.length l))
 (∃ n9 : Int,
 (∃ n10 : Int,
 ((Says C 23 [(D.agg [(D.sl (n) 2 (List.take (n * 2) (List.drop 0 l))), (D.val (Go.Value.int Go.IntKind.i64 (a))), (D.val (Go.Value.int Go.IntKind.i64 (b))), (D.val (Go.Value.int Go.IntKind.i64 (c))), (D.val (Go.Value.int Go.IntKind.i64 (d))), (D.val (Go.Value.int Go.IntKind.i64 (e)))])] [(D.val (Go.Value.int Go.IntKind.i64 (n9))), (D.val (Go.Value.int Go.IntKind.i64 (n10)))]) ∧
 (bcase (n2 != n10)
 (k [(D.val (Go.Value.bool false))])
 (bcase (n1 != n9)
 (k [(D.val (Go.Value.bool false))])
 (bcase (n10 == 0)
 (bcase (decide (0 ≤ v))
 (bcase (decide (v ≤ 1000000))
 (bcase (decide (0 ≤ w))
 (bcase (decide (w ≤ e))
 (bcase (n5 != 0)
 ((((Go.Value.tuple [].toArray) = (Go.Value.tuple [].toArray)) ∧
 (((Go.Value.tuple [].toArray) = (Go.Value.tuple [].toArray)) ∧
 (((Go.Value.tuple [].toArray) = (Go.Value.tuple [].toArray)) ∧
 (((Go.Value.bool true) = (Go.Value.bool true)) ∧
 ((bcase (n5 != 0)
 ((Go.Value.bool true) = (Go.Value.bool true))
 ((Go.Value.bool false) = (Go.Value.bool true))) ∧
 (((Go.Value.int Go.IntKind.i64 (n5)) = (Go.Value.int Go.IntKind.i64 (n5))) ∧
 True)))))) ∧
 ((((Go.Value.bool true) = (Go.Value.bool true)) ∧
 (((Go.Value.tuple [].toArray) = (Go.Value.tuple [].toArray)) ∧
 (((Go.Value.tuple [].toArray) = (Go.Value.tuple [].toArray)) ∧
 ((bcase (n5 != 0)
 ((Go.Value.bool true) = (Go.Value.bool true))
 ((Go.Value.bool false) = (Go.Value.bool true))) ∧
 (((Go.Value.int Go.IntKind.i64 (n5)) = (Go.Value.int Go.IntKind.i64 (n5))) ∧
 True))))) ∧
 (k [(D.val (Go.Value.bool false))])))
 ((((Go.Value.agg [(Go.Value.int Go.IntKind.i64 (v)), (Go.Value.int Go.IntKind.i64 (w))].toArray) = (Go.Value.agg [(Go.Value.int Go.IntKind.i64 (v)), (Go.Value.int Go.IntKind.i64 (w))].toArray)) ∧
 (((Go.Value.agg [(Go.Value.slice (Option.some (Go.Addr.mk 500 0 Option.none)) (n) (cap)), (Go.Value.int Go.IntKind.i64 (a)), (Go.Value.int Go.IntKind.i64 (b)), (Go.Value.int Go.IntKind.i64 (c)), (Go.Value.int Go.IntKind.i64 (d)), (Go.Value.int Go.IntKind.i64 (e))].toArray) = (Go.Value.agg [(Go.Value.slice (Option.some (Go.Addr.mk 500 0 Option.none)) (n) (cap)), (Go.Value.int Go.IntKind.i64 (a)), (Go.Value.int Go.IntKind.i64 (b)), (Go.Value.int Go.IntKind.i64 (c)), (Go.Value.int Go.IntKind.i64 (d)), (Go.Value.int Go.IntKind.i64 (e))].toArray)) ∧
 (((Go.Value.agg [(Go.Value.int Go.IntKind.i64 (n3)), (Go.Value.int Go.IntKind.i64 (n4))].toArray) = (Go.Value.agg [(Go.Value.int Go.IntKind.i64 (n3)), (Go.Value.int Go.IntKind.i64 (n4))].toArray)) ∧
 (((Go.Value.bool false) = (Go.Value.bool false)) ∧
 ((bcase (n5 != 0)
 ((Go.Value.bool true) = (Go.Value.bool false))
 ((Go.Value.bool false) = (Go.Value.bool false))) ∧
 (((Go.Value.int Go.IntKind.i64 (n5)) = (Go.Value.int Go.IntKind.i64 (n5))) ∧
 True)))))) ∧
 (bcase (decide (0 + n * 2 ≤ List.length l))
 (∃ n11 : Int,
 (∃ n12 : Int,
 ((Says C 25 [(D.agg [(D.sl (n) 2 (List.take (n * 2) (List.drop 0 l))), (D.val (Go.Value.int Go.IntKind.i64 (a))), (D.val (Go.Value.int Go.IntKind.i64 (b))), (D.val (Go.Value.int Go.IntKind.i64 (c))), (D.val (Go.Value.int Go.IntKind.i64 (d))), (D.val (Go.Value.int Go.IntKind.i64 (e)))]), (D.agg [(D.val (Go.Value.int Go.IntKind.i64 (v))), (D.val (Go.Value.int Go.IntKind.i64 (w)))])] [(D.agg [(D.val (Go.Value.int Go.IntKind.i64 (n11))), (D.val (Go.Value.int Go.IntKind.i64 (n12)))])]) ∧
 (bcase (if Bool.true = Bool.true then !(n3 == n11 && (n4 == n12 && Bool.true)) else n3 == n11 && (n4 == n12 && Bool.true))
 ((((Go.Value.bool true) = (Go.Value.bool true)) ∧
 ((bcase (if Bool.true = Bool.true then !(n3 == n11 && (n4 == n12 && Bool.true)) else n3 == n11 && (n4 == n12 && Bool.true))
 ((Go.Value.bool true) = (Go.Value.bool true))
 ((Go.Value.bool false) = (Go.Value.bool true))) ∧
 (((Go.Value.agg [(Go.Value.int Go.IntKind.i64 (n3)), (Go.Value.int Go.IntKind.i64 (n4))].toArray) = (Go.Value.agg [(Go.Value.int Go.IntKind.i64 (n3)), (Go.Value.int Go.IntKind.i64 (n4))].toArray)) ∧
 ((bcase (n5 != 0)
 ((Go.Value.bool true) = (Go.Value.bool false))
 ((Go.Value.bool false) = (Go.Value.bool false))) ∧
 (((Go.Value.int Go.IntKind.i64 (n5)) = (Go.Value.int Go.IntKind.i64 (n5))) ∧
 True))))) ∧
 (k [(D.val (Go.Value.bool false))]))
 ((((Go.Value.bool false) = (Go.Value.bool false)) ∧
 ((bcase (if Bool.true = Bool.true then !(n3 == n11 && (n4 == n12 && Bool.true)) else n3 == n11 && (n4 == n12 && Bool.true))
 ((Go.Value.bool true) = (Go.Value.bool false))
 ((Go.Value.bool false) = (Go.Value.bool false))) ∧
 (((Go.Value.agg [(Go.Value.int Go.IntKind.i64 (n3)), (Go.Value.int Go.IntKind.i64 (n4))].toArray) = (Go.Value.agg [(Go.Value.int Go.IntKind.i64 (n3)), (Go.Value.int Go.IntKind.i64 (n4))].toArray)) ∧
 ((bcase (n5 != 0)
 ((Go.Value.bool true) = (Go.Value.bool false))
 ((Go.Value.bool false) = (Go.Value.bool false))) ∧
 (((Go.Value.int Go.IntKind.i64 (n5)) = (Go.Value.int Go.IntKind.i64 (n5))) ∧
 True))))) ∧
 (bcase (decide (0 ≤ x))
 (bcase (decide (x ≤ 20000))
 (bcase (decide (0 + n * 2 ≤ List.length l))
 (∃ n13 : Int,
 (∃ n14 : Int,
 (((Says C 26 [(D.agg [(D.sl (n) 2 (List.take (n * 2) (List.drop 0 l))), (D.val (Go.Value.int Go.IntKind.i64 (a))), (D.val (Go.Value.int Go.IntKind.i64 (b))), (D.val (Go.Value.int Go.IntKind.i64 (c))), (D.val (Go.Value.int Go.IntKind.i64 (d))), (D.val (Go.Value.int Go.IntKind.i64 (e)))]), (D.agg [(D.val (Go.Value.int Go.IntKind.i64 (v))), (D.val (Go.Value.int Go.IntKind.i64 (w)))]), (D.val (Go.Value.int Go.IntKind.i64 (x)))] [(D.agg [(D.val (Go.Value.int Go.IntKind.i64 (n13))), (D.val (Go.Value.int Go.IntKind.i64 (n14)))]), (D.val (Go.Value.bool true))]) ∧
 (bcase (n8 == 0)
 (bcase (if Bool.false = Bool.true then !(n6 == n13 && (n7 == n14 && Bool.true)) else n6 == n13 && (n7 == n14 && Bool.true))
 (k [(D.val (Go.Value.bool true))])
 (k [(D.val (Go.Value.bool false))]))
 (k [(D.val (Go.Value.bool false))]))) ∨
 ((Says C 26 [(D.agg [(D.sl (n) 2 (List.take (n * 2) (List.drop 0 l))), (D.val (Go.Value.int Go.IntKind.i64 (a))), (D.val (Go.Value.int Go.IntKind.i64 (b))), (D.val (Go.Value.int Go.IntKind.i64 (c))), (D.val (Go.Value.int Go.IntKind.i64 (d))), (D.val (Go.Value.int Go.IntKind.i64 (e)))]), (D.agg [(D.val (Go.Value.int Go.IntKind.i64 (v))), (D.val (Go.Value.int Go.IntKind.i64 (w)))]), (D.val (Go.Value.int Go.IntKind.i64 (x)))] [(D.agg [(D.val (Go.Value.int Go.IntKind.i64 (n13))), (D.val (Go.Value.int Go.IntKind.i64 (n14)))]), (D.val (Go.Value.bool false))]) ∧
 (bcase (n8 == 8)
 (bcase (if Bool.false = Bool.true then !(n6 == 0 && (n7 == 0 && Bool.true)) else n6 == 0 && (n7 == 0 && Bool.true))
 (k [(D.val (Go.Value.bool true))])
 (k [(D.val (Go.Value.bool false))]))
 (k [(D.val (Go.Value.bool false))]))))))
 False)
 (bcase (n8 == 2)
 (bcase (if Bool.false = Bool.true then !(n6 == 0 && (n7 == 0 && Bool.true)) else n6 == 0 && (n7 == 0 && Bool.true))
 (k [(D.val (Go.Value.bool true))])
 (k [(D.val (Go.Value.bool false))]))
 (k [(D.val (Go.Value.bool false))])))
 (bcase (n8 == 2)
 (bcase (if Bool.false = Bool.true then !(n6 == 0 && (n7 == 0 && Bool.true)) else n6 == 0 && (n7 == 0 && Bool.true))
 (k [(D.val (Go.Value.bool true))])
 (k [(D.val (Go.Value.bool false))]))
 (k [(D.val (Go.Value.bool false))]))))))))
 False)))
 (bcase (n5 == 2)
 (bcase (n8 == 2)
 (bcase (if Bool.false = Bool.true then !(n3 == 0 && (n4 == 0 && Bool.true)) else n3 == 0 && (n4 == 0 && Bool.true))
 (bcase (if Bool.false = Bool.true then !(n6 == 0 && (n7 == 0 && Bool.true)) else n6 == 0 && (n7 == 0 && Bool.true))
 (k [(D.val (Go.Value.bool true))])
 (k [(D.val (Go.Value.bool false))]))
 (k [(D.val (Go.Value.bool false))]))
 (k [(D.val (Go.Value.bool false))]))
 (k [(D.val (Go.Value.bool false))])))
 (bcase (n5 == 2)
 (bcase (n8 == 2)
 (bcase (if Bool.false = Bool.true then !(n3 == 0 && (n4 == 0 && Bool.true)) else n3 == 0 && (n4 == 0 && Bool.true))
 (bcase (if Bool.false = Bool.true then !(n6 == 0 && (n7 == 0 && Bool.true)) else n6 == 0 && (n7 == 0 && Bool.true))
 (k [(D.val (Go.Value.bool true))])
 (k [(D.val (Go.Value.bool false))]))
 (k [(D.val (Go.Value.bool false))]))
 (k [(D.val (Go.Value.bool false))]))
 (k [(D.val (Go.Value.bool false))])))
 (bcase (n5 == 2)
 (bcase (n8 == 2)
 (bcase (if Bool.false = Bool.true then !(n3 == 0 && (n4 == 0 && Bool.true)) else n3 == 0 && (n4 == 0 && Bool.true))
 (bcase (if Bool.false = Bool.true then !(n6 == 0 && (n7 == 0 && Bool.true)) else n6 == 0 && (n7 == 0 && Bool.true))
 (k [(D.val (Go.Value.bool true))])
 (k [(D.val (Go.Value.bool false))]))
 (k [(D.val (Go.Value.bool false))]))
 (k [(D.val (Go.Value.bool false))]))
 (k [(D.val (Go.Value.bool false))])))
 (bcase (n5 == 2)
 (bcase (n8 == 2)
 (bcase (if Bool.false = Bool.true then !(n3 == 0 && (n4 == 0 && Bool.true)) else n3 == 0 && (n4 == 0 && Bool.true))
 (bcase (if Bool.false = Bool.true then !(n6 == 0 && (n7 == 0 && Bool.true)) else n6 == 0 && (n7 == 0 && Bool.true))
 (k [(D.val (Go.Value.bool true))])
 (k [(D.val (Go.Value.bool false))]))
 (k [(D.val (Go.Value.bool false))]))
 (k [(D.val (Go.Value.bool false))]))
 (k [(D.val (Go.Value.bool false))])))
 (bcase (n10 != 0)
 (bcase (n5 == n10)
 (bcase (n8 == n10)
 (bcase (if Bool.false = Bool.true then !(n3 == 0 && (n4 == 0 && Bool.true)) else n3 == 0 && (n4 == 0 && Bool.true))
 (bcase (if Bool.false = Bool.true then !(n6 == 0 && (n7 == 0 && Bool.true)) else n6 == 0 && (n7 == 0 && Bool.true))
 (k [(D.val (Go.Value.bool true))])
 (k [(D.val (Go.Value.bool false))]))
 (k [(D.val (Go.Value.bool false))]))
 (k [(D.val (Go.Value.bool false))]))
 (k [(D.val (Go.Value.bool false))]))
 (bcase (n5 != 0)
 ((((Go.Value.tuple [].toArray) = (Go.Value.tuple [].toArray)) ∧
 (((Go.Value.tuple [].toArray) = (Go.Value.tuple [].toArray)) ∧
 (((Go.Value.tuple [].toArray) = (Go.Value.tuple [].toArray)) ∧
 (((Go.Value.bool true) = (Go.Value.bool true)) ∧
 ((bcase (n5 != 0)
 ((Go.Value.bool true) = (Go.Value.bool true))
 ((Go.Value.bool false) = (Go.Value.bool true))) ∧
 (((Go.Value.int Go.IntKind.i64 (n5)) = (Go.Value.int Go.IntKind.i64 (n5))) ∧
 True)))))) ∧
 ((((Go.Value.bool true) = (Go.Value.bool true)) ∧
 (((Go.Value.tuple [].toArray) = (Go.Value.tuple [].toArray)) ∧
 (((Go.Value.tuple [].toArray) = (Go.Value.tuple [].toArray)) ∧
 ((bcase (n5 != 0)
 ((Go.Value.bool true) = (Go.Value.bool true))
 ((Go.Value.bool false) = (Go.Value.bool true))) ∧
 (((Go.Value.int Go.IntKind.i64 (n5)) = (Go.Value.int Go.IntKind.i64 (n5))) ∧
 True))))) ∧
 (k [(D.val (Go.Value.bool false))])))
 ((((Go.Value.agg [(Go.Value.int Go.IntKind.i64 (v)), (Go.Value.int Go.IntKind.i64 (w))].toArray) = (Go.Value.agg [(Go.Value.int Go.IntKind.i64 (v)), (Go.Value.int Go.IntKind.i64 (w))].toArray)) ∧
 (((Go.Value.agg [(Go.Value.slice (Option.some (Go.Addr.mk 500 0 Option.none)) (n) (cap)), (Go.Value.int Go.IntKind.i64 (a)), (Go.Value.int Go.IntKind.i64 (b)), (Go.Value.int Go.IntKind.i64 (c)), (Go.Value.int Go.IntKind.i64 (d)), (Go.Value.int Go.IntKind.i64 (e))].toArray) = (Go.Value.agg [(Go.Value.slice (Option.some (Go.Addr.mk 500 0 Option.none)) (n) (cap)), (Go.Value.int Go.IntKind.i64 (a)), (Go.Value.int Go.IntKind.i64 (b)), (Go.Value.int Go.IntKind.i64 (c)), (Go.Value.int Go.IntKind.i64 (d)), (Go.Value.int Go.IntKind.i64 (e))].toArray)) ∧
 (((Go.Value.agg [(Go.Value.int Go.IntKind.i64 (n3)), (Go.Value.int Go.IntKind.i64 (n4))].toArray) = (Go.Value.agg [(Go.Value.int Go.IntKind.i64 (n3)), (Go.Value.int Go.IntKind.i64 (n4))].toArray)) ∧
 (((Go.Value.bool false) = (Go.Value.bool false)) ∧
 ((bcase (n5 != 0)
 ((Go.Value.bool true) = (Go.Value.bool false))
 ((Go.Value.bool false) = (Go.Value.bool false))) ∧
 (((Go.Value.int Go.IntKind.i64 (n5)) = (Go.Value.int Go.IntKind.i64 (n5))) ∧
 True)))))) ∧
 (bcase (decide (0 + n * 2 ≤ List.length l))
 (∃ n11 : Int,
 (∃ n12 : Int,
 ((Says C 25 [(D.agg [(D.sl (n) 2 (List.take (n * 2) (List.drop 0 l))), (D.val (Go.Value.int Go.IntKind.i64 (a))), (D.val (Go.Value.int Go.IntKind.i64 (b))), (D.val (Go.Value.int Go.IntKind.i64 (c))), (D.val (Go.Value.int Go.IntKind.i64 (d))), (D.val (Go.Value.int Go.IntKind.i64 (e)))]), (D.agg [(D.val (Go.Value.int Go.IntKind.i64 (v))), (D.val (Go.Value.int Go.IntKind.i64 (w)))])] [(D.agg [(D.val (Go.Value.int Go.IntKind.i64 (n11))), (D.val (Go.Value.int Go.IntKind.i64 (n12)))])]) ∧
 (bcase (if Bool.true = Bool.true then !(n3 == n11 && (n4 == n12 && Bool.true)) else n3 == n11 && (n4 == n12 && Bool.true))
 ((((Go.Value.bool true) = (Go.Value.bool true)) ∧
 ((bcase (if Bool.true = Bool.true then !(n3 == n11 && (n4 == n12 && Bool.true)) else n3 == n11 && (n4 == n12 && Bool.true))
 ((Go.Value.bool true) = (Go.Value.bool true))
 ((Go.Value.bool false) = (Go.Value.bool true))) ∧
 (((Go.Value.agg [(Go.Value.int Go.IntKind.i64 (n3)), (Go.Value.int Go.IntKind.i64 (n4))].toArray) = (Go.Value.agg [(Go.Value.int Go.IntKind.i64 (n3)), (Go.Value.int Go.IntKind.i64 (n4))].toArray)) ∧
 ((bcase (n5 != 0)
 ((Go.Value.bool true) = (Go.Value.bool false))
 ((Go.Value.bool false) = (Go.Value.bool false))) ∧
 (((Go.Value.int Go.IntKind.i64 (n5)) = (Go.Value.int Go.IntKind.i64 (n5))) ∧
 True))))) ∧
 (k [(D.val (Go.Value.bool false))]))
 ((((Go.Value.bool false) = (Go.Value.bool false)) ∧
 ((bcase (if Bool.true = Bool.true then !(n3 == n11 && (n4 == n12 && Bool.true)) else n3 == n11 && (n4 == n12 && Bool.true))
 ((Go.Value.bool true) = (Go.Value.bool false))
 ((Go.Value.bool false) = (Go.Value.bool false))) ∧
 (((Go.Value.agg [(Go.Value.int Go.IntKind.i64 (n3)), (Go.Value.int Go.IntKind.i64 (n4))].toArray) = (Go.Value.agg [(Go.Value.int Go.IntKind.i64 (n3)), (Go.Value.int Go.IntKind.i64 (n4))].toArray)) ∧
 ((bcase (n5 != 0)
 ((Go.Value.bool true) = (Go.Value.bool false))
 ((Go.Value.bool false) = (Go.Value.bool false))) ∧
 (((Go.Value.int Go.IntKind.i64 (n5)) = (Go.Value.int Go.IntKind.i64 (n5))) ∧
 True))))) ∧
 (bcase (decide (0 ≤ x))
 (bcase (decide (x ≤ 20000))
 (bcase (decide (0 + n * 2 ≤ List.length l))
 (∃ n13 : Int,
 (∃ n14 : Int,
 (((Says C 26 [(D.agg [(D.sl (n) 2 (List.take (n * 2) (List.drop 0 l))), (D.val (Go.Value.int Go.IntKind.i64 (a))), (D.val (Go.Value.int Go.IntKind.i64 (b))), (D.val (Go.Value.int Go.IntKind.i64 (c))), (D.val (Go.Value.int Go.IntKind.i64 (d))), (D.val (Go.Value.int Go.IntKind.i64 (e)))]), (D.agg [(D.val (Go.Value.int Go.IntKind.i64 (v))), (D.val (Go.Value.int Go.IntKind.i64 (w)))]), (D.val (Go.Value.int Go.IntKind.i64 (x)))] [(D.agg [(D.val (Go.Value.int Go.IntKind.i64 (n13))), (D.val (Go.Value.int Go.IntKind.i64 (n14)))]), (D.val (Go.Value.bool true))]) ∧
 (bcase (n8 == 0)
 (bcase (if Bool.false = Bool.true then !(n6 == n13 && (n7 == n14 && Bool.true)) else n6 == n13 && (n7 == n14 && Bool.true))
 (k [(D.val (Go.Value.bool true))])
 (k [(D.val (Go.Value.bool false))]))
 (k [(D.val (Go.Value.bool false))]))) ∨
 ((Says C 26 [(D.agg [(D.sl (n) 2 (List.take (n * 2) (List.drop 0 l))), (D.val (Go.Value.int Go.IntKind.i64 (a))), (D.val (Go.Value.int Go.IntKind.i64 (b))), (D.val (Go.Value.int Go.IntKind.i64 (c))), (D.val (Go.Value.int Go.IntKind.i64 (d))), (D.val (Go.Value.int Go.IntKind.i64 (e)))]), (D.agg [(D.val (Go.Value.int Go.IntKind.i64 (v))), (D.val (Go.Value.int Go.IntKind.i64 (w)))]), (D.val (Go.Value.int Go.IntKind.i64 (x)))] [(D.agg [(D.val (Go.Value.int Go.IntKind.i64 (n13))), (D.val (Go.Value.int Go.IntKind.i64 (n14)))]), (D.val (Go.Value.bool false))]) ∧
 (bcase (n8 == 8)
 (bcase (if Bool.false = Bool.true then !(n6 == 0 && (n7 == 0 && Bool.true)) else n6 == 0 && (n7 == 0 && Bool.true))
 (k [(D.val (Go.Value.bool true))])
 (k [(D.val (Go.Value.bool false))]))
 (k [(D.val (Go.Value.bool false))]))))))
 False)
 (bcase (n8 == 2)
 (bcase (if Bool.false = Bool.true then !(n6 == 0 && (n7 == 0 && Bool.true)) else n6 == 0 && (n7 == 0 && Bool.true))
 (k [(D.val (Go.Value.bool true))])
 (k [(D.val (Go.Value.bool false))]))
 (k [(D.val (Go.Value.bool false))])))
 (bcase (n8 == 2)
 (bcase (if Bool.false = Bool.true then !(n6 == 0 && (n7 == 0 && Bool.true)) else n6 == 0 && (n7 == 0 && Bool.true))
 (k [(D.val (Go.Value.bool true))])
 (k [(D.val (Go.Value.bool false))]))
 (k [(D.val (Go.Value.bool false))]))))))))
 False))))))))))
 False))))))))
 False)))
 False)))))))))
 False)))
 False)))))
 False))
 False)
 (k [(D.val (Go.Value.bool true))]))) ∨
 ((Says C 9 [] [(D.val (Go.Value.bool false))]) ∧
 (k [(D.val (Go.Value.bool false))]))) := by kernel_rfl
def g4n (C : Ct) (L : AtLoop) (a b c d e v w x : Int) (k : List D → Prop) : Prop := wpFn Try.prog (hM C) L 0 4 #[vR (.slice none 0 0) a b c d e, vP v w, vI x] (heapOf []) (dataK k)
theorem g4n_text (C : Ct) (L : AtLoop) (a : Int) (b : Int) (c : Int) (d : Int) (e : Int) (v : Int) (w : Int) (x : Int) (k : List D → Prop) : g4n C L a b c d e v w x k =
 (((Says C 9 [] [(D.val (Go.Value.bool true))]) ∧
 ((Says C 20 [(D.agg [D.nil, (D.val (Go.Value.int Go.IntKind.i64 (a))), (D.val (Go.Value.int Go.IntKind.i64 (b))), (D.val (Go.Value.int Go.IntKind.i64 (c))), (D.val (Go.Value.int Go.IntKind.i64 (d))), (D.val (Go.Value.int Go.IntKind.i64 (e)))])] [(D.agg [(D.sl 0 2 []), (D.val (Go.Value.int Go.IntKind.i64 (a))), (D.val (Go.Value.int Go.IntKind.i64 (b))), (D.val (Go.Value.int Go.IntKind.i64 (c))), (D.val (Go.Value.int Go.IntKind.i64 (d))), (D.val (Go.Value.int Go.IntKind.i64 (e)))])]) ∧
 (∃ n1 : Int,
 (∃ n2 : Int,
 ((Says C 19 [(D.agg [(D.sl 0 2 []), (D.val (Go.Value.int Go.IntKind.i64 (a))), (D.val (Go.Value.int Go.IntKind.i64 (b))), (D.val (Go.Value.int Go.IntKind.i64 (c))), (D.val (Go.Value.int Go.IntKind.i64 (d))), (D.val (Go.Value.int Go.IntKind.i64 (e)))])] [(D.val (Go.Value.int Go.IntKind.i64 (n1))), (D.val (Go.Value.int Go.IntKind.i64 (n2)))]) ∧
 (((((Go.Value.pointer (Option.some (Go.Addr.mk 1004 0 Option.none))) = (Go.Value.pointer (Option.some (Go.Addr.mk 1004 0 Option.none)))) ∧
 ((Option.some (AObj.cells [(Go.Value.int Go.IntKind.i64 (0 : Int)), (Go.Value.int Go.IntKind.i64 (0 : Int))] 40 false 2)) = (Option.some (AObj.cells [(Go.Value.int Go.IntKind.i64 (0 : Int)), (Go.Value.int Go.IntKind.i64 (0 : Int))] 40 false 2)))) ∧
 (((Go.Value.agg [(Go.Value.int Go.IntKind.i64 (v)), (Go.Value.int Go.IntKind.i64 (w))].toArray) = (Go.Value.agg [(Go.Value.int Go.IntKind.i64 (v)), (Go.Value.int Go.IntKind.i64 (w))].toArray)) ∧
 (((Go.Value.agg [(Go.Value.slice Option.none 0 0), (Go.Value.int Go.IntKind.i64 (a)), (Go.Value.int Go.IntKind.i64 (b)), (Go.Value.int Go.IntKind.i64 (c)), (Go.Value.int Go.IntKind.i64 (d)), (Go.Value.int Go.IntKind.i64 (e))].toArray) = (Go.Value.agg [(Go.Value.slice Option.none 0 0), (Go.Value.int Go.IntKind.i64 (a)), (Go.Value.int Go.IntKind.i64 (b)), (Go.Value.int Go.IntKind.i64 (c)), (Go.Value.int Go.IntKind.i64 (d)), (Go.Value.int Go.IntKind.i64 (e))].toArray)) ∧
 True))) ∧
 ((Says C 20 [(D.agg [D.nil, (D.val (Go.Value.int Go.IntKind.i64 (a))), (D.val (Go.Value.int Go.IntKind.i64 (b))), (D.val (Go.Value.int Go.IntKind.i64 (c))), (D.val (Go.Value.int Go.IntKind.i64 (d))), (D.val (Go.Value.int Go.IntKind.i64 (e)))])] [(D.agg [(D.sl 0 2 []), (D.val (Go.Value.int Go.IntKind.i64 (a))), (D.val (Go.Value.int Go.IntKind.i64 (b))), (D.val (Go.Value.int Go.IntKind.i64 (c))), (D.val (Go.Value.int Go.IntKind.i64 (d))), (D.val (Go.Value.int Go.IntKind.i64 (e)))])]) ∧
 (((((Go.Value.pointer (Option.some (Go.Addr.mk 1004 0 Option.none))) = (Go.Value.pointer (Option.some (Go.Addr.mk 1004 0 Option.none)))) ∧
 ((Option.some (AObj.cells [(Go.Value.int Go.IntKind.i64 (0 : Int)), (Go.Value.int Go.IntKind.i64 (0 : Int))] 40 false 2)) = (Option.some (AObj.cells [(Go.Value.int Go.IntKind.i64 (0 : Int)), (Go.Value.int Go.IntKind.i64 (0 : Int))] 40 false 2)))) ∧
 (((Go.Value.agg [(Go.Value.int Go.IntKind.i64 (v)), (Go.Value.int Go.IntKind.i64 (w))].toArray) = (Go.Value.agg [(Go.Value.int Go.IntKind.i64 (v)), (Go.Value.int Go.IntKind.i64 (w))].toArray)) ∧
 True)) ∧
 (∃ n3 : Int,
 (∃ n4 : Int,
 (∃ n5 : Int,
 ((Says C 21 [(D.agg [(D.sl 0 2 []), (D.val (Go.Value.int Go.IntKind.i64 (a))), (D.val (Go.Value.int Go.IntKind.i64 (b))), (D.val (Go.Value.int Go.IntKind.i64 (c))), (D.val (Go.Value.int Go.IntKind.i64 (d))), (D.val (Go.Value.int Go.IntKind.i64 (e)))]), (D.agg [(D.val (Go.Value.int Go.IntKind.i64 (v))), (D.val (Go.Value.int Go.IntKind.i64 (w)))])] [(D.agg [(D.val (Go.Value.int Go.IntKind.i64 (n3))), (D.val (Go.Value.int Go.IntKind.i64 (n4)))]), (D.val (Go.Value.int Go.IntKind.i64 (n5)))]) ∧
 ((((Go.Value.int Go.IntKind.i64 (n5)) = (Go.Value.int Go.IntKind.i64 (n5))) ∧
 (((Go.Value.agg [(Go.Value.int Go.IntKind.i64 (n3)), (Go.Value.int Go.IntKind.i64 (n4))].toArray) = (Go.Value.agg [(Go.Value.int Go.IntKind.i64 (n3)), (Go.Value.int Go.IntKind.i64 (n4))].toArray)) ∧
 (((Go.Value.tuple [(Go.Value.agg [(Go.Value.int Go.IntKind.i64 (n3)), (Go.Value.int Go.IntKind.i64 (n4))].toArray), (Go.Value.int Go.IntKind.i64 (n5))].toArray) = (Go.Value.tuple [(Go.Value.agg [(Go.Value.int Go.IntKind.i64 (n3)), (Go.Value.int Go.IntKind.i64 (n4))].toArray), (Go.Value.int Go.IntKind.i64 (n5))].toArray)) ∧
 ((((Go.Value.pointer (Option.some (Go.Addr.mk 1004 0 Option.none))) = (Go.Value.pointer (Option.some (Go.Addr.mk 1004 0 Option.none)))) ∧
 ((Option.some (AObj.cells [(Go.Value.int Go.IntKind.i64 (0 : Int)), (Go.Value.int Go.IntKind.i64 (0 : Int))] 40 false 2)) = (Option.some (AObj.cells [(Go.Value.int Go.IntKind.i64 (0 : Int)), (Go.Value.int Go.IntKind.i64 (0 : Int))] 40 false 2)))) ∧
 True)))) ∧
 ((((Go.Value.int Go.IntKind.i64 (n5)) = (Go.Value.int Go.IntKind.i64 (n5))) ∧
 True) ∧
 (True ∧
 (((((Go.Value.pointer (Option.some (Go.Addr.mk 1006 0 Option.none))) = (Go.Value.pointer (Option.some (Go.Addr.mk 1006 0 Option.none)))) ∧
 ((Option.some (AObj.cells [(Go.Value.int Go.IntKind.i64 (0 : Int)), (Go.Value.int Go.IntKind.i64 (0 : Int))] 40 false 2)) = (Option.some (AObj.cells [(Go.Value.int Go.IntKind.i64 (0 : Int)), (Go.Value.int Go.IntKind.i64 (0 : Int))] 40 false 2)))) ∧
 (((Go.Value.int Go.IntKind.i64 (x)) = (Go.Value.int Go.IntKind.i64 (x))) ∧
 (((Go.Value.agg [(Go.Value.int Go.IntKind.i64 (v)), (Go.Value.int Go.IntKind.i64 (w))].toArray) = (Go.Value.agg [(Go.Value.int Go.IntKind.i64 (v)), (Go.Value.int Go.IntKind.i64 (w))].toArray)) ∧
 (((Go.Value.agg [(Go.Value.slice Option.none 0 0), (Go.Value.int Go.IntKind.i64 (a)), (Go.Value.int Go.IntKind.i64 (b)), (Go.Value.int Go.IntKind.i64 (c)), (Go.Value.int Go.IntKind.i64 (d)), (Go.Value.int Go.IntKind.i64 (e))].toArray) = (Go.Value.agg [(Go.Value.slice Option.none 0 0), (Go.Value.int Go.IntKind.i64 (a)), (Go.Value.int Go.IntKind.i64 (b)), (Go.Value.int Go.IntKind.i64 (c)), (Go.Value.int Go.IntKind.i64 (d)), (Go.Value.int Go.IntKind.i64 (e))].toArray)) ∧
 True)))) ∧
 ((Says C 20 [(D.agg [D.nil, (D.val (Go.Value.int Go.IntKind.i64 (a))), (D.val (Go.Value.int Go.IntKind.i64 (b))), (D.val (Go.Value.int Go.IntKind.i64 (c))), (D.val (Go.Value.int Go.IntKind.i64 (d))), (D.val (Go.Value.int Go.IntKind.i64 (e)))])] [(D.agg [(D.sl 0 2 []), (D.val (Go.Value.int Go.IntKind.i64 (a))), (D.val (Go.Value.int Go.IntKind.i64 (b))), (D.val (Go.Value.int Go.IntKind.i64 (c))), (D.val (Go.Value.int Go.IntKind.i64 (d))), (D.val (Go.Value.int Go.IntKind.i64 (e)))])]) ∧
 (((((Go.Value.pointer (Option.some (Go.Addr.mk 1006 0 Option.none))) = (Go.Value.pointer (Option.some (Go.Addr.mk 1006 0 Option.none)))) ∧
 ((Option.some (AObj.cells [(Go.Value.int Go.IntKind.i64 (0 : Int)), (Go.Value.int Go.IntKind.i64 (0 : Int))] 40 false 2)) = (Option.some (AObj.cells [(Go.Value.int Go.IntKind.i64 (0 : Int)), (Go.Value.int Go.IntKind.i64 (0 : Int))] 40 false 2)))) ∧
 (((Go.Value.int Go.IntKind.i64 (x)) = (Go.Value.int Go.IntKind.i64 (x))) ∧
 (((Go.Value.agg [(Go.Value.int Go.IntKind.i64 (v)), (Go.Value.int Go.IntKind.i64 (w))].toArray) = (Go.Value.agg [(Go.Value.int Go.IntKind.i64 (v)), (Go.Value.int Go.IntKind.i64 (w))].toArray)) ∧
 True))) ∧
 (∃ n6 : Int,
 (∃ n7 : Int,
 (∃ n8 : Int,
 ((Says C 22 [(D.agg [(D.sl 0 2 []), (D.val (Go.Value.int Go.IntKind.i64 (a))), (D.val (Go.Value.int Go.IntKind.i64 (b))), (D.val (Go.Value.int Go.IntKind.i64 (c))), (D.val (Go.Value.int Go.IntKind.i64 (d))), (D.val (Go.Value.int Go.IntKind.i64 (e)))]), (D.agg [(D.val (Go.Value.int Go.IntKind.i64 (v))), (D.val (Go.Value.int Go.IntKind.i64 (w)))]), (D.val (Go.Value.int Go.IntKind.i64 (x)))] [(D.agg [(D.val (Go.Value.int Go.IntKind.i64 (n6))), (D.val (Go.Value.int Go.IntKind.i64 (n7)))]), (D.val (Go.Value.int Go.IntKind.i64 (n8)))]) ∧
 ((((Go.Value.int Go.IntKind.i64 (n8)) = (Go.Value.int Go.IntKind.i64 (n8))) ∧
 (((Go.Value.agg [(Go.Value.int Go.IntKind.i64 (n6)), (Go.Value.int Go.IntKind.i64 (n7))].toArray) = (Go.Value.agg [(Go.Value.int Go.IntKind.i64 (n6)), (Go.Value.int Go.IntKind.i64 (n7))].toArray)) ∧
 (((Go.Value.tuple [(Go.Value.agg [(Go.Value.int Go.IntKind.i64 (n6)), (Go.Value.int Go.IntKind.i64 (n7))].toArray), (Go.Value.int Go.IntKind.i64 (n8))].toArray) = (Go.Value.tuple [(Go.Value.agg [(Go.Value.int Go.IntKind.i64 (n6)), (Go.Value.int Go.IntKind.i64 (n7))].toArray), (Go.Value.int Go.IntKind.i64 (n8))].toArray)) ∧
 ((((Go.Value.pointer (Option.some (Go.Addr.mk 1006 0 Option.none))) = (Go.Value.pointer (Option.some (Go.Addr.mk 1006 0 Option.none)))) ∧
 ((Option.some (AObj.cells [(Go.Value.int Go.IntKind.i64 (0 : Int)), (Go.Value.int Go.IntKind.i64 (0 : Int))] 40 false 2)) = (Option.some (AObj.cells [(Go.Value.int Go.IntKind.i64 (0 : Int)), (Go.Value.int Go.IntKind.i64 (0 : Int))] 40 false 2)))) ∧
 True)))) ∧
 ((((Go.Value.int Go.IntKind.i64 (n8)) = (Go.Value.int Go.IntKind.i64 (n8))) ∧
 True) ∧
 (True ∧
 (∃ n9 : Int,
 (∃ n10 : Int,
 ((Says C 23 [(D.agg [D.nil, (D.val (Go.Value.int Go.IntKind.i64 (a))), (D.val (Go.Value.int Go.IntKind.i64 (b))), (D.val (Go.Value.int Go.IntKind.i64 (c))), (D.val (Go.Value.int Go.IntKind.i64 (d))), (D.val (Go.Value.int Go.IntKind.i64 (e)))])] [(D.val (Go.Value.int Go.IntKind.i64 (n9))), (D.val (Go.Value.int Go.IntKind.i64 (n10)))]) ∧
 (bcase (n2 != n10)
 (k [(D.val (Go.Value.bool false))])
 (bcase (n1 != n9)
 (k [(D.val (Go.Value.bool false))])
 (bcase (n10 == 0)
 (bcase (decide (0 ≤ v))
 (bcase (decide (v ≤ 1000000))
 (bcase (decide (0 ≤ w))
 (bcase (decide (w ≤ e))
 (bcase (n5 != 0)
 ((((Go.Value.tuple [].toArray) = (Go.Value.tuple [].toArray)) ∧
 (((Go.Value.tuple [].toArray) = (Go.Value.tuple [].toArray)) ∧
 (((Go.Value.tuple [].toArray) = (Go.Value.tuple [].toArray)) ∧
 (((Go.Value.bool true) = (Go.Value.bool true)) ∧
 ((bcase (n5 != 0)
 ((Go.Value.bool true) = (Go.Value.bool true))
 ((Go.Value.bool false) = (Go.Value.bool true))) ∧
 (((Go.Value.int Go.IntKind.i64 (n5)) = (Go.Value.int Go.IntKind.i64 (n5))) ∧
 True)))))) ∧
 ((((Go.Value.bool true) = (Go.Value.bool true)) ∧
 (((Go.Value.tuple [].toArray) = (Go.Value.tuple [].toArray)) ∧
 (((Go.Value.tuple [].toArray) = (Go.Value.tuple [].toArray)) ∧
 ((bcase (n5 != 0)
 ((Go.Value.bool true) = (Go.Value.bool true))
 ((Go.Value.bool false) = (Go.Value.bool true))) ∧
 (((Go.Value.int Go.IntKind.i64 (n5)) = (Go.Value.int Go.IntKind.i64 (n5))) ∧
 True))))) ∧
 (k [(D.val (Go.Value.bool false))])))
 ((((Go.Value.agg [(Go.Value.int Go.IntKind.i64 (v)), (Go.Value.int Go.IntKind.i64 (w))].toArray) = (Go.Value.agg [(Go.Value.int Go.IntKind.i64 (v)), (Go.Value.int Go.IntKind.i64 (w))].toArray)) ∧
 (((Go.Value.agg [(Go.Value.slice Option.none 0 0), (Go.Value.int Go.IntKind.i64 (a)), (Go.Value.int Go.IntKind.i64 (b)), (Go.Value.int Go.IntKind.i64 (c)), (Go.Value.int Go.IntKind.i64 (d)), (Go.Value.int Go.IntKind.i64 (e))].toArray) = (Go.Value.agg [(Go.Value.slice Option.none 0 0), (Go.Value.int Go.IntKind.i64 (a)), (Go.Value.int Go.IntKind.i64 (b)), (Go.Value.int Go.IntKind.i64 (c)), (Go.Value.int Go.IntKind.i64 (d)), (Go.Value.int Go.IntKind.i64 (e))].toArray)) ∧
 (((Go.Value.agg [(Go.Value.int Go.IntKind.i64 (n3)), (Go.Value.int Go.IntKind.i64 (n4))].toArray) = (Go.Value.agg [(Go.Value.int Go.IntKind.i64 (n3)), (Go.Value.int Go.IntKind.i64 (n4))].toArray)) ∧
 (((Go.Value.bool false) = (Go.Value.bool false)) ∧
 ((bcase (n5 != 0)
 ((Go.Value.bool true) = (Go.Value.bool false))
 ((Go.Value.bool false) = (Go.Value.bool false))) ∧
 (((Go.Value.int Go.IntKind.i64 (n5)) = (Go.Value.int Go.IntKind.i64 (n5))) ∧
 True)))))) ∧
 (∃ n11 : Int,
 (∃ n12 : Int,
 ((Says C 25 [(D.agg [D.nil, (D.val (Go.Value.int Go.IntKind.i64 (a))), (D.val (Go.Value.int Go.IntKind.i64 (b))), (D.val (Go.Value.int Go.IntKind.i64 (c))), (D.val (Go.Value.int Go.IntKind.i64 (d))), (D.val (Go.Value.int Go.IntKind.i64 (e)))]), (D.agg [(D.val (Go.Value.int Go.IntKind.i64 (v))), (D.val (Go.Value.int Go.IntKind.i64 (w)))])] [(D.agg [(D.val (Go.Value.int Go.IntKind.i64 (n11))), (D.val (Go.Value.int Go.IntKind.i64 (n12)))])]) ∧
 (bcase (if Bool.true = Bool.true then !(n3 == n11 && (n4 == n12 && Bool.true)) else n3 == n11 && (n4 == n12 && Bool.true))
 ((((Go.Value.bool true) = (Go.Value.bool true)) ∧
 ((bcase (if Bool.true = Bool.true then !(n3 == n11 && (n4 == n12 && Bool.true)) else n3 == n11 && (n4 == n12 && Bool.true))
 ((Go.Value.bool true) = (Go.Value.bool true))
 ((Go.Value.bool false) = (Go.Value.bool true))) ∧
 (((Go.Value.agg [(Go.Value.int Go.IntKind.i64 (n3)), (Go.Value.int Go.IntKind.i64 (n4))].toArray) = (Go.Value.agg [(Go.Value.int Go.IntKind.i64 (n3)), (Go.Value.int Go.IntKind.i64 (n4))].toArray)) ∧
 ((bcase (n5 != 0)
 ((Go.Value.bool true) = (Go.Value.bool false))
 ((Go.Value.bool false) = (Go.Value.bool false))) ∧
 (((Go.Value.int Go.IntKind.i64 (n5)) = (Go.Value.int Go.IntKind.i64 (n5))) ∧
 True))))) ∧
 (k [(D.val (Go.Value.bool false))]))
 ((((Go.Value.bool false) = (Go.Value.bool false)) ∧
 ((bcase (if Bool.true = Bool.true then !(n3 == n11 && (n4 == n12 && Bool.true)) else n3 == n11 && (n4 == n12 && Bool.true))
 ((Go.Value.bool true) = (Go.Value.bool false))
 ((Go.Value.bool false) = (Go.Value.bool false))) ∧
 (((Go.Value.agg [(Go.Value.int Go.IntKind.i64 (n3)), (Go.Value.int Go.IntKind.i64 (n4))].toArray) = (Go.Value.agg [(Go.Value.int Go.IntKind.i64 (n3)), (Go.Value.int Go.IntKind.i64 (n4))].toArray)) ∧
 ((bcase (n5 != 0)
 ((Go.Value.bool true) = (Go.Value.bool false))
 ((Go.Value.bool false) = (Go.Value.bool false))) ∧
 (((Go.Value.int Go.IntKind.i64 (n5)) = (Go.Value.int Go.IntKind.i64 (n5))) ∧
 True))))) ∧
 (bcase (decide (0 ≤ x))
 (bcase (decide (x ≤ 20000))
 (∃ n13 : Int,
 (∃ n14 : Int,
 (((Says C 26 [(D.agg [D.nil, (D.val (Go.Value.int Go.IntKind.i64 (a))), (D.val (Go.Value.int Go.IntKind.i64 (b))), (D.val (Go.Value.int Go.IntKind.i64 (c))), (D.val (Go.Value.int Go.IntKind.i64 (d))), (D.val (Go.Value.int Go.IntKind.i64 (e)))]), (D.agg [(D.val (Go.Value.int Go.IntKind.i64 (v))), (D.val (Go.Value.int Go.IntKind.i64 (w)))]), (D.val (Go.Value.int Go.IntKind.i64 (x)))] [(D.agg [(D.val (Go.Value.int Go.IntKind.i64 (n13))), (D.val (Go.Value.int Go.IntKind.i64 (n14)))]), (D.val (Go.Value.bool true))]) ∧
 (bcase (n8 == 0)
 (bcase (if Bool.false = Bool.true then !(n6 == n13 && (n7 == n14 && Bool.true)) else n6 == n13 && (n7 == n14 && Bool.true))
 (k [(D.val (Go.Value.bool true))])
 (k [(D.val (Go.Value.bool false))]))
 (k [(D.val (Go.Value.bool false))]))) ∨
 ((Says C 26 [(D.agg [D.nil, (D.val (Go.Value.int Go.IntKind.i64 (a))), (D.val (Go.Value.int Go.IntKind.i64 (b))), (D.val (Go.Value.int Go.IntKind.i64 (c))), (D.val (Go.Value.int Go.IntKind.i64 (d))), (D.val (Go.Value.int Go.IntKind.i64 (e)))]), (D.agg [(D.val (Go.Value.int Go.IntKind.i64 (v))), (D.val (Go.Value.int Go.IntKind.i64 (w)))]), (D.val (Go.Value.int Go.IntKind.i64 (x)))] [(D.agg [(D.val (Go.Value.int Go.IntKind.i64 (n13))), (D.val (Go.Value.int Go.IntKind.i64 (n14)))]), (D.val (Go.Value.bool false))]) ∧
 (bcase (n8 == 8)
 (bcase (if Bool.false = Bool.true then !(n6 == 0 && (n7 == 0 && Bool.true)) else n6 == 0 && (n7 == 0 && Bool.true))
 (k [(D.val (Go.Value.bool true))])
 (k [(D.val (Go.Value.bool false))]))
 (k [(D.val (Go.Value.bool false))]))))))
 (bcase (n8 == 2)
 (bcase (if Bool.false = Bool.true then !(n6 == 0 && (n7 == 0 && Bool.true)) else n6 == 0 && (n7 == 0 && Bool.true))
 (k [(D.val (Go.Value.bool true))])
 (k [(D.val (Go.Value.bool false))]))
 (k [(D.val (Go.Value.bool false))])))
 (bcase (n8 == 2)
 (bcase (if Bool.false = Bool.true then !(n6 == 0 && (n7 == 0 && Bool.true)) else n6 == 0 && (n7 == 0 && Bool.true))
 (k [(D.val (Go.Value.bool true))])
 (k [(D.val (Go.Value.bool false))]))
 (k [(D.val (Go.Value.bool false))]))))))))))
 (bcase (n5 == 2)
 (bcase (n8 == 2)
 (bcase (if Bool.false = Bool.true then !(n3 == 0 && (n4 == 0 && Bool.true)) else n3 == 0 && (n4 == 0 && Bool.true))
 (bcase (if Bool.false = Bool.true then !(n6 == 0 && (n7 == 0 && Bool.true)) else n6 == 0 && (n7 == 0 && Bool.true))
 (k [(D.val (Go.Value.bool true))])
 (k [(D.val (Go.Value.bool false))]))
 (k [(D.val (Go.Value.bool false))]))
 (k [(D.val (Go.Value.bool false))]))
 (k [(D.val (Go.Value.bool false))])))
 (bcase (n5 == 2)
 (bcase (n8 == 2)
 (bcase (if Bool.false = Bool.true then !(n3 == 0 && (n4 == 0 && Bool.true)) else n3 == 0 && (n4 == 0 && Bool.true))
 (bcase (if Bool.false = Bool.true then !(n6 == 0 && (n7 == 0 && Bool.true)) else n6 == 0 && (n7 == 0 && Bool.true))
 (k [(D.val (Go.Value.bool true))])
 (k [(D.val (Go.Value.bool false))]))
 (k [(D.val (Go.Value.bool false))]))
 (k [(D.val (Go.Value.bool false))]))
 (k [(D.val (Go.Value.bool false))])))
 (bcase (n5 == 2)
 (bcase (n8 == 2)
 (bcase (if Bool.false = Bool.true then !(n3 == 0 && (n4 == 0 && Bool.true)) else n3 == 0 && (n4 == 0 && Bool.true))
 (bcase (if Bool.false = Bool.true then !(n6 == 0 && (n7 == 0 && Bool.true)) else n6 == 0 && (n7 == 0 && Bool.true))
 (k [(D.val (Go.Value.bool true))])
 (k [(D.val (Go.Value.bool false))]))
 (k [(D.val (Go.Value.bool false))]))
 (k [(D.val (Go.Value.bool false))]))
 (k [(D.val (Go.Value.bool false))])))
 (bcase (n5 == 2)
 (bcase (n8 == 2)
 (bcase (if Bool.false = Bool.true then !(n3 == 0 && (n4 == 0 && Bool.true)) else n3 == 0 && (n4 == 0 && Bool.true))
 (bcase (if Bool.false = Bool.true then !(n6 == 0 && (n7 == 0 && Bool.true)) else n6 == 0 && (n7 == 0 && Bool.true))
 (k [(D.val (Go.Value.bool true))])
 (k [(D.val (Go.Value.bool false))]))
 (k [(D.val (Go.Value.bool false))]))
 (k [(D.val (Go.Value.bool false))]))
 (k [(D.val (Go.Value.bool false))])))
 (bcase (n10 != 0)
 (bcase (n5 == n10)
 (bcase (n8 == n10)
 (bcase (if Bool.false = Bool.true then !(n3 == 0 && (n4 == 0 && Bool.true)) else n3 == 0 && (n4 == 0 && Bool.true))
 (bcase (if Bool.false = Bool.true then !(n6 == 0 && (n7 == 0 && Bool.true)) else n6 == 0 && (n7 == 0 && Bool.true))
 (k [(D.val (Go.Value.bool true))])
 (k [(D.val (Go.Value.bool false))]))
 (k [(D.val (Go.Value.bool false))]))
 (k [(D.val (Go.Value.bool false))]))
 (k [(D.val (Go.Value.bool false))]))
 (bcase (n5 != 0)
 ((((Go.Value.tuple [].toArray) = (Go.Value.tuple [].toArray)) ∧
 (((Go.Value.tuple [].toArray) = (Go.Value.tuple [].toArray)) ∧
 (((Go.Value.tuple [].toArray) = (Go.Value.tuple [].toArray)) ∧
 (((Go.Value.bool true) = (Go.Value.bool true)) ∧
 ((bcase (n5 != 0)
 ((Go.Value.bool true) = (Go.Value.bool true))
 ((Go.Value.bool false) = (Go.Value.bool true))) ∧
 (((Go.Value.int Go.IntKind.i64 (n5)) = (Go.Value.int Go.IntKind.i64 (n5))) ∧
 True)))))) ∧
 ((((Go.Value.bool true) = (Go.Value.bool true)) ∧
 (((Go.Value.tuple [].toArray) = (Go.Value.tuple [].toArray)) ∧
 (((Go.Value.tuple [].toArray) = (Go.Value.tuple [].toArray)) ∧
 ((bcase (n5 != 0)
 ((Go.Value.bool true) = (Go.Value.bool true))
 ((Go.Value.bool false) = (Go.Value.bool true))) ∧
 (((Go.Value.int Go.IntKind.i64 (n5)) = (Go.Value.int Go.IntKind.i64 (n5))) ∧
 True))))) ∧
 (k [(D.val (Go.Value.bool false))])))
 ((((Go.Value.agg [(Go.Value.int Go.IntKind.i64 (v)), (Go.Value.int Go.IntKind.i64 (w))].toArray) = (Go.Value.agg [(Go.Value.int Go.IntKind.i64 (v)), (Go.Value.int Go.IntKind.i64 (w))].toArray)) ∧
 (((Go.Value.agg [(Go.Value.slice Option.none 0 0), (Go.Value.int Go.IntKind.i64 (a)), (Go.Value.int Go.IntKind.i64 (b)), (Go.Value.int Go.IntKind.i64 (c)), (Go.Value.int Go.IntKind.i64 (d)), (Go.Value.int Go.IntKind.i64 (e))].toArray) = (Go.Value.agg [(Go.Value.slice Option.none 0 0), (Go.Value.int Go.IntKind.i64 (a)), (Go.Value.int Go.IntKind.i64 (b)), (Go.Value.int Go.IntKind.i64 (c)), (Go.Value.int Go.IntKind.i64 (d)), (Go.Value.int Go.IntKind.i64 (e))].toArray)) ∧
 (((Go.Value.agg [(Go.Value.int Go.IntKind.i64 (n3)), (Go.Value.int Go.IntKind.i64 (n4))].toArray) = (Go.Value.agg [(Go.Value.int Go.IntKind.i64 (n3)), (Go.Value.int Go.IntKind.i64 (n4))].toArray)) ∧
 (((Go.Value.bool false) = (Go.Value.bool false)) ∧
 ((bcase (n5 != 0)
 ((Go.Value.bool true) = (Go.Value.bool false))
 ((Go.Value.bool false) = (Go.Value.bool false))) ∧
 (((Go.Value.int Go.IntKind.i64 (n5)) = (Go.Value.int Go.IntKind.i64 (n5))) ∧
 True)))))) ∧
 (∃ n11 : Int,
 (∃ n12 : Int,
 ((Says C 25 [(D.agg [D.nil, (D.val (Go.Value.int Go.IntKind.i64 (a))), (D.val (Go.Value.int Go.IntKind.i64 (b))), (D.val (Go.Value.int Go.IntKind.i64 (c))), (D.val (Go.Value.int Go.IntKind.i64 (d))), (D.val (Go.Value.int Go.IntKind.i64 (e)))]), (D.agg [(D.val (Go.Value.int Go.IntKind.i64 (v))), (D.val (Go.Value.int Go.IntKind.i64 (w)))])] [(D.agg [(D.val (Go.Value.int Go.IntKind.i64 (n11))), (D.val (Go.Value.int Go.IntKind.i64 (n12)))])]) ∧
 (bcase (if Bool.true = Bool.true then !(n3 == n11 && (n4 == n12 && Bool.true)) else n3 == n11 && (n4 == n12 && Bool.true))
 ((((Go.Value.bool true) = (Go.Value.bool true)) ∧
 ((bcase (if Bool.true = Bool.true then !(n3 == n11 && (n4 == n12 && Bool.true)) else n3 == n11 && (n4 == n12 && Bool.true))
 ((Go.Value.bool true) = (Go.Value.bool true))
 ((Go.Value.bool false) = (Go.Value.bool true))) ∧
 (((Go.Value.agg [(Go.Value.int Go.IntKind.i64 (n3)), (Go.Value.int Go.IntKind.i64 (n4))].toArray) = (Go.Value.agg [(Go.Value.int Go.IntKind.i64 (n3)), (Go.Value.int Go.IntKind.i64 (n4))].toArray)) ∧
 ((bcase (n5 != 0)
 ((Go.Value.bool true) = (Go.Value.bool false))
 ((Go.Value.bool false) = (Go.Value.bool false))) ∧
 (((Go.Value.int Go.IntKind.i64 (n5)) = (Go.Value.int Go.IntKind.i64 (n5))) ∧
 True))))) ∧
 (k [(D.val (Go.Value.bool false))]))
 ((((Go.Value.bool false) = (Go.Value.bool false)) ∧
 ((bcase (if Bool.true = Bool.true then !(n3 == n11 && (n4 == n12 && Bool.true)) else n3 == n11 && (n4 == n12 && Bool.true))
 ((Go.Value.bool true) = (Go.Value.bool false))
 ((Go.Value.bool false) = (Go.Value.bool false))) ∧
 (((Go.Value.agg [(Go.Value.int Go.IntKind.i64 (n3)), (Go.Value.int Go.IntKind.i64 (n4))].toArray) = (Go.Value.agg [(Go.Value.int Go.IntKind.i64 (n3)), (Go.Value.int Go.IntKind.i64 (n4))].toArray)) ∧
 ((bcase (n5 != 0)
 ((Go.Value.bool true) = (Go.Value.bool false))
 ((Go.Value.bool false) = (Go.Value.bool false))) ∧
 (((Go.Value.int Go.IntKind.i64 (n5)) = (Go.Value.int Go.IntKind.i64 (n5))) ∧
 True))))) ∧
 (bcase (decide (0 ≤ x))
 (bcase (decide (x ≤ 20000))
 (∃ n13 : Int,
 (∃ n14 : Int,
 (((Says C 26 [(D.agg [D.nil, (D.val (Go.Value.int Go.IntKind.i64 (a))), (D.val (Go.Value.int Go.IntKind.i64 (b))), (D.val (Go.Value.int Go.IntKind.i64 (c))), (D.val (Go.Value.int Go.IntKind.i64 (d))), (D.val (Go.Value.int Go.IntKind.i64 (e)))]), (D.agg [(D.val (Go.Value.int Go.IntKind.i64 (v))), (D.val (Go.Value.int Go.IntKind.i64 (w)))]), (D.val (Go.Value.int Go.IntKind.i64 (x)))] [(D.agg [(D.val (Go.Value.int Go.IntKind.i64 (n13))), (D.val (Go.Value.int Go.IntKind.i64 (n14)))]), (D.val (Go.Value.bool true))]) ∧
 (bcase (n8 == 0)
 (bcase (if Bool.false = Bool.true then !(n6 == n13 && (n7 == n14 && Bool.true)) else n6 == n13 && (n7 == n14 && Bool.true))
 (k [(D.val (Go.Value.bool true))])
 (k [(D.val (Go.Value.bool false))]))
 (k [(D.val (Go.Value.bool false))]))) ∨
 ((Says C 26 [(D.agg [D.nil, (D.val (Go.Value.int Go.IntKind.i64 (a))), (D.val (Go.Value.int Go.IntKind.i64 (b))), (D.val (Go.Value.int Go.IntKind.i64 (c))), (D.val (Go.Value.int Go.IntKind.i64 (d))), (D.val (Go.Value.int Go.IntKind.i64 (e)))]), (D.agg [(D.val (Go.Value.int Go.IntKind.i64 (v))), (D.val (Go.Value.int Go.IntKind.i64 (w)))]), (D.val (Go.Value.int Go.IntKind.i64 (x)))] [(D.agg [(D.val (Go.Value.int Go.IntKind.i64 (n13))), (D.val (Go.Value.int Go.IntKind.i64 (n14)))]), (D.val (Go.Value.bool false))]) ∧
 (bcase (n8 == 8)
 (bcase (if Bool.false = Bool.true then !(n6 == 0 && (n7 == 0 && Bool.true)) else n6 == 0 && (n7 == 0 && Bool.true))
 (k [(D.val (Go.Value.bool true))])
 (k [(D.val (Go.Value.bool false))]))
 (k [(D.val (Go.Value.bool false))]))))))
 (bcase (n8 == 2)
 (bcase (if Bool.false = Bool.true then !(n6 == 0 && (n7 == 0 && Bool.true)) else n6 == 0 && (n7 == 0 && Bool.true))
 (k [(D.val (Go.Value.bool true))])
 (k [(D.val (Go.Value.bool false))]))
 (k [(D.val (Go.Value.bool false))])))
 (bcase (n8 == 2)
 (bcase (if Bool.false = Bool.true then !(n6 == 0 && (n7 == 0 && Bool.true)) else n6 == 0 && (n7 == 0 && Bool.true))
 (k [(D.val (Go.Value.bool true))])
 (k [(D.val (Go.Value.bool false))]))
 (k [(D.val (Go.Value.bool false))])))))))))))))))))))))))))))))))))))))))))) ∨
 ((Says C 9 [] [(D.val (Go.Value.bool false))]) ∧
 (k [(D.val (Go.Value.bool false))]))) := by kernel_rfl
def g8 (C : Ct) (L : AtLoop) (n cap : Nat) (l : List Value) (a b c d e v w x y z : Int) (k : List D → Prop) : Prop := wpFn Try.prog (hM C) L 0 8 #[vR (S500 n cap) a b c d e, vP v w, .agg #[vI x, vI y, vI z]] (heapOf [T500 l]) (dataK k)
theorem g8_text (C : Ct) (L : AtLoop) (n : Nat) (cap : Nat) (l : List Go.Value) (a : Int) (b : Int) (c : Int) (d : Int) (e : Int) (v : Int) (w : Int) (x : Int) (y : Int) (z : Int) (k : List D → Prop) : g8 C L n cap l a b c d e v w x y z k =
 (((Says C 9 [] [(D.val (Go.Value.bool true))]) ∧
 (bcase (decide ((↑n : Int) ≤ 14))
 (((((Go.Value.pointer (Option.some (Go.Addr.mk 1004 0 Option.none))) = (Go.Value.pointer (Option.some (Go.Addr.mk 1004 0 Option.none)))) ∧
 ((Option.some (AObj.cells [(Go.Value.int Go.IntKind.i64 (0 : Int)), (Go.Value.int Go.IntKind.i64 (0 : Int))] 44 false 2)) = (Option.some (AObj.cells [(Go.Value.int Go.IntKind.i64 (0 : Int)), (Go.Value.int Go.IntKind.i64 (0 : Int))] 44 false 2)))) ∧
 (((Go.Value.int Go.IntKind.i64 (y)) = (Go.Value.int Go.IntKind.i64 (y))) ∧
 (((Go.Value.pointer (Option.some (Go.Addr.mk 1002 1 Option.none))) = (Go.Value.pointer (Option.some (Go.Addr.mk 1002 1 Option.none)))) ∧
 (((Go.Value.int Go.IntKind.i64 (x)) = (Go.Value.int Go.IntKind.i64 (x))) ∧
 (((Go.Value.pointer (Option.some (Go.Addr.mk 1002 0 Option.none))) = (Go.Value.pointer (Option.some (Go.Addr.mk 1002 0 Option.none)))) ∧
 (((Go.Value.agg [(Go.Value.int Go.IntKind.i64 (v)), (Go.Value.int Go.IntKind.i64 (w))].toArray) = (Go.Value.agg [(Go.Value.int Go.IntKind.i64 (v)), (Go.Value.int Go.IntKind.i64 (w))].toArray)) ∧
 (((Go.Value.agg [(Go.Value.slice (Option.some (Go.Addr.mk 500 0 Option.none)) (n) (cap)), (Go.Value.int Go.IntKind.i64 (a)), (Go.Value.int Go.IntKind.i64 (b)), (Go.Value.int Go.IntKind.i64 (c)), (Go.Value.int Go.IntKind.i64 (d)), (Go.Value.int Go.IntKind.i64 (e))].toArray) = (Go.Value.agg [(Go.Value.slice (Option.some (Go.Addr.mk 500 0 Option.none)) (n) (cap)), (Go.Value.int Go.IntKind.i64 (a)), (Go.Value.int Go.IntKind.i64 (b)), (Go.Value.int Go.IntKind.i64 (c)), (Go.Value.int Go.IntKind.i64 (d)), (Go.Value.int Go.IntKind.i64 (e))].toArray)) ∧
 True))))))) ∧
 (bcase (decide (0 + n * 2 ≤ List.length l))
 ((Says C 20 [(D.agg [(D.sl (n) 2 (List.take (n * 2) (List.drop 0 l))), (D.val (Go.Value.int Go.IntKind.i64 (a))), (D.val (Go.Value.int Go.IntKind.i64 (b))), (D.val (Go.Value.int Go.IntKind.i64 (c))), (D.val (Go.Value.int Go.IntKind.i64 (d))), (D.val (Go.Value.int Go.IntKind.i64 (e)))])] [(D.agg [(D.sl (n) 2 (List.take (n * 2) (List.drop 0 l))), (D.val (Go.Value.int Go.IntKind.i64 (a))), (D.val (Go.Value.int Go.IntKind.i64 (b))), (D.val (Go.Value.int Go.IntKind.i64 (c))), (D.val (Go.Value.int Go.IntKind.i64 (d))), (D.val (Go.Value.int Go.IntKind.i64 (e)))])]) ∧
 (((((Go.Value.pointer (Option.some (Go.Addr.mk 1004 0 Option.none))) = (Go.Value.pointer (Option.some (Go.Addr.mk 1004 0 Option.none)))) ∧
 ((Option.some (AObj.cells [(Go.Value.int Go.IntKind.i64 (0 : Int)), (Go.Value.int Go.IntKind.i64 (0 : Int))] 44 false 2)) = (Option.some (AObj.cells [(Go.Value.int Go.IntKind.i64 (0 : Int)), (Go.Value.int Go.IntKind.i64 (0 : Int))] 44 false 2)))) ∧
 (((Go.Value.int Go.IntKind.i64 (y)) = (Go.Value.int Go.IntKind.i64 (y))) ∧
 (((Go.Value.pointer (Option.some (Go.Addr.mk 1002 1 Option.none))) = (Go.Value.pointer (Option.some (Go.Addr.mk 1002 1 Option.none)))) ∧
 (((Go.Value.int Go.IntKind.i64 (x)) = (Go.Value.int Go.IntKind.i64 (x))) ∧
 (((Go.Value.pointer (Option.some (Go.Addr.mk 1002 0 Option.none))) = (Go.Value.pointer (Option.some (Go.Addr.mk 1002 0 Option.none)))) ∧
 (((Go.Value.agg [(Go.Value.int Go.IntKind.i64 (v)), (Go.Value.int Go.IntKind.i64 (w))].toArray) = (Go.Value.agg [(Go.Value.int Go.IntKind.i64 (v)), (Go.Value.int Go.IntKind.i64 (w))].toArray)) ∧
 True)))))) ∧
 (bcase (decide (0 + n * 2 ≤ List.length (List.take (n * 2) (List.drop 0 l))))
 (∃ n1 : Int,
 (∃ n2 : Int,
 (∃ n3 : Int,
 ((Says C 44 [(D.agg [(D.sl (n) 2 (List.take (n * 2) (List.drop 0 (List.take (n * 2) (List.drop 0 l))))), (D.val (Go.Value.int Go.IntKind.i64 (a))), (D.val (Go.Value.int Go.IntKind.i64 (b))), (D.val (Go.Value.int Go.IntKind.i64 (c))), (D.val (Go.Value.int Go.IntKind.i64 (d))), (D.val (Go.Value.int Go.IntKind.i64 (e)))]), (D.agg [(D.val (Go.Value.int Go.IntKind.i64 (v))), (D.val (Go.Value.int Go.IntKind.i64 (w)))]), (D.val (Go.Value.int Go.IntKind.i64 (x))), (D.val (Go.Value.int Go.IntKind.i64 (y)))] [(D.agg [(D.val (Go.Value.int Go.IntKind.i64 (n1))), (D.val (Go.Value.int Go.IntKind.i64 (n2)))]), (D.val (Go.Value.int Go.IntKind.i64 (n3)))]) ∧
 ((((Go.Value.int Go.IntKind.i64 (n3)) = (Go.Value.int Go.IntKind.i64 (n3))) ∧
 (((Go.Value.agg [(Go.Value.int Go.IntKind.i64 (n1)), (Go.Value.int Go.IntKind.i64 (n2))].toArray) = (Go.Value.agg [(Go.Value.int Go.IntKind.i64 (n1)), (Go.Value.int Go.IntKind.i64 (n2))].toArray)) ∧
 (((Go.Value.tuple [(Go.Value.agg [(Go.Value.int Go.IntKind.i64 (n1)), (Go.Value.int Go.IntKind.i64 (n2))].toArray), (Go.Value.int Go.IntKind.i64 (n3))].toArray) = (Go.Value.tuple [(Go.Value.agg [(Go.Value.int Go.IntKind.i64 (n1)), (Go.Value.int Go.IntKind.i64 (n2))].toArray), (Go.Value.int Go.IntKind.i64 (n3))].toArray)) ∧
 ((((Go.Value.pointer (Option.some (Go.Addr.mk 1004 0 Option.none))) = (Go.Value.pointer (Option.some (Go.Addr.mk 1004 0 Option.none)))) ∧
 ((Option.some (AObj.cells [(Go.Value.int Go.IntKind.i64 (0 : Int)), (Go.Value.int Go.IntKind.i64 (0 : Int))] 44 false 2)) = (Option.some (AObj.cells [(Go.Value.int Go.IntKind.i64 (0 : Int)), (Go.Value.int Go.IntKind.i64 (0 : Int))] 44 false 2)))) ∧
 (((Go.Value.pointer (Option.some (Go.Addr.mk 1002 1 Option.none))) = (Go.Value.pointer (Option.some (Go.Addr.mk 1002 1 Option.none)))) ∧
 (((Go.Value.pointer (Option.some (Go.Addr.mk 1002 0 Option.none))) = (Go.Value.pointer (Option.some (Go.Addr.mk 1002 0 Option.none)))) ∧
 True)))))) ∧
 ((((Go.Value.int Go.IntKind.i64 (n3)) = (Go.Value.int Go.IntKind.i64 (n3))) ∧
 True) ∧
 (True ∧
 (bcase (decide (0 + n * 2 ≤ List.length l))
 (∃ n4 : Int,
 (∃ n5 : Int,
 ((Says C 23 [(D.agg [(D.sl (n) 2 (List.take (n * 2) (List.drop 0 l))), (D.val (Go.Value.int Go.IntKind.i64 (a))), (D.val (Go.Value.int Go.IntKind.i64 (b))), (D.val (Go.Value.int Go.IntKind.i64 (c))), (D.val (Go.Value.int Go.IntKind.i64 (d))), (D.val (Go.Value.int Go.IntKind.i64 (e)))])] [(D.val (Go.Value.int Go.IntKind.i64 (n4))), (D.val (Go.Value.int Go.IntKind.i64 (n5)))]) ∧
 (bcase (n5 == 0)
 (bcase (decide (0 ≤ v))
 (bcase (decide (v ≤ 1000000))
 (bcase (decide (0 ≤ w))
 (bcase (decide (w ≤ e))
 (bcase (decide (0 + n * 2 ≤ List.length l))
 (∃ n6 : Int,
 (∃ n7 : Int,
 (∃ n8 : Int,
 ((Says C 45 [(D.agg [(D.sl (n) 2 (List.take (n * 2) (List.drop 0 l))), (D.val (Go.Value.int Go.IntKind.i64 (a))), (D.val (Go.Value.int Go.IntKind.i64 (b))), (D.val (Go.Value.int Go.IntKind.i64 (c))), (D.val (Go.Value.int Go.IntKind.i64 (d))), (D.val (Go.Value.int Go.IntKind.i64 (e)))]), (D.agg [(D.val (Go.Value.int Go.IntKind.i64 (v))), (D.val (Go.Value.int Go.IntKind.i64 (w)))]), (D.val (Go.Value.int Go.IntKind.i64 (x))), (D.val (Go.Value.int Go.IntKind.i64 (y)))] [(D.agg [(D.val (Go.Value.int Go.IntKind.i64 (n6))), (D.val (Go.Value.int Go.IntKind.i64 (n7)))]), (D.val (Go.Value.int Go.IntKind.i64 (n8)))]) ∧
 (bcase (n3 != n8)
 (k [(D.val (Go.Value.bool false))])
 (bcase (if Bool.true = Bool.true then !(n1 == n6 && (n2 == n7 && Bool.true)) else n1 == n6 && (n2 == n7 && Bool.true))
 (k [(D.val (Go.Value.bool false))])
 (bcase (n8 != 0)
 (k [(D.val (Go.Value.bool true))])
 (bcase (decide (0 ≤ z))
 (bcase (decide (z ≤ y))
 (bcase (decide (v > 999995))
 (k [(D.val (Go.Value.bool true))])
 (((((Go.Value.pointer (Option.some (Go.Addr.mk 1010 0 Option.none))) = (Go.Value.pointer (Option.some (Go.Addr.mk 1010 0 Option.none)))) ∧
 ((Option.some (AObj.cells [(Go.Value.int Go.IntKind.i64 (0 : Int)), (Go.Value.int Go.IntKind.i64 (0 : Int))] 44 false 2)) = (Option.some (AObj.cells [(Go.Value.int Go.IntKind.i64 (0 : Int)), (Go.Value.int Go.IntKind.i64 (0 : Int))] 44 false 2)))) ∧
 (((Go.Value.int Go.IntKind.i64 (z)) = (Go.Value.int Go.IntKind.i64 (z))) ∧
 (((Go.Value.pointer (Option.some (Go.Addr.mk 1002 2 Option.none))) = (Go.Value.pointer (Option.some (Go.Addr.mk 1002 2 Option.none)))) ∧
 (((Go.Value.int Go.IntKind.i64 (x)) = (Go.Value.int Go.IntKind.i64 (x))) ∧
 (((Go.Value.pointer (Option.some (Go.Addr.mk 1002 0 Option.none))) = (Go.Value.pointer (Option.some (Go.Addr.mk 1002 0 Option.none)))) ∧
 (((Go.Value.agg [(Go.Value.int Go.IntKind.i64 (v)), (Go.Value.int Go.IntKind.i64 (w))].toArray) = (Go.Value.agg [(Go.Value.int Go.IntKind.i64 (v)), (Go.Value.int Go.IntKind.i64 (w))].toArray)) ∧
 (((Go.Value.agg [(Go.Value.slice (Option.some (Go.Addr.mk 500 0 Option.none)) (n) (cap)), (Go.Value.int Go.IntKind.i64 (a)), (Go.Value.int Go.IntKind.i64 (b)), (Go.Value.int Go.IntKind.i64 (c)), (Go.Value.int Go.IntKind.i64 (d)), (Go.Value.int Go.IntKind.i64 (e))].toArray) = (Go.Value.agg [(Go.Value.slice (Option.some (Go.Addr.mk 500 0 Option.none)) (n) (cap)), (Go.Value.int Go.IntKind.i64 (a)), (Go.Value.int Go.IntKind.i64 (b)), (Go.Value.int Go.IntKind.i64 (c)), (Go.Value.int Go.IntKind.i64 (d)), (Go.Value.int Go.IntKind.i64 (e))].toArray)) ∧
 True))))))) ∧
 (bcase (decide (0 + n * 2 ≤ List.length l))
 ((Says C 20 [(D.agg [(D.sl (n) 2 (List.take (n * 2) (List.drop 0 l))), (D.val (Go.Value.int Go.IntKind.i64 (a))), (D.val (Go.Value.int Go.IntKind.i64 (b))), (D.val (Go.Value.int Go.IntKind.i64 (c))), (D.val (Go.Value.int Go.IntKind.i64 (d))), (D.val (Go.Value.int Go.IntKind.i64 (e)))])] [(D.agg [(D.sl (n) 2 (List.take (n * 2) (List.drop 0 l))), (D.val (Go.Value.int Go.IntKind.i64 (a))), (D.val (Go.Value.int Go.IntKind.i64 (b))), (D.val (Go.Value.int Go.IntKind.i64 (c))), (D.val (Go.Value.int Go.IntKind.i64 (d))), (D.val (Go.Value.int Go.IntKind.i64 (e)))])]) ∧
 (((((Go.Value.pointer (Option.some (Go.Addr.mk 1010 0 Option.none))) = (Go.Value.pointer (Option.some (Go.Addr.mk 1010 0 Option.none)))) ∧
 ((Option.some (AObj.cells [(Go.Value.int Go.IntKind.i64 (0 : Int)), (Go.Value.int Go.IntKind.i64 (0 : Int))] 44 false 2)) = (Option.some (AObj.cells [(Go.Value.int Go.IntKind.i64 (0 : Int)), (Go.Value.int Go.IntKind.i64 (0 : Int))] 44 false 2)))) ∧
 (((Go.Value.int Go.IntKind.i64 (z)) = (Go.Value.int Go.IntKind.i64 (z))) ∧
 (((Go.Value.pointer (Option.some (Go.Addr.mk 1002 2 Option.none))) = (Go.Value.pointer (Option.some (Go.Addr.mk 1002 2 Option.none)))) ∧
 (((Go.Value.int Go.IntKind.i64 (x)) = (Go.Value.int Go.IntKind.i64 (x))) ∧
 (((Go.Value.pointer (Option.some (Go.Addr.mk 1002 0 Option.none))) = (Go.Value.pointer (Option.some (Go.Addr.mk 1002 0 Option.none)))) ∧
 (((Go.Value.agg [(Go.Value.int Go.IntKind.i64 (v)), (Go.Value.int Go.IntKind.i64 (w))].toArray) = (Go.Value.agg [(Go.Value.int Go.IntKind.i64 (v)), (Go.Value.int Go.IntKind.i64 (w))].toArray)) ∧
 True)))))) ∧
 (bcase (decide (0 + n * 2 ≤ List.length (List.take (n * 2) (List.drop 0 l))))
 (∃ n9 : Int,
 (∃ n10 : Int,
 (∃ n11 : Int,
 ((Says C 44 [(D.agg [(D.sl (n) 2 (List.take (n * 2) (List.drop 0 (List.take (n * 2) (List.drop 0 l))))), (D.val (Go.Value.int Go.IntKind.i64 (a))), (D.val (Go.Value.int Go.IntKind.i64 (b))), (D.val (Go.Value.int Go.IntKind.i64 (c))), (D.val (Go.Value.int Go.IntKind.i64 (d))), (D.val (Go.Value.int Go.IntKind.i64 (e)))]), (D.agg [(D.val (Go.Value.int Go.IntKind.i64 (v))), (D.val (Go.Value.int Go.IntKind.i64 (w)))]), (D.val (Go.Value.int Go.IntKind.i64 (x))), (D.val (Go.Value.int Go.IntKind.i64 (z)))] [(D.agg [(D.val (Go.Value.int Go.IntKind.i64 (n9))), (D.val (Go.Value.int Go.IntKind.i64 (n10)))]), (D.val (Go.Value.int Go.IntKind.i64 (n11)))]) ∧
 ((((Go.Value.int Go.IntKind.i64 (n11)) = (Go.Value.int Go.IntKind.i64 (n11))) ∧
 (((Go.Value.agg [(Go.Value.int Go.IntKind.i64 (n9)), (Go.Value.int Go.IntKind.i64 (n10))].toArray) = (Go.Value.agg [(Go.Value.int Go.IntKind.i64 (n9)), (Go.Value.int Go.IntKind.i64 (n10))].toArray)) ∧
 (((Go.Value.tuple [(Go.Value.agg [(Go.Value.int Go.IntKind.i64 (n9)), (Go.Value.int Go.IntKind.i64 (n10))].toArray), (Go.Value.int Go.IntKind.i64 (n11))].toArray) = (Go.Value.tuple [(Go.Value.agg [(Go.Value.int Go.IntKind.i64 (n9)), (Go.Value.int Go.IntKind.i64 (n10))].toArray), (Go.Value.int Go.IntKind.i64 (n11))].toArray)) ∧
 ((((Go.Value.pointer (Option.some (Go.Addr.mk 1010 0 Option.none))) = (Go.Value.pointer (Option.some (Go.Addr.mk 1010 0 Option.none)))) ∧
 ((Option.some (AObj.cells [(Go.Value.int Go.IntKind.i64 (0 : Int)), (Go.Value.int Go.IntKind.i64 (0 : Int))] 44 false 2)) = (Option.some (AObj.cells [(Go.Value.int Go.IntKind.i64 (0 : Int)), (Go.Value.int Go.IntKind.i64 (0 : Int))] 44 false 2)))) ∧
 (((Go.Value.pointer (Option.some (Go.Addr.mk 1002 2 Option.none))) = (Go.Value.pointer (Option.some (Go.Addr.mk 1002 2 Option.none)))) ∧
 (((Go.Value.pointer (Option.some (Go.Addr.mk 1002 0 Option.none))) = (Go.Value.pointer (Option.some (Go.Addr.mk 1002 0 Option.none)))) ∧
 True)))))) ∧
 ((((Go.Value.int Go.IntKind.i64 (n11)) = (Go.Value.int Go.IntKind.i64 (n11))) ∧
 True) ∧
 (True ∧
 (bcase (n11 != 0)
 (k [(D.val (Go.Value.bool false))])
 (bcase (decide (0 ≤ n9))
 (bcase (decide (n9 ≤ 1000000))
 (bcase (decide (0 ≤ n10))
 (bcase (decide (n10 ≤ e))
 (((((Go.Value.pointer (Option.some (Go.Addr.mk 1014 0 Option.none))) = (Go.Value.pointer (Option.some (Go.Addr.mk 1014 0 Option.none)))) ∧
 ((Option.some (AObj.cells [(Go.Value.int Go.IntKind.i64 (0 : Int)), (Go.Value.int Go.IntKind.i64 (0 : Int))] 44 false 2)) = (Option.some (AObj.cells [(Go.Value.int Go.IntKind.i64 (0 : Int)), (Go.Value.int Go.IntKind.i64 (0 : Int))] 44 false 2)))) ∧
 (((Go.Value.int Go.IntKind.i64 (Go.IntKind.wrap Go.IntKind.i64 (y - z))) = (Go.Value.int Go.IntKind.i64 (Go.IntKind.wrap Go.IntKind.i64 (y - z)))) ∧
 (((Go.Value.int Go.IntKind.i64 (z)) = (Go.Value.int Go.IntKind.i64 (z))) ∧
 (((Go.Value.pointer (Option.some (Go.Addr.mk 1002 2 Option.none))) = (Go.Value.pointer (Option.some (Go.Addr.mk 1002 2 Option.none)))) ∧
 (((Go.Value.int Go.IntKind.i64 (y)) = (Go.Value.int Go.IntKind.i64 (y))) ∧
 (((Go.Value.pointer (Option.some (Go.Addr.mk 1002 1 Option.none))) = (Go.Value.pointer (Option.some (Go.Addr.mk 1002 1 Option.none)))) ∧
 (((Go.Value.int Go.IntKind.i64 (x)) = (Go.Value.int Go.IntKind.i64 (x))) ∧
 (((Go.Value.pointer (Option.some (Go.Addr.mk 1002 0 Option.none))) = (Go.Value.pointer (Option.some (Go.Addr.mk 1002 0 Option.none)))) ∧
 (((Go.Value.agg [(Go.Value.int Go.IntKind.i64 (n9)), (Go.Value.int Go.IntKind.i64 (n10))].toArray) = (Go.Value.agg [(Go.Value.int Go.IntKind.i64 (n9)), (Go.Value.int Go.IntKind.i64 (n10))].toArray)) ∧
 (((Go.Value.agg [(Go.Value.slice (Option.some (Go.Addr.mk 500 0 Option.none)) (n) (cap)), (Go.Value.int Go.IntKind.i64 (a)), (Go.Value.int Go.IntKind.i64 (b)), (Go.Value.int Go.IntKind.i64 (c)), (Go.Value.int Go.IntKind.i64 (d)), (Go.Value.int Go.IntKind.i64 (e))].toArray) = (Go.Value.agg [(Go.Value.slice (Option.some (Go.Addr.mk 500 0 Option.none)) (n) (cap)), (Go.Value.int Go.IntKind.i64 (a)), (Go.Value.int Go.IntKind.i64 (b)), (Go.Value.int Go.IntKind.i64 (c)), (Go.Value.int Go.IntKind.i64 (d)), (Go.Value.int Go.IntKind.i64 (e))].toArray)) ∧
 True)))))))))) ∧
 (bcase (decide (0 + n * 2 ≤ List.length l))
 ((Says C 20 [(D.agg [(D.sl (n) 2 (List.take (n * 2) (List.drop 0 l))), (D.val (Go.Value.int Go.IntKind.i64 (a))), (D.val (Go.Value.int Go.IntKind.i64 (b))), (D.val (Go.Value.int Go.IntKind.i64 (c))), (D.val (Go.Value.int Go.IntKind.i64 (d))), (D.val (Go.Value.int Go.IntKind.i64 (e)))])] [(D.agg [(D.sl (n) 2 (List.take (n * 2) (List.drop 0 l))), (D.val (Go.Value.int Go.IntKind.i64 (a))), (D.val (Go.Value.int Go.IntKind.i64 (b))), (D.val (Go.Value.int Go.IntKind.i64 (c))), (D.val (Go.Value.int Go.IntKind.i64 (d))), (D.val (Go.Value.int Go.IntKind.i64 (e)))])]) ∧
 (((((Go.Value.pointer (Option.some (Go.Addr.mk 1014 0 Option.none))) = (Go.Value.pointer (Option.some (Go.Addr.mk 1014 0 Option.none)))) ∧
 ((Option.some (AObj.cells [(Go.Value.int Go.IntKind.i64 (0 : Int)), (Go.Value.int Go.IntKind.i64 (0 : Int))] 44 false 2)) = (Option.some (AObj.cells [(Go.Value.int Go.IntKind.i64 (0 : Int)), (Go.Value.int Go.IntKind.i64 (0 : Int))] 44 false 2)))) ∧
 (((Go.Value.int Go.IntKind.i64 (Go.IntKind.wrap Go.IntKind.i64 (y - z))) = (Go.Value.int Go.IntKind.i64 (Go.IntKind.wrap Go.IntKind.i64 (y - z)))) ∧
 (((Go.Value.int Go.IntKind.i64 (z)) = (Go.Value.int Go.IntKind.i64 (z))) ∧
 (((Go.Value.pointer (Option.some (Go.Addr.mk 1002 2 Option.none))) = (Go.Value.pointer (Option.some (Go.Addr.mk 1002 2 Option.none)))) ∧
 (((Go.Value.int Go.IntKind.i64 (y)) = (Go.Value.int Go.IntKind.i64 (y))) ∧
 (((Go.Value.pointer (Option.some (Go.Addr.mk 1002 1 Option.none))) = (Go.Value.pointer (Option.some (Go.Addr.mk 1002 1 Option.none)))) ∧
 (((Go.Value.int Go.IntKind.i64 (x)) = (Go.Value.int Go.IntKind.i64 (x))) ∧
 (((Go.Value.pointer (Option.some (Go.Addr.mk 1002 0 Option.none))) = (Go.Value.pointer (Option.some (Go.Addr.mk 1002 0 Option.none)))) ∧
 (((Go.Value.agg [(Go.Value.int Go.IntKind.i64 (n9)), (Go.Value.int Go.IntKind.i64 (n10))].toArray) = (Go.Value.agg [(Go.Value.int Go.IntKind.i64 (n9)), (Go.Value.int Go.IntKind.i64 (n10))].toArray)) ∧
 True))))))))) ∧
 (bcase (decide (0 + n * 2 ≤ List.length (List.take (n * 2) (List.drop 0 l))))
 (∃ n12 : Int,
 (∃ n13 : Int,
 (∃ n14 : Int,
 ((Says C 44 [(D.agg [(D.sl (n) 2 (List.take (n * 2) (List.drop 0 (List.take (n * 2) (List.drop 0 l))))), (D.val (Go.Value.int Go.IntKind.i64 (a))), (D.val (Go.Value.int Go.IntKind.i64 (b))), (D.val (Go.Value.int Go.IntKind.i64 (c))), (D.val (Go.Value.int Go.IntKind.i64 (d))), (D.val (Go.Value.int Go.IntKind.i64 (e)))]), (D.agg [(D.val (Go.Value.int Go.IntKind.i64 (n9))), (D.val (Go.Value.int Go.IntKind.i64 (n10)))]), (D.val (Go.Value.int Go.IntKind.i64 (x))), (D.val (Go.Value.int Go.IntKind.i64 (Go.IntKind.wrap Go.IntKind.i64 (y - z))))] [(D.agg [(D.val (Go.Value.int Go.IntKind.i64 (n12))), (D.val (Go.Value.int Go.IntKind.i64 (n13)))]), (D.val (Go.Value.int Go.IntKind.i64 (n14)))]) ∧
 ((((Go.Value.int Go.IntKind.i64 (n14)) = (Go.Value.int Go.IntKind.i64 (n14))) ∧
 (((Go.Value.agg [(Go.Value.int Go.IntKind.i64 (n12)), (Go.Value.int Go.IntKind.i64 (n13))].toArray) = (Go.Value.agg [(Go.Value.int Go.IntKind.i64 (n12)), (Go.Value.int Go.IntKind.i64 (n13))].toArray)) ∧
 (((Go.Value.tuple [(Go.Value.agg [(Go.Value.int Go.IntKind.i64 (n12)), (Go.Value.int Go.IntKind.i64 (n13))].toArray), (Go.Value.int Go.IntKind.i64 (n14))].toArray) = (Go.Value.tuple [(Go.Value.agg [(Go.Value.int Go.IntKind.i64 (n12)), (Go.Value.int Go.IntKind.i64 (n13))].toArray), (Go.Value.int Go.IntKind.i64 (n14))].toArray)) ∧
 ((((Go.Value.pointer (Option.some (Go.Addr.mk 1014 0 Option.none))) = (Go.Value.pointer (Option.some (Go.Addr.mk 1014 0 Option.none)))) ∧
 ((Option.some (AObj.cells [(Go.Value.int Go.IntKind.i64 (0 : Int)), (Go.Value.int Go.IntKind.i64 (0 : Int))] 44 false 2)) = (Option.some (AObj.cells [(Go.Value.int Go.IntKind.i64 (0 : Int)), (Go.Value.int Go.IntKind.i64 (0 : Int))] 44 false 2)))) ∧
 (((Go.Value.int Go.IntKind.i64 (z)) = (Go.Value.int Go.IntKind.i64 (z))) ∧
 (((Go.Value.pointer (Option.some (Go.Addr.mk 1002 2 Option.none))) = (Go.Value.pointer (Option.some (Go.Addr.mk 1002 2 Option.none)))) ∧
 (((Go.Value.int Go.IntKind.i64 (y)) = (Go.Value.int Go.IntKind.i64 (y))) ∧
 (((Go.Value.pointer (Option.some (Go.Addr.mk 1002 1 Option.none))) = (Go.Value.pointer (Option.some (Go.Addr.mk 1002 1 Option.none)))) ∧
 (((Go.Value.pointer (Option.some (Go.Addr.mk 1002 0 Option.none))) = (Go.Value.pointer (Option.some (Go.Addr.mk 1002 0 Option.none)))) ∧
 True))))))))) ∧
 ((((Go.Value.int Go.IntKind.i64 (n14)) = (Go.Value.int Go.IntKind.i64 (n14))) ∧
 True) ∧
 (True ∧
 (bcase (n14 == 0)
 (bcase (n13 == n2)
 (bcase (decide ((if x < w then x else w) ≤ n2))
 (bcase (decide (n2 ≤ if x > w then x else w))
 (k [(D.val (Go.Value.bool true))])
 (k [(D.val (Go.Value.bool false))]))
 (k [(D.val (Go.Value.bool false))]))
 (k [(D.val (Go.Value.bool false))]))
 (k [(D.val (Go.Value.bool false))])))))))))
 False)))
 False))
 (k [(D.val (Go.Value.bool false))]))
 (k [(D.val (Go.Value.bool false))]))
 (k [(D.val (Go.Value.bool false))]))
 (k [(D.val (Go.Value.bool false))]))))))))))
 False)))
 False)))
 (k [(D.val (Go.Value.bool true))]))
 (k [(D.val (Go.Value.bool true))])))))))))
 False)
 (bcase (n3 == 2)
 (bcase (if Bool.false = Bool.true then !(n1 == 0 && (n2 == 0 && Bool.true)) else n1 == 0 && (n2 == 0 && Bool.true))
 (k [(D.val (Go.Value.bool true))])
 (k [(D.val (Go.Value.bool false))]))
 (k [(D.val (Go.Value.bool false))])))
 (bcase (n3 == 2)
 (bcase (if Bool.false = Bool.true then !(n1 == 0 && (n2 == 0 && Bool.true)) else n1 == 0 && (n2 == 0 && Bool.true))
 (k [(D.val (Go.Value.bool true))])
 (k [(D.val (Go.Value.bool false))]))
 (k [(D.val (Go.Value.bool false))])))
 (bcase (n3 == 2)
 (bcase (if Bool.false = Bool.true then !(n1 == 0 && (n2 == 0 && Bool.true)) else n1 == 0 && (n2 == 0 && Bool.true))
 (k [(D.val (Go.Value.bool true))])
 (k [(D.val (Go.Value.bool false))]))
 (k [(D.val (Go.Value.bool false))])))
 (bcase (n3 == 2)
 (bcase (if Bool.false = Bool.true then !(n1 == 0 && (n2 == 0 && Bool.true)) else n1 == 0 && (n2 == 0 && Bool.true))
 (k [(D.val (Go.Value.bool true))])
 (k [(D.val (Go.Value.bool false))]))
 (k [(D.val (Go.Value.bool false))])))
 (bcase (n5 != 0)
 (bcase (n3 == n5)
 (bcase (if Bool.false = Bool.true then !(n1 == 0 && (n2 == 0 && Bool.true)) else n1 == 0 && (n2 == 0 && Bool.true))
 (k [(D.val (Go.Value.bool true))])
 (k [(D.val (Go.Value.bool false))]))
 (k [(D.val (Go.Value.bool false))]))
 (bcase (decide (0 + n * 2 ≤ List.length l))
 (∃ n6 : Int,
 (∃ n7 : Int,
 (∃ n8 : Int,
 ((Says C 45 [(D.agg [(D.sl (n) 2 (List.take (n * 2) (List.drop 0 l))), (D.val (Go.Value.int Go.IntKind.i64 (a))), (D.val (Go.Value.int Go.IntKind.i64 (b))), (D.val (Go.Value.int Go.IntKind.i64 (c))), (D.val (Go.Value.int Go.IntKind.i64 (d))), (D.val (Go.Value.int Go.IntKind.i64 (e)))]), (D.agg [(D.val (Go.Value.int Go.IntKind.i64 (v))), (D.val (Go.Value.int Go.IntKind.i64 (w)))]), (D.val (Go.Value.int Go.IntKind.i64 (x))), (D.val (Go.Value.int Go.IntKind.i64 (y)))] [(D.agg [(D.val (Go.Value.int Go.IntKind.i64 (n6))), (D.val (Go.Value.int Go.IntKind.i64 (n7)))]), (D.val (Go.Value.int Go.IntKind.i64 (n8)))]) ∧
 (bcase (n3 != n8)
 (k [(D.val (Go.Value.bool false))])
 (bcase (if Bool.true = Bool.true then !(n1 == n6 && (n2 == n7 && Bool.true)) else n1 == n6 && (n2 == n7 && Bool.true))
 (k [(D.val (Go.Value.bool false))])
 (bcase (n8 != 0)
 (k [(D.val (Go.Value.bool true))])
 (bcase (decide (0 ≤ z))
 (bcase (decide (z ≤ y))
 (bcase (decide (v > 999995))
 (k [(D.val (Go.Value.bool true))])
 (((((Go.Value.pointer (Option.some (Go.Addr.mk 1008 0 Option.none))) = (Go.Value.pointer (Option.some (Go.Addr.mk 1008 0 Option.none)))) ∧
 ((Option.some (AObj.cells [(Go.Value.int Go.IntKind.i64 (0 : Int)), (Go.Value.int Go.IntKind.i64 (0 : Int))] 44 false 2)) = (Option.some (AObj.cells [(Go.Value.int Go.IntKind.i64 (0 : Int)), (Go.Value.int Go.IntKind.i64 (0 : Int))] 44 false 2)))) ∧
 (((Go.Value.int Go.IntKind.i64 (z)) = (Go.Value.int Go.IntKind.i64 (z))) ∧
 (((Go.Value.pointer (Option.some (Go.Addr.mk 1002 2 Option.none))) = (Go.Value.pointer (Option.some (Go.Addr.mk 1002 2 Option.none)))) ∧
 (((Go.Value.int Go.IntKind.i64 (x)) = (Go.Value.int Go.IntKind.i64 (x))) ∧
 (((Go.Value.pointer (Option.some (Go.Addr.mk 1002 0 Option.none))) = (Go.Value.pointer (Option.some (Go.Addr.mk 1002 0 Option.none)))) ∧
 (((Go.Value.agg [(Go.Value.int Go.IntKind.i64 (v)), (Go.Value.int Go.IntKind.i64 (w))].toArray) = (Go.Value.agg [(Go.Value.int Go.IntKind.i64 (v)), (Go.Value.int Go.IntKind.i64 (w))].toArray)) ∧
 (((Go.Value.agg [(Go.Value.slice (Option.some (Go.Addr.mk 500 0 Option.none)) (n) (cap)), (Go.Value.int Go.IntKind.i64 (a)), (Go.Value.int Go.IntKind.i64 (b)), (Go.Value.int Go.IntKind.i64 (c)), (Go.Value.int Go.IntKind.i64 (d)), (Go.Value.int Go.IntKind.i64 (e))].toArray) = (Go.Value.agg [(Go.Value.slice (Option.some (Go.Addr.mk 500 0 Option.none)) (n) (cap)), (Go.Value.int Go.IntKind.i64 (a)), (Go.Value.int Go.IntKind.i64 (b)), (Go.Value.int Go.IntKind.i64 (c)), (Go.Value.int Go.IntKind.i64 (d)), (Go.Value.int Go.IntKind.i64 (e))].toArray)) ∧
 True))))))) ∧
 (bcase (decide (0 + n * 2 ≤ List.length l))
 ((Says C 20 [(D.agg [(D.sl (n) 2 (List.take (n * 2) (List.drop 0 l))), (D.val (Go.Value.int Go.IntKind.i64 (a))), (D.val (Go.Value.int Go.IntKind.i64 (b))), (D.val (Go.Value.int Go.IntKind.i64 (c))), (D.val (Go.Value.int Go.IntKind.i64 (d))), (D.val (Go.Value.int Go.IntKind.i64 (e)))])] [(D.agg [(D.sl (n) 2 (List.take (n * 2) (List.drop 0 l))), (D.val (Go.Value.int Go.IntKind.i64 (a))), (D.val (Go.Value.int Go.IntKind.i64 (b))), (D.val (Go.Value.int Go.IntKind.i64 (c))), (D.val (Go.Value.int Go.IntKind.i64 (d))), (D.val (Go.Value.int Go.IntKind.i64 (e)))])]) ∧
 (((((Go.Value.pointer (Option.some (Go.Addr.mk 1008 0 Option.none))) = (Go.Value.pointer (Option.some (Go.Addr.mk 1008 0 Option.none)))) ∧
 ((Option.some (AObj.cells [(Go.Value.int Go.IntKind.i64 (0 : Int)), (Go.Value.int Go.IntKind.i64 (0 : Int))] 44 false 2)) = (Option.some (AObj.cells [(Go.Value.int Go.IntKind.i64 (0 : Int)), (Go.Value.int Go.IntKind.i64 (0 : Int))] 44 false 2)))) ∧
 (((Go.Value.int Go.IntKind.i64 (z)) = (Go.Value.int Go.IntKind.i64 (z))) ∧
 (((Go.Value.pointer (Option.some (Go.Addr.mk 1002 2 Option.none))) = (Go.Value.pointer (Option.some (Go.Addr.mk 1002 2 Option.none)))) ∧
 (((Go.Value.int Go.IntKind.i64 (x)) = (Go.Value.int Go.IntKind.i64 (x))) ∧
 (((Go.Value.pointer (Option.some (Go.Addr.mk 1002 0 Option.none))) = (Go.Value.pointer (Option.some (Go.Addr.mk 1002 0 Option.none)))) ∧
 (((Go.Value.agg [(Go.Value.int Go.IntKind.i64 (v)), (Go.Value.int Go.IntKind.i64 (w))].toArray) = (Go.Value.agg [(Go.Value.int Go.IntKind.i64 (v)), (Go.Value.int Go.IntKind.i64 (w))].toArray)) ∧
 True)))))) ∧
 (bcase (decide (0 + n * 2 ≤ List.length (List.take (n * 2) (List.drop 0 l))))
 (∃ n9 : Int,
 (∃ n10 : Int,
 (∃ n11 : Int,
 ((Says C 44 [(D.agg [(D.sl (n) 2 (List.take (n * 2) (List.drop 0 (List.take (n * 2) (List.drop 0 l))))), (D.val (Go.Value.int Go.IntKind.i64 (a))), (D.val (Go.Value.int Go.IntKind.i64 (b))), (D.val (Go.Value.int Go.IntKind.i64 (c))), (D.val (Go.Value.int Go.IntKind.i64 (d))), (D.val (Go.Value.int Go.IntKind.i64 (e)))]), (D.agg [(D.val (Go.Value.int Go.IntKind.i64 (v))), (D.val (Go.Value.int Go.IntKind.i64 (w)))]), (D.val (Go.Value.int Go.IntKind.i64 (x))), (D.val (Go.Value.int Go.IntKind.i64 (z)))] [(D.agg [(D.val (Go.Value.int Go.IntKind.i64 (n9))), (D.val (Go.Value.int Go.IntKind.i64 (n10)))]), (D.val (Go.Value.int Go.IntKind.i64 (n11)))]) ∧
 ((((Go.Value.int Go.IntKind.i64 (n11)) = (Go.Value.int Go.IntKind.i64 (n11))) ∧
 (((Go.Value.agg [(Go.Value.int Go.IntKind.i64 (n9)), (Go.Value.int Go.IntKind.i64 (n10))].toArray) = (Go.Value.agg [(Go.Value.int Go.IntKind.i64 (n9)), (Go.Value.int Go.IntKind.i64 (n10))].toArray)) ∧
 (((Go.Value.tuple [(Go.Value.agg [(Go.Value.int Go.IntKind.i64 (n9)), (Go.Value.int Go.IntKind.i64 (n10))].toArray), (Go.Value.int Go.IntKind.i64 (n11))].toArray) = (Go.Value.tuple [(Go.Value.agg [(Go.Value.int Go.IntKind.i64 (n9)), (Go.Value.int Go.IntKind.i64 (n10))].toArray), (Go.Value.int Go.IntKind.i64 (n11))].toArray)) ∧
 ((((Go.Value.pointer (Option.some (Go.Addr.mk 1008 0 Option.none))) = (Go.Value.pointer (Option.some (Go.Addr.mk 1008 0 Option.none)))) ∧
 ((Option.some (AObj.cells [(Go.Value.int Go.IntKind.i64 (0 : Int)), (Go.Value.int Go.IntKind.i64 (0 : Int))] 44 false 2)) = (Option.some (AObj.cells [(Go.Value.int Go.IntKind.i64 (0 : Int)), (Go.Value.int Go.IntKind.i64 (0 : Int))] 44 false 2)))) ∧
 (((Go.Value.pointer (Option.some (Go.Addr.mk 1002 2 Option.none))) = (Go.Value.pointer (Option.some (Go.Addr.mk 1002 2 Option.none)))) ∧
 (((Go.Value.pointer (Option.some (Go.Addr.mk 1002 0 Option.none))) = (Go.Value.pointer (Option.some (Go.Addr.mk 1002 0 Option.none)))) ∧
 True)))))) ∧
 ((((Go.Value.int Go.IntKind.i64 (n11)) = (Go.Value.int Go.IntKind.i64 (n11))) ∧
 True) ∧
 (True ∧
 (bcase (n11 != 0)
 (k [(D.val (Go.Value.bool false))])
 (bcase (decide (0 ≤ n9))
 (bcase (decide (n9 ≤ 1000000))
 (bcase (decide (0 ≤ n10))
 (bcase (decide (n10 ≤ e))
 (((((Go.Value.pointer (Option.some (Go.Addr.mk 1012 0 Option.none))) = (Go.Value.pointer (Option.some (Go.Addr.mk 1012 0 Option.none)))) ∧
 ((Option.some (AObj.cells [(Go.Value.int Go.IntKind.i64 (0 : Int)), (Go.Value.int Go.IntKind.i64 (0 : Int))] 44 false 2)) = (Option.some (AObj.cells [(Go.Value.int Go.IntKind.i64 (0 : Int)), (Go.Value.int Go.IntKind.i64 (0 : Int))] 44 false 2)))) ∧
 (((Go.Value.int Go.IntKind.i64 (Go.IntKind.wrap Go.IntKind.i64 (y - z))) = (Go.Value.int Go.IntKind.i64 (Go.IntKind.wrap Go.IntKind.i64 (y - z)))) ∧
 (((Go.Value.int Go.IntKind.i64 (z)) = (Go.Value.int Go.IntKind.i64 (z))) ∧
 (((Go.Value.pointer (Option.some (Go.Addr.mk 1002 2 Option.none))) = (Go.Value.pointer (Option.some (Go.Addr.mk 1002 2 Option.none)))) ∧
 (((Go.Value.int Go.IntKind.i64 (y)) = (Go.Value.int Go.IntKind.i64 (y))) ∧
 (((Go.Value.pointer (Option.some (Go.Addr.mk 1002 1 Option.none))) = (Go.Value.pointer (Option.some (Go.Addr.mk 1002 1 Option.none)))) ∧
 (((Go.Value.int Go.IntKind.i64 (x)) = (Go.Value.int Go.IntKind.i64 (x))) ∧
 (((Go.Value.pointer (Option.some (Go.Addr.mk 1002 0 Option.none))) = (Go.Value.pointer (Option.some (Go.Addr.mk 1002 0 Option.none)))) ∧
 (((Go.Value.agg [(Go.Value.int Go.IntKind.i64 (n9)), (Go.Value.int Go.IntKind.i64 (n10))].toArray) = (Go.Value.agg [(Go.Value.int Go.IntKind.i64 (n9)), (Go.Value.int Go.IntKind.i64 (n10))].toArray)) ∧
 (((Go.Value.agg [(Go.Value.slice (Option.some (Go.Addr.mk 500 0 Option.none)) (n) (cap)), (Go.Value.int Go.IntKind.i64 (a)), (Go.Value.int Go.IntKind.i64 (b)), (Go.Value.int Go.IntKind.i64 (c)), (Go.Value.int Go.IntKind.i64 (d)), (Go.Value.int Go.IntKind.i64 (e))].toArray) = (Go.Value.agg [(Go.Value.slice (Option.some (Go.Addr.mk 500 0 Option.none)) (n) (cap)), (Go.Value.int Go.IntKind.i64 (a)), (Go.Value.int Go.IntKind.i64 (b)), (Go.Value.int Go.IntKind.i64 (c)), (Go.Value.int Go.IntKind.i64 (d)), (Go.Value.int Go.IntKind.i64 (e))].toArray)) ∧
 True)))))))))) ∧
 (bcase (decide (0 + n * 2 ≤ List.length l))
 ((Says C 20 [(D.agg [(D.sl (n) 2 (List.take (n * 2) (List.drop 0 l))), (D.val (Go.Value.int Go.IntKind.i64 (a))), (D.val (Go.Value.int Go.IntKind.i64 (b))), (D.val (Go.Value.int Go.IntKind.i64 (c))), (D.val (Go.Value.int Go.IntKind.i64 (d))), (D.val (Go.Value.int Go.IntKind.i64 (e)))])] [(D.agg [(D.sl (n) 2 (List.take (n * 2) (List.drop 0 l))), (D.val (Go.Value.int Go.IntKind.i64 (a))), (D.val (Go.Value.int Go.IntKind.i64 (b))), (D.val (Go.Value.int Go.IntKind.i64 (c))), (D.val (Go.Value.int Go.IntKind.i64 (d))), (D.val (Go.Value.int Go.IntKind.i64 (e)))])]) ∧
 (((((Go.Value.pointer (Option.some (Go.Addr.mk 1012 0 Option.none))) = (Go.Value.pointer (Option.some (Go.Addr.mk 1012 0 Option.none)))) ∧
 ((Option.some (AObj.cells [(Go.Value.int Go.IntKind.i64 (0 : Int)), (Go.Value.int Go.IntKind.i64 (0 : Int))] 44 false 2)) = (Option.some (AObj.cells [(Go.Value.int Go.IntKind.i64 (0 : Int)), (Go.Value.int Go.IntKind.i64 (0 : Int))] 44 false 2)))) ∧
 (((Go.Value.int Go.IntKind.i64 (Go.IntKind.wrap Go.IntKind.i64 (y - z))) = (Go.Value.int Go.IntKind.i64 (Go.IntKind.wrap Go.IntKind.i64 (y - z)))) ∧
 (((Go.Value.int Go.IntKind.i64 (z)) = (Go.Value.int Go.IntKind.i64 (z))) ∧
 (((Go.Value.pointer (Option.some (Go.Addr.mk 1002 2 Option.none))) = (Go.Value.pointer (Option.some (Go.Addr.mk 1002 2 Option.none)))) ∧
 (((Go.Value.int Go.IntKind.i64 (y)) = (Go.Value.int Go.IntKind.i64 (y))) ∧
 (((Go.Value.pointer (Option.some (Go.Addr.mk 1002 1 Option.none))) = (Go.Value.pointer (Option.some (Go.Addr.mk 1002 1 Option.none)))) ∧
 (((Go.Value.int Go.IntKind.i64 (x)) = (Go.Value.int Go.IntKind.i64 (x))) ∧
 (((Go.Value.pointer (Option.some (Go.Addr.mk 1002 0 Option.none))) = (Go.Value.pointer (Option.some (Go.Addr.mk 1002 0 Option.none)))) ∧
 (((Go.Value.agg [(Go.Value.int Go.IntKind.i64 (n9)), (Go.Value.int Go.IntKind.i64 (n10))].toArray) = (Go.Value.agg [(Go.Value.int Go.IntKind.i64 (n9)), (Go.Value.int Go.IntKind.i64 (n10))].toArray)) ∧
 True))))))))) ∧
 (bcase (decide (0 + n * 2 ≤ List.length (List.take (n * 2) (List.drop 0 l))))
 (∃ n12 : Int,
 (∃ n13 : Int,
 (∃ n14 : Int,
 ((Says C 44 [(D.agg [(D.sl (n) 2 (List.take (n * 2) (List.drop 0 (List.take (n * 2) (List.drop 0 l))))), (D.val (Go.Value.int Go.IntKind.i64 (a))), (D.val (Go.Value.int Go.IntKind.i64 (b))), (D.val (Go.Value.int Go.IntKind.i64 (c))), (D.val (Go.Value.int Go.IntKind.i64 (d))), (D.val (Go.Value.int Go.IntKind.i64 (e)))]), (D.agg [(D.val (Go.Value.int Go.IntKind.i64 (n9))), (D.val (Go.Value.int Go.IntKind.i64 (n10)))]), (D.val (Go.Value.int Go.IntKind.i64 (x))), (D.val (Go.Value.int Go.IntKind.i64 (Go.IntKind.wrap Go.IntKind.i64 (y - z))))] [(D.agg [(D.val (Go.Value.int Go.IntKind.i64 (n12))), (D.val (Go.Value.int Go.IntKind.i64 (n13)))]), (D.val (Go.Value.int Go.IntKind.i64 (n14)))]) ∧
 ((((Go.Value.int Go.IntKind.i64 (n14)) = (Go.Value.int Go.IntKind.i64 (n14))) ∧
 (((Go.Value.agg [(Go.Value.int Go.IntKind.i64 (n12)), (Go.Value.int Go.IntKind.i64 (n13))].toArray) = (Go.Value.agg [(Go.Value.int Go.IntKind.i64 (n12)), (Go.Value.int Go.IntKind.i64 (n13))].toArray)) ∧
 (((Go.Value.tuple [(Go.Value.agg [(Go.Value.int Go.IntKind.i64 (n12)), (Go.Value.int Go.IntKind.i64 (n13))].toArray), (Go.Value.int Go.IntKind.i64 (n14))].toArray) = (Go.Value.tuple [(Go.Value.agg [(Go.Value.int Go.IntKind.i64 (n12)), (Go.Value.int Go.IntKind.i64 (n13))].toArray), (Go.Value.int Go.IntKind.i64 (n14))].toArray)) ∧
 ((((Go.Value.pointer (Option.some (Go.Addr.mk 1012 0 Option.none))) = (Go.Value.pointer (Option.some (Go.Addr.mk 1012 0 Option.none)))) ∧
 ((Option.some (AObj.cells [(Go.Value.int Go.IntKind.i64 (0 : Int)), (Go.Value.int Go.IntKind.i64 (0 : Int))] 44 false 2)) = (Option.some (AObj.cells [(Go.Value.int Go.IntKind.i64 (0 : Int)), (Go.Value.int Go.IntKind.i64 (0 : Int))] 44 false 2)))) ∧
 (((Go.Value.int Go.IntKind.i64 (z)) = (Go.Value.int Go.IntKind.i64 (z))) ∧
 (((Go.Value.pointer (Option.some (Go.Addr.mk 1002 2 Option.none))) = (Go.Value.pointer (Option.some (Go.Addr.mk 1002 2 Option.none)))) ∧
 (((Go.Value.int Go.IntKind.i64 (y)) = (Go.Value.int Go.IntKind.i64 (y))) ∧
 (((Go.Value.pointer (Option.some (Go.Addr.mk 1002 1 Option.none))) = (Go.Value.pointer (Option.some (Go.Addr.mk 1002 1 Option.none)))) ∧
 (((Go.Value.pointer (Option.some (Go.Addr.mk 1002 0 Option.none))) = (Go.Value.pointer (Option.some (Go.Addr.mk 1002 0 Option.none)))) ∧
 True))))))))) ∧
 ((((Go.Value.int Go.IntKind.i64 (n14)) = (Go.Value.int Go.IntKind.i64 (n14))) ∧
 True) ∧
 (True ∧
 (bcase (n14 == 0)
 (bcase (n13 == n2)
 (bcase (decide ((if x < w then x else w) ≤ n2))
 (bcase (decide (n2 ≤ if x > w then x else w))
 (k [(D.val (Go.Value.bool true))])
 (k [(D.val (Go.Value.bool false))]))
 (k [(D.val (Go.Value.bool false))]))
 (k [(D.val (Go.Value.bool false))]))
 (k [(D.val (Go.Value.bool false))])))))))))
 False)))
 False))
 (k [(D.val (Go.Value.bool false))]))
 (k [(D.val (Go.Value.bool false))]))
 (k [(D.val (Go.Value.bool false))]))
 (k [(D.val (Go.Value.bool false))]))))))))))
 False)))
 False)))
 (k [(D.val (Go.Value.bool true))]))
 (k [(D.val (Go.Value.bool true))])))))))))
 False))))))
 False))))))))
 False)))
 False))
 (k [(D.val (Go.Value.bool true))]))) ∨
 ((Says C 9 [] [(D.val (Go.Value.bool false))]) ∧
 (k [(D.val (Go.Value.bool false))]))) := by kernel_rfl
def g8n (C : Ct) (L : AtLoop) (a b c d e v w x y z : Int) (k : List D → Prop) : Prop := wpFn Try.prog (hM C) L 0 8 #[vR (.slice none 0 0) a b c d e, vP v w, .agg #[vI x, vI y, vI z]] (heapOf []) (dataK k)
theorem g8n_text (C : Ct) (L : AtLoop) (a : Int) (b : Int) (c : Int) (d : Int) (e : Int) (v : Int) (w : Int) (x : Int) (y : Int) (z : Int) (k : List D → Prop) : g8n C L a b c d e v w x y z k =
 (((Says C 9 [] [(D.val (Go.Value.bool true))]) ∧
 (((((Go.Value.pointer (Option.some (Go.Addr.mk 1004 0 Option.none))) = (Go.Value.pointer (Option.some (Go.Addr.mk 1004 0 Option.none)))) ∧
 ((Option.some (AObj.cells [(Go.Value.int Go.IntKind.i64 (0 : Int)), (Go.Value.int Go.IntKind.i64 (0 : Int))] 44 false 2)) = (Option.some (AObj.cells [(Go.Value.int Go.IntKind.i64 (0 : Int)), (Go.Value.int Go.IntKind.i64 (0 : Int))] 44 false 2)))) ∧
 (((Go.Value.int Go.IntKind.i64 (y)) = (Go.Value.int Go.IntKind.i64 (y))) ∧
 (((Go.Value.pointer (Option.some (Go.Addr.mk 1002 1 Option.none))) = (Go.Value.pointer (Option.some (Go.Addr.mk 1002 1 Option.none)))) ∧
 (((Go.Value.int Go.IntKind.i64 (x)) = (Go.Value.int Go.IntKind.i64 (x))) ∧
 (((Go.Value.pointer (Option.some (Go.Addr.mk 1002 0 Option.none))) = (Go.Value.pointer (Option.some (Go.Addr.mk 1002 0 Option.none)))) ∧
 (((Go.Value.agg [(Go.Value.int Go.IntKind.i64 (v)), (Go.Value.int Go.IntKind.i64 (w))].toArray) = (Go.Value.agg [(Go.Value.int Go.IntKind.i64 (v)), (Go.Value.int Go.IntKind.i64 (w))].toArray)) ∧
 (((Go.Value.agg [(Go.Value.slice Option.none 0 0), (Go.Value.int Go.IntKind.i64 (a)), (Go.Value.int Go.IntKind.i64 (b)), (Go.Value.int Go.IntKind.i64 (c)), (Go.Value.int Go.IntKind.i64 (d)), (Go.Value.int Go.IntKind.i64 (e))].toArray) = (Go.Value.agg [(Go.Value.slice Option.none 0 0), (Go.Value.int Go.IntKind.i64 (a)), (Go.Value.int Go.IntKind.i64 (b)), (Go.Value.int Go.IntKind.i64 (c)), (Go.Value.int Go.IntKind.i64 (d)), (Go.Value.int Go.IntKind.i64 (e))].toArray)) ∧
 True))))))) ∧
 ((Says C 20 [(D.agg [D.nil, (D.val (Go.Value.int Go.IntKind.i64 (a))), (D.val (Go.Value.int Go.IntKind.i64 (b))), (D.val (Go.Value.int Go.IntKind.i64 (c))), (D.val (Go.Value.int Go.IntKind.i64 (d))), (D.val (Go.Value.int Go.IntKind.i64 (e)))])] [(D.agg [(D.sl 0 2 []), (D.val (Go.Value.int Go.IntKind.i64 (a))), (D.val (Go.Value.int Go.IntKind.i64 (b))), (D.val (Go.Value.int Go.IntKind.i64 (c))), (D.val (Go.Value.int Go.IntKind.i64 (d))), (D.val (Go.Value.int Go.IntKind.i64 (e)))])]) ∧
 (((((Go.Value.pointer (Option.some (Go.Addr.mk 1004 0 Option.none))) = (Go.Value.pointer (Option.some (Go.Addr.mk 1004 0 Option.none)))) ∧
 ((Option.some (AObj.cells [(Go.Value.int Go.IntKind.i64 (0 : Int)), (Go.Value.int Go.IntKind.i64 (0 : Int))] 44 false 2)) = (Option.some (AObj.cells [(Go.Value.int Go.IntKind.i64 (0 : Int)), (Go.Value.int Go.IntKind.i64 (0 : Int))] 44 false 2)))) ∧
 (((Go.Value.int Go.IntKind.i64 (y)) = (Go.Value.int Go.IntKind.i64 (y))) ∧
 (((Go.Value.pointer (Option.some (Go.Addr.mk 1002 1 Option.none))) = (Go.Value.pointer (Option.some (Go.Addr.mk 1002 1 Option.none)))) ∧
 (((Go.Value.int Go.IntKind.i64 (x)) = (Go.Value.int Go.IntKind.i64 (x))) ∧
 (((Go.Value.pointer (Option.some (Go.Addr.mk 1002 0 Option.none))) = (Go.Value.pointer (Option.some (Go.Addr.mk 1002 0 Option.none)))) ∧
 (((Go.Value.agg [(Go.Value.int Go.IntKind.i64 (v)), (Go.Value.int Go.IntKind.i64 (w))].toArray) = (Go.Value.agg [(Go.Value.int Go.IntKind.i64 (v)), (Go.Value.int Go.IntKind.i64 (w))].toArray)) ∧
 True)))))) ∧
 (∃ n1 : Int,
 (∃ n2 : Int,
 (∃ n3 : Int,
 ((Says C 44 [(D.agg [(D.sl 0 2 []), (D.val (Go.Value.int Go.IntKind.i64 (a))), (D.val (Go.Value.int Go.IntKind.i64 (b))), (D.val (Go.Value.int Go.IntKind.i64 (c))), (D.val (Go.Value.int Go.IntKind.i64 (d))), (D.val (Go.Value.int Go.IntKind.i64 (e)))]), (D.agg [(D.val (Go.Value.int Go.IntKind.i64 (v))), (D.val (Go.Value.int Go.IntKind.i64 (w)))]), (D.val (Go.Value.int Go.IntKind.i64 (x))), (D.val (Go.Value.int Go.IntKind.i64 (y)))] [(D.agg [(D.val (Go.Value.int Go.IntKind.i64 (n1))), (D.val (Go.Value.int Go.IntKind.i64 (n2)))]), (D.val (Go.Value.int Go.IntKind.i64 (n3)))]) ∧
 ((((Go.Value.int Go.IntKind.i64 (n3)) = (Go.Value.int Go.IntKind.i64 (n3))) ∧
 (((Go.Value.agg [(Go.Value.int Go.IntKind.i64 (n1)), (Go.Value.int Go.IntKind.i64 (n2))].toArray) = (Go.Value.agg [(Go.Value.int Go.IntKind.i64 (n1)), (Go.Value.int Go.IntKind.i64 (n2))].toArray)) ∧
 (((Go.Value.tuple [(Go.Value.agg [(Go.Value.int Go.IntKind.i64 (n1)), (Go.Value.int Go.IntKind.i64 (n2))].toArray), (Go.Value.int Go.IntKind.i64 (n3))].toArray) = (Go.Value.tuple [(Go.Value.agg [(Go.Value.int Go.IntKind.i64 (n1)), (Go.Value.int Go.IntKind.i64 (n2))].toArray), (Go.Value.int Go.IntKind.i64 (n3))].toArray)) ∧
 ((((Go.Value.pointer (Option.some (Go.Addr.mk 1004 0 Option.none))) = (Go.Value.pointer (Option.some (Go.Addr.mk 1004 0 Option.none)))) ∧
 ((Option.some (AObj.cells [(Go.Value.int Go.IntKind.i64 (0 : Int)), (Go.Value.int Go.IntKind.i64 (0 : Int))] 44 false 2)) = (Option.some (AObj.cells [(Go.Value.int Go.IntKind.i64 (0 : Int)), (Go.Value.int Go.IntKind.i64 (0 : Int))] 44 false 2)))) ∧
 (((Go.Value.pointer (Option.some (Go.Addr.mk 1002 1 Option.none))) = (Go.Value.pointer (Option.some (Go.Addr.mk 1002 1 Option.none)))) ∧
 (((Go.Value.pointer (Option.some (Go.Addr.mk 1002 0 Option.none))) = (Go.Value.pointer (Option.some (Go.Addr.mk 1002 0 Option.none)))) ∧
 True)))))) ∧
 ((((Go.Value.int Go.IntKind.i64 (n3)) = (Go.Value.int Go.IntKind.i64 (n3))) ∧
 True) ∧
 (True ∧
 (∃ n4 : Int,
 (∃ n5 : Int,
 ((Says C 23 [(D.agg [D.nil, (D.val (Go.Value.int Go.IntKind.i64 (a))), (D.val (Go.Value.int Go.IntKind.i64 (b))), (D.val (Go.Value.int Go.IntKind.i64 (c))), (D.val (Go.Value.int Go.IntKind.i64 (d))), (D.val (Go.Value.int Go.IntKind.i64 (e)))])] [(D.val (Go.Value.int Go.IntKind.i64 (n4))), (D.val (Go.Value.int Go.IntKind.i64 (n5)))]) ∧
 (bcase (n5 == 0)
 (bcase (decide (0 ≤ v))
 (bcase (decide (v ≤ 1000000))
 (bcase (decide (0 ≤ w))
 (bcase (decide (w ≤ e))
 (∃ n6 : Int,
 (∃ n7 : Int,
 (∃ n8 : Int,
 ((Says C 45 [(D.agg [D.nil, (D.val (Go.Value.int Go.IntKind.i64 (a))), (D.val (Go.Value.int Go.IntKind.i64 (b))), (D.val (Go.Value.int Go.IntKind.i64 (c))), (D.val (Go.Value.int Go.IntKind.i64 (d))), (D.val (Go.Value.int Go.IntKind.i64 (e)))]), (D.agg [(D.val (Go.Value.int Go.IntKind.i64 (v))), (D.val (Go.Value.int Go.IntKind.i64 (w)))]), (D.val (Go.Value.int Go.IntKind.i64 (x))), (D.val (Go.Value.int Go.IntKind.i64 (y)))] [(D.agg [(D.val (Go.Value.int Go.IntKind.i64 (n6))), (D.val (Go.Value.int Go.IntKind.i64 (n7)))]), (D.val (Go.Value.int Go.IntKind.i64 (n8)))]) ∧
 (bcase (n3 != n8)
 (k [(D.val (Go.Value.bool false))])
 (bcase (if Bool.true = Bool.true then !(n1 == n6 && (n2 == n7 && Bool.true)) else n1 == n6 && (n2 == n7 && Bool.true))
 (k [(D.val (Go.Value.bool false))])
 (bcase (n8 != 0)
 (k [(D.val (Go.Value.bool true))])
 (bcase (decide (0 ≤ z))
 (bcase (decide (z ≤ y))
 (bcase (decide (v > 999995))
 (k [(D.val (Go.Value.bool true))])
 (((((Go.Value.pointer (Option.some (Go.Addr.mk 1010 0 Option.none))) = (Go.Value.pointer (Option.some (Go.Addr.mk 1010 0 Option.none)))) ∧
 ((Option.some (AObj.cells [(Go.Value.int Go.IntKind.i64 (0 : Int)), (Go.Value.int Go.IntKind.i64 (0 : Int))] 44 false 2)) = (Option.some (AObj.cells [(Go.Value.int Go.IntKind.i64 (0 : Int)), (Go.Value.int Go.IntKind.i64 (0 : Int))] 44 false 2)))) ∧
 (((Go.Value.int Go.IntKind.i64 (z)) = (Go.Value.int Go.IntKind.i64 (z))) ∧
 (((Go.Value.pointer (Option.some (Go.Addr.mk 1002 2 Option.none))) = (Go.Value.pointer (Option.some (Go.Addr.mk 1002 2 Option.none)))) ∧
 (((Go.Value.int Go.IntKind.i64 (x)) = (Go.Value.int Go.IntKind.i64 (x))) ∧
 (((Go.Value.pointer (Option.some (Go.Addr.mk 1002 0 Option.none))) = (Go.Value.pointer (Option.some (Go.Addr.mk 1002 0 Option.none)))) ∧
 (((Go.Value.agg [(Go.Value.int Go.IntKind.i64 (v)), (Go.Value.int Go.IntKind.i64 (w))].toArray) = (Go.Value.agg [(Go.Value.int Go.IntKind.i64 (v)), (Go.Value.int Go.IntKind.i64 (w))].toArray)) ∧
 (((Go.Value.agg [(Go.Value.slice Option.none 0 0), (Go.Value.int Go.IntKind.i64 (a)), (Go.Value.int Go.IntKind.i64 (b)), (Go.Value.int Go.IntKind.i64 (c)), (Go.Value.int Go.IntKind.i64 (d)), (Go.Value.int Go.IntKind.i64 (e))].toArray) = (Go.Value.agg [(Go.Value.slice Option.none 0 0), (Go.Value.int Go.IntKind.i64 (a)), (Go.Value.int Go.IntKind.i64 (b)), (Go.Value.int Go.IntKind.i64 (c)), (Go.Value.int Go.IntKind.i64 (d)), (Go.Value.int Go.IntKind.i64 (e))].toArray)) ∧
 True))))))) ∧
 ((Says C 20 [(D.agg [D.nil, (D.val (Go.Value.int Go.IntKind.i64 (a))), (D.val (Go.Value.int Go.IntKind.i64 (b))), (D.val (Go.Value.int Go.IntKind.i64 (c))), (D.val (Go.Value.int Go.IntKind.i64 (d))), (D.val (Go.Value.int Go.IntKind.i64 (e)))])] [(D.agg [(D.sl 0 2 []), (D.val (Go.Value.int Go.IntKind.i64 (a))), (D.val (Go.Value.int Go.IntKind.i64 (b))), (D.val (Go.Value.int Go.IntKind.i64 (c))), (D.val (Go.Value.int Go.IntKind.i64 (d))), (D.val (Go.Value.int Go.IntKind.i64 (e)))])]) ∧
 (((((Go.Value.pointer (Option.some (Go.Addr.mk 1010 0 Option.none))) = (Go.Value.pointer (Option.some (Go.Addr.mk 1010 0 Option.none)))) ∧
 ((Option.some (AObj.cells [(Go.Value.int Go.IntKind.i64 (0 : Int)), (Go.Value.int Go.IntKind.i64 (0 : Int))] 44 false 2)) = (Option.some (AObj.cells [(Go.Value.int Go.IntKind.i64 (0 : Int)), (Go.Value.int Go.IntKind.i64 (0 : Int))] 44 false 2)))) ∧
 (((Go.Value.int Go.IntKind.i64 (z)) = (Go.Value.int Go.IntKind.i64 (z))) ∧
 (((Go.Value.pointer (Option.some (Go.Addr.mk 1002 2 Option.none))) = (Go.Value.pointer (Option.some (Go.Addr.mk 1002 2 Option.none)))) ∧
 (((Go.Value.int Go.IntKind.i64 (x)) = (Go.Value.int Go.IntKind.i64 (x))) ∧
 (((Go.Value.pointer (Option.some (Go.Addr.mk 1002 0 Option.none))) = (Go.Value.pointer (Option.some (Go.Addr.mk 1002 0 Option.none)))) ∧
 (((Go.Value.agg [(Go.Value.int Go.IntKind.i64 (v)), (Go.Value.int Go.IntKind.i64 (w))].toArray) = (Go.Value.agg [(Go.Value.int Go.IntKind.i64 (v)), (Go.Value.int Go.IntKind.i64 (w))].toArray)) ∧
 True)))))) ∧
 (∃ n9 : Int,
 (∃ n10 : Int,
 (∃ n11 : Int,
 ((Says C 44 [(D.agg [(D.sl 0 2 []), (D.val (Go.Value.int Go.IntKind.i64 (a))), (D.val (Go.Value.int Go.IntKind.i64 (b))), (D.val (Go.Value.int Go.IntKind.i64 (c))), (D.val (Go.Value.int Go.IntKind.i64 (d))), (D.val (Go.Value.int Go.IntKind.i64 (e)))]), (D.agg [(D.val (Go.Value.int Go.IntKind.i64 (v))), (D.val (Go.Value.int Go.IntKind.i64 (w)))]), (D.val (Go.Value.int Go.IntKind.i64 (x))), (D.val (Go.Value.int Go.IntKind.i64 (z)))] [(D.agg [(D.val (Go.Value.int Go.IntKind.i64 (n9))), (D.val (Go.Value.int Go.IntKind.i64 (n10)))]), (D.val (Go.Value.int Go.IntKind.i64 (n11)))]) ∧
 ((((Go.Value.int Go.IntKind.i64 (n11)) = (Go.Value.int Go.IntKind.i64 (n11))) ∧
 (((Go.Value.agg [(Go.Value.int Go.IntKind.i64 (n9)), (Go.Value.int Go.IntKind.i64 (n10))].toArray) = (Go.Value.agg [(Go.Value.int Go.IntKind.i64 (n9)), (Go.Value.int Go.IntKind.i64 (n10))].toArray)) ∧
 (((Go.Value.tuple [(Go.Value.agg [(Go.Value.int Go.IntKind.i64 (n9)), (Go.Value.int Go.IntKind.i64 (n10))].toArray), (Go.Value.int Go.IntKind.i64 (n11))].toArray) = (Go.Value.tuple [(Go.Value.agg [(Go.Value.int Go.IntKind.i64 (n9)), (Go.Value.int Go.IntKind.i64 (n10))].toArray), (Go.Value.int Go.IntKind.i64 (n11))].toArray)) ∧
 ((((Go.Value.pointer (Option.some (Go.Addr.mk 1010 0 Option.none))) = (Go.Value.pointer (Option.some (Go.Addr.mk 1010 0 Option.none)))) ∧
 ((Option.some (AObj.cells [(Go.Value.int Go.IntKind.i64 (0 : Int)), (Go.Value.int Go.IntKind.i64 (0 : Int))] 44 false 2)) = (Option.some (AObj.cells [(Go.Value.int Go.IntKind.i64 (0 : Int)), (Go.Value.int Go.IntKind.i64 (0 : Int))] 44 false 2)))) ∧
 (((Go.Value.pointer (Option.some (Go.Addr.mk 1002 2 Option.none))) = (Go.Value.pointer (Option.some (Go.Addr.mk 1002 2 Option.none)))) ∧
 (((Go.Value.pointer (Option.some (Go.Addr.mk 1002 0 Option.none))) = (Go.Value.pointer (Option.some (Go.Addr.mk 1002 0 Option.none)))) ∧
 True)))))) ∧
 ((((Go.Value.int Go.IntKind.i64 (n11)) = (Go.Value.int Go.IntKind.i64 (n11))) ∧
 True) ∧
 (True ∧
 (bcase (n11 != 0)
 (k [(D.val (Go.Value.bool false))])
 (bcase (decide (0 ≤ n9))
 (bcase (decide (n9 ≤ 1000000))
 (bcase (decide (0 ≤ n10))
 (bcase (decide (n10 ≤ e))
 (((((Go.Value.pointer (Option.some (Go.Addr.mk 1014 0 Option.none))) = (Go.Value.pointer (Option.some (Go.Addr.mk 1014 0 Option.none)))) ∧
 ((Option.some (AObj.cells [(Go.Value.int Go.IntKind.i64 (0 : Int)), (Go.Value.int Go.IntKind.i64 (0 : Int))] 44 false 2)) = (Option.some (AObj.cells [(Go.Value.int Go.IntKind.i64 (0 : Int)), (Go.Value.int Go.IntKind.i64 (0 : Int))] 44 false 2)))) ∧
 (((Go.Value.int Go.IntKind.i64 (Go.IntKind.wrap Go.IntKind.i64 (y - z))) = (Go.Value.int Go.IntKind.i64 (Go.IntKind.wrap Go.IntKind.i64 (y - z)))) ∧
 (((Go.Value.int Go.IntKind.i64 (z)) = (Go.Value.int Go.IntKind.i64 (z))) ∧
 (((Go.Value.pointer (Option.some (Go.Addr.mk 1002 2 Option.none))) = (Go.Value.pointer (Option.some (Go.Addr.mk 1002 2 Option.none)))) ∧
 (((Go.Value.int Go.IntKind.i64 (y)) = (Go.Value.int Go.IntKind.i64 (y))) ∧
 (((Go.Value.pointer (Option.some (Go.Addr.mk 1002 1 Option.none))) = (Go.Value.pointer (Option.some (Go.Addr.mk 1002 1 Option.none)))) ∧
 (((Go.Value.int Go.IntKind.i64 (x)) = (Go.Value.int Go.IntKind.i64 (x))) ∧
 (((Go.Value.pointer (Option.some (Go.Addr.mk 1002 0 Option.none))) = (Go.Value.pointer (Option.some (Go.Addr.mk 1002 0 Option.none)))) ∧
 (((Go.Value.agg [(Go.Value.int Go.IntKind.i64 (n9)), (Go.Value.int Go.IntKind.i64 (n10))].toArray) = (Go.Value.agg [(Go.Value.int Go.IntKind.i64 (n9)), (Go.Value.int Go.IntKind.i64 (n10))].toArray)) ∧
 (((Go.Value.agg [(Go.Value.slice Option.none 0 0), (Go.Value.int Go.IntKind.i64 (a)), (Go.Value.int Go.IntKind.i64 (b)), (Go.Value.int Go.IntKind.i64 (c)), (Go.Value.int Go.IntKind.i64 (d)), (Go.Value.int Go.IntKind.i64 (e))].toArray) = (Go.Value.agg [(Go.Value.slice Option.none 0 0), (Go.Value.int Go.IntKind.i64 (a)), (Go.Value.int Go.IntKind.i64 (b)), (Go.Value.int Go.IntKind.i64 (c)), (Go.Value.int Go.IntKind.i64 (d)), (Go.Value.int Go.IntKind.i64 (e))].toArray)) ∧
 True)))))))))) ∧
 ((Says C 20 [(D.agg [D.nil, (D.val (Go.Value.int Go.IntKind.i64 (a))), (D.val (Go.Value.int Go.IntKind.i64 (b))), (D.val (Go.Value.int Go.IntKind.i64 (c))), (D.val (Go.Value.int Go.IntKind.i64 (d))), (D.val (Go.Value.int Go.IntKind.i64 (e)))])] [(D.agg [(D.sl 0 2 []), (D.val (Go.Value.int Go.IntKind.i64 (a))), (D.val (Go.Value.int Go.IntKind.i64 (b))), (D.val (Go.Value.int Go.IntKind.i64 (c))), (D.val (Go.Value.int Go.IntKind.i64 (d))), (D.val (Go.Value.int Go.IntKind.i64 (e)))])]) ∧
 (((((Go.Value.pointer (Option.some (Go.Addr.mk 1014 0 Option.none))) = (Go.Value.pointer (Option.some (Go.Addr.mk 1014 0 Option.none)))) ∧
 ((Option.some (AObj.cells [(Go.Value.int Go.IntKind.i64 (0 : Int)), (Go.Value.int Go.IntKind.i64 (0 : Int))] 44 false 2)) = (Option.some (AObj.cells [(Go.Value.int Go.IntKind.i64 (0 : Int)), (Go.Value.int Go.IntKind.i64 (0 : Int))] 44 false 2)))) ∧
 (((Go.Value.int Go.IntKind.i64 (Go.IntKind.wrap Go.IntKind.i64 (y - z))) = (Go.Value.int Go.IntKind.i64 (Go.IntKind.wrap Go.IntKind.i64 (y - z)))) ∧
 (((Go.Value.int Go.IntKind.i64 (z)) = (Go.Value.int Go.IntKind.i64 (z))) ∧
 (((Go.Value.pointer (Option.some (Go.Addr.mk 1002 2 Option.none))) = (Go.Value.pointer (Option.some (Go.Addr.mk 1002 2 Option.none)))) ∧
 (((Go.Value.int Go.IntKind.i64 (y)) = (Go.Value.int Go.IntKind.i64 (y))) ∧
 (((Go.Value.pointer (Option.some (Go.Addr.mk 1002 1 Option.none))) = (Go.Value.pointer (Option.some (Go.Addr.mk 1002 1 Option.none)))) ∧
 (((Go.Value.int Go.IntKind.i64 (x)) = (Go.Value.int Go.IntKind.i64 (x))) ∧
 (((Go.Value.pointer (Option.some (Go.Addr.mk 1002 0 Option.none))) = (Go.Value.pointer (Option.some (Go.Addr.mk 1002 0 Option.none)))) ∧
 (((Go.Value.agg [(Go.Value.int Go.IntKind.i64 (n9)), (Go.Value.int Go.IntKind.i64 (n10))].toArray) = (Go.Value.agg [(Go.Value.int Go.IntKind.i64 (n9)), (Go.Value.int Go.IntKind.i64 (n10))].toArray)) ∧
 True))))))))) ∧
 (∃ n12 : Int,
 (∃ n13 : Int,
 (∃ n14 : Int,
 ((Says C 44 [(D.agg [(D.sl 0 2 []), (D.val (Go.Value.int Go.IntKind.i64 (a))), (D.val (Go.Value.int Go.IntKind.i64 (b))), (D.val (Go.Value.int Go.IntKind.i64 (c))), (D.val (Go.Value.int Go.IntKind.i64 (d))), (D.val (Go.Value.int Go.IntKind.i64 (e)))]), (D.agg [(D.val (Go.Value.int Go.IntKind.i64 (n9))), (D.val (Go.Value.int Go.IntKind.i64 (n10)))]), (D.val (Go.Value.int Go.IntKind.i64 (x))), (D.val (Go.Value.int Go.IntKind.i64 (Go.IntKind.wrap Go.IntKind.i64 (y - z))))] [(D.agg [(D.val (Go.Value.int Go.IntKind.i64 (n12))), (D.val (Go.Value.int Go.IntKind.i64 (n13)))]), (D.val (Go.Value.int Go.IntKind.i64 (n14)))]) ∧
 ((((Go.Value.int Go.IntKind.i64 (n14)) = (Go.Value.int Go.IntKind.i64 (n14))) ∧
 (((Go.Value.agg [(Go.Value.int Go.IntKind.i64 (n12)), (Go.Value.int Go.IntKind.i64 (n13))].toArray) = (Go.Value.agg [(Go.Value.int Go.IntKind.i64 (n12)), (Go.Value.int Go.IntKind.i64 (n13))].toArray)) ∧
 (((Go.Value.tuple [(Go.Value.agg [(Go.Value.int Go.IntKind.i64 (n12)), (Go.Value.int Go.IntKind.i64 (n13))].toArray), (Go.Value.int Go.IntKind.i64 (n14))].toArray) = (Go.Value.tuple [(Go.Value.agg [(Go.Value.int Go.IntKind.i64 (n12)), (Go.Value.int Go.IntKind.i64 (n13))].toArray), (Go.Value.int Go.IntKind.i64 (n14))].toArray)) ∧
 ((((Go.Value.pointer (Option.some (Go.Addr.mk 1014 0 Option.none))) = (Go.Value.pointer (Option.some (Go.Addr.mk 1014 0 Option.none)))) ∧
 ((Option.some (AObj.cells [(Go.Value.int Go.IntKind.i64 (0 : Int)), (Go.Value.int Go.IntKind.i64 (0 : Int))] 44 false 2)) = (Option.some (AObj.cells [(Go.Value.int Go.IntKind.i64 (0 : Int)), (Go.Value.int Go.IntKind.i64 (0 : Int))] 44 false 2)))) ∧
 (((Go.Value.int Go.IntKind.i64 (z)) = (Go.Value.int Go.IntKind.i64 (z))) ∧
 (((Go.Value.pointer (Option.some (Go.Addr.mk 1002 2 Option.none))) = (Go.Value.pointer (Option.some (Go.Addr.mk 1002 2 Option.none)))) ∧
 (((Go.Value.int Go.IntKind.i64 (y)) = (Go.Value.int Go.IntKind.i64 (y))) ∧
 (((Go.Value.pointer (Option.some (Go.Addr.mk 1002 1 Option.none))) = (Go.Value.pointer (Option.some (Go.Addr.mk 1002 1 Option.none)))) ∧
 (((Go.Value.pointer (Option.some (Go.Addr.mk 1002 0 Option.none))) = (Go.Value.pointer (Option.some (Go.Addr.mk 1002 0 Option.none)))) ∧
 True))))))))) ∧
 ((((Go.Value.int Go.IntKind.i64 (n14)) = (Go.Value.int Go.IntKind.i64 (n14))) ∧
 True) ∧
 (True ∧
 (bcase (n14 == 0)
 (bcase (n13 == n2)
 (bcase (decide ((if x < w then x else w) ≤ n2))
 (bcase (decide (n2 ≤ if x > w then x else w))
 (k [(D.val (Go.Value.bool true))])
 (k [(D.val (Go.Value.bool false))]))
 (k [(D.val (Go.Value.bool false))]))
 (k [(D.val (Go.Value.bool false))]))
 (k [(D.val (Go.Value.bool false))]))))))))))))
 (k [(D.val (Go.Value.bool false))]))
 (k [(D.val (Go.Value.bool false))]))
 (k [(D.val (Go.Value.bool false))]))
 (k [(D.val (Go.Value.bool false))]))))))))))))))
 (k [(D.val (Go.Value.bool true))]))
 (k [(D.val (Go.Value.bool true))])))))))))
 (bcase (n3 == 2)
 (bcase (if Bool.false = Bool.true then !(n1 == 0 && (n2 == 0 && Bool.true)) else n1 == 0 && (n2 == 0 && Bool.true))
 (k [(D.val (Go.Value.bool true))])
 (k [(D.val (Go.Value.bool false))]))
 (k [(D.val (Go.Value.bool false))])))
 (bcase (n3 == 2)
 (bcase (if Bool.false = Bool.true then !(n1 == 0 && (n2 == 0 && Bool.true)) else n1 == 0 && (n2 == 0 && Bool.true))
 (k [(D.val (Go.Value.bool true))])
 (k [(D.val (Go.Value.bool false))]))
 (k [(D.val (Go.Value.bool false))])))
 (bcase (n3 == 2)
 (bcase (if Bool.false = Bool.true then !(n1 == 0 && (n2 == 0 && Bool.true)) else n1 == 0 && (n2 == 0 && Bool.true))
 (k [(D.val (Go.Value.bool true))])
 (k [(D.val (Go.Value.bool false))]))
 (k [(D.val (Go.Value.bool false))])))
 (bcase (n3 == 2)
 (bcase (if Bool.false = Bool.true then !(n1 == 0 && (n2 == 0 && Bool.true)) else n1 == 0 && (n2 == 0 && Bool.true))
 (k [(D.val (Go.Value.bool true))])
 (k [(D.val (Go.Value.bool false))]))
 (k [(D.val (Go.Value.bool false))])))
 (bcase (n5 != 0)
 (bcase (n3 == n5)
 (bcase (if Bool.false = Bool.true then !(n1 == 0 && (n2 == 0 && Bool.true)) else n1 == 0 && (n2 == 0 && Bool.true))
 (k [(D.val (Go.Value.bool true))])
 (k [(D.val (Go.Value.bool false))]))
 (k [(D.val (Go.Value.bool false))]))
 (∃ n6 : Int,
 (∃ n7 : Int,
 (∃ n8 : Int,
 ((Says C 45 [(D.agg [D.nil, (D.val (Go.Value.int Go.IntKind.i64 (a))), (D.val (Go.Value.int Go.IntKind.i64 (b))), (D.val (Go.Value.int Go.IntKind.i64 (c))), (D.val (Go.Value.int Go.IntKind.i64 (d))), (D.val (Go.Value.int Go.IntKind.i64 (e)))]), (D.agg [(D.val (Go.Value.int Go.IntKind.i64 (v))), (D.val (Go.Value.int Go.IntKind.i64 (w)))]), (D.val (Go.Value.int Go.IntKind.i64 (x))), (D.val (Go.Value.int Go.IntKind.i64 (y)))] [(D.agg [(D.val (Go.Value.int Go.IntKind.i64 (n6))), (D.val (Go.Value.int Go.IntKind.i64 (n7)))]), (D.val (Go.Value.int Go.IntKind.i64 (n8)))]) ∧
 (bcase (n3 != n8)
 (k [(D.val (Go.Value.bool false))])
 (bcase (if Bool.true = Bool.true then !(n1 == n6 && (n2 == n7 && Bool.true)) else n1 == n6 && (n2 == n7 && Bool.true))
 (k [(D.val (Go.Value.bool false))])
 (bcase (n8 != 0)
 (k [(D.val (Go.Value.bool true))])
 (bcase (decide (0 ≤ z))
 (bcase (decide (z ≤ y))
 (bcase (decide (v > 999995))
 (k [(D.val (Go.Value.bool true))])
 (((((Go.Value.pointer (Option.some (Go.Addr.mk 1008 0 Option.none))) = (Go.Value.pointer (Option.some (Go.Addr.mk 1008 0 Option.none)))) ∧
 ((Option.some (AObj.cells [(Go.Value.int Go.IntKind.i64 (0 : Int)), (Go.Value.int Go.IntKind.i64 (0 : Int))] 44 false 2)) = (Option.some (AObj.cells [(Go.Value.int Go.IntKind.i64 (0 : Int)), (Go.Value.int Go.IntKind.i64 (0 : Int))] 44 false 2)))) ∧
 (((Go.Value.int Go.IntKind.i64 (z)) = (Go.Value.int Go.IntKind.i64 (z))) ∧
 (((Go.Value.pointer (Option.some (Go.Addr.mk 1002 2 Option.none))) = (Go.Value.pointer (Option.some (Go.Addr.mk 1002 2 Option.none)))) ∧
 (((Go.Value.int Go.IntKind.i64 (x)) = (Go.Value.int Go.IntKind.i64 (x))) ∧
 (((Go.Value.pointer (Option.some (Go.Addr.mk 1002 0 Option.none))) = (Go.Value.pointer (Option.some (Go.Addr.mk 1002 0 Option.none)))) ∧
 (((Go.Value.agg [(Go.Value.int Go.IntKind.i64 (v)), (Go.Value.int Go.IntKind.i64 (w))].toArray) = (Go.Value.agg [(Go.Value.int Go.IntKind.i64 (v)), (Go.Value.int Go.IntKind.i64 (w))].toArray)) ∧
 (((Go.Value.agg [(Go.Value.slice Option.none 0 0), (Go.Value.int Go.IntKind.i64 (a)), (Go.Value.int Go.IntKind.i64 (b)), (Go.Value.int Go.IntKind.i64 (c)), (Go.Value.int Go.IntKind.i64 (d)), (Go.Value.int Go.IntKind.i64 (e))].toArray) = (Go.Value.agg [(Go.Value.slice Option.none 0 0), (Go.Value.int Go.IntKind.i64 (a)), (Go.Value.int Go.IntKind.i64 (b)), (Go.Value.int Go.IntKind.i64 (c)), (Go.Value.int Go.IntKind.i64 (d)), (Go.Value.int Go.IntKind.i64 (e))].toArray)) ∧
 True))))))) ∧
 ((Says C 20 [(D.agg [D.nil, (D.val (Go.Value.int Go.IntKind.i64 (a))), (D.val (Go.Value.int Go.IntKind.i64 (b))), (D.val (Go.Value.int Go.IntKind.i64 (c))), (D.val (Go.Value.int Go.IntKind.i64 (d))), (D.val (Go.Value.int Go.IntKind.i64 (e)))])] [(D.agg [(D.sl 0 2 []), (D.val (Go.Value.int Go.IntKind.i64 (a))), (D.val (Go.Value.int Go.IntKind.i64 (b))), (D.val (Go.Value.int Go.IntKind.i64 (c))), (D.val (Go.Value.int Go.IntKind.i64 (d))), (D.val (Go.Value.int Go.IntKind.i64 (e)))])]) ∧
 (((((Go.Value.pointer (Option.some (Go.Addr.mk 1008 0 Option.none))) = (Go.Value.pointer (Option.some (Go.Addr.mk 1008 0 Option.none)))) ∧
 ((Option.some (AObj.cells [(Go.Value.int Go.IntKind.i64 (0 : Int)), (Go.Value.int Go.IntKind.i64 (0 : Int))] 44 false 2)) = (Option.some (AObj.cells [(Go.Value.int Go.IntKind.i64 (0 : Int)), (Go.Value.int Go.IntKind.i64 (0 : Int))] 44 false 2)))) ∧
 (((Go.Value.int Go.IntKind.i64 (z)) = (Go.Value.int Go.IntKind.i64 (z))) ∧
 (((Go.Value.pointer (Option.some (Go.Addr.mk 1002 2 Option.none))) = (Go.Value.pointer (Option.some (Go.Addr.mk 1002 2 Option.none)))) ∧
 (((Go.Value.int Go.IntKind.i64 (x)) = (Go.Value.int Go.IntKind.i64 (x))) ∧
 (((Go.Value.pointer (Option.some (Go.Addr.mk 1002 0 Option.none))) = (Go.Value.pointer (Option.some (Go.Addr.mk 1002 0 Option.none)))) ∧
 (((Go.Value.agg [(Go.Value.int Go.IntKind.i64 (v)), (Go.Value.int Go.IntKind.i64 (w))].toArray) = (Go.Value.agg [(Go.Value.int Go.IntKind.i64 (v)), (Go.Value.int Go.IntKind.i64 (w))].toArray)) ∧
 True)))))) ∧
 (∃ n9 : Int,
 (∃ n10 : Int,
 (∃ n11 : Int,
 ((Says C 44 [(D.agg [(D.sl 0 2 []), (D.val (Go.Value.int Go.IntKind.i64 (a))), (D.val (Go.Value.int Go.IntKind.i64 (b))), (D.val (Go.Value.int Go.IntKind.i64 (c))), (D.val (Go.Value.int Go.IntKind.i64 (d))), (D.val (Go.Value.int Go.IntKind.i64 (e)))]), (D.agg [(D.val (Go.Value.int Go.IntKind.i64 (v))), (D.val (Go.Value.int Go.IntKind.i64 (w)))]), (D.val (Go.Value.int Go.IntKind.i64 (x))), (D.val (Go.Value.int Go.IntKind.i64 (z)))] [(D.agg [(D.val (Go.Value.int Go.IntKind.i64 (n9))), (D.val (Go.Value.int Go.IntKind.i64 (n10)))]), (D.val (Go.Value.int Go.IntKind.i64 (n11)))]) ∧
 ((((Go.Value.int Go.IntKind.i64 (n11)) = (Go.Value.int Go.IntKind.i64 (n11))) ∧
 (((Go.Value.agg [(Go.Value.int Go.IntKind.i64 (n9)), (Go.Value.int Go.IntKind.i64 (n10))].toArray) = (Go.Value.agg [(Go.Value.int Go.IntKind.i64 (n9)), (Go.Value.int Go.IntKind.i64 (n10))].toArray)) ∧
 (((Go.Value.tuple [(Go.Value.agg [(Go.Value.int Go.IntKind.i64 (n9)), (Go.Value.int Go.IntKind.i64 (n10))].toArray), (Go.Value.int Go.IntKind.i64 (n11))].toArray) = (Go.Value.tuple [(Go.Value.agg [(Go.Value.int Go.IntKind.i64 (n9)), (Go.Value.int Go.IntKind.i64 (n10))].toArray), (Go.Value.int Go.IntKind.i64 (n11))].toArray)) ∧
 ((((Go.Value.pointer (Option.some (Go.Addr.mk 1008 0 Option.none))) = (Go.Value.pointer (Option.some (Go.Addr.mk 1008 0 Option.none)))) ∧
 ((Option.some (AObj.cells [(Go.Value.int Go.IntKind.i64 (0 : Int)), (Go.Value.int Go.IntKind.i64 (0 : Int))] 44 false 2)) = (Option.some (AObj.cells [(Go.Value.int Go.IntKind.i64 (0 : Int)), (Go.Value.int Go.IntKind.i64 (0 : Int))] 44 false 2)))) ∧
 (((Go.Value.pointer (Option.some (Go.Addr.mk 1002 2 Option.none))) = (Go.Value.pointer (Option.some (Go.Addr.mk 1002 2 Option.none)))) ∧
 (((Go.Value.pointer (Option.some (Go.Addr.mk 1002 0 Option.none))) = (Go.Value.pointer (Option.some (Go.Addr.mk 1002 0 Option.none)))) ∧
 True)))))) ∧
 ((((Go.Value.int Go.IntKind.i64 (n11)) = (Go.Value.int Go.IntKind.i64 (n11))) ∧
 True) ∧
 (True ∧
 (bcase (n11 != 0)
 (k [(D.val (Go.Value.bool false))])
 (bcase (decide (0 ≤ n9))
 (bcase (decide (n9 ≤ 1000000))
 (bcase (decide (0 ≤ n10))
 (bcase (decide (n10 ≤ e))
 (((((Go.Value.pointer (Option.some (Go.Addr.mk 1012 0 Option.none))) = (Go.Value.pointer (Option.some (Go.Addr.mk 1012 0 Option.none)))) ∧
 ((Option.some (AObj.cells [(Go.Value.int Go.IntKind.i64 (0 : Int)), (Go.Value.int Go.IntKind.i64 (0 : Int))] 44 false 2)) = (Option.some (AObj.cells [(Go.Value.int Go.IntKind.i64 (0 : Int)), (Go.Value.int Go.IntKind.i64 (0 : Int))] 44 false 2)))) ∧
 (((Go.Value.int Go.IntKind.i64 (Go.IntKind.wrap Go.IntKind.i64 (y - z))) = (Go.Value.int Go.IntKind.i64 (Go.IntKind.wrap Go.IntKind.i64 (y - z)))) ∧
 (((Go.Value.int Go.IntKind.i64 (z)) = (Go.Value.int Go.IntKind.i64 (z))) ∧
 (((Go.Value.pointer (Option.some (Go.Addr.mk 1002 2 Option.none))) = (Go.Value.pointer (Option.some (Go.Addr.mk 1002 2 Option.none)))) ∧
 (((Go.Value.int Go.IntKind.i64 (y)) = (Go.Value.int Go.IntKind.i64 (y))) ∧
 (((Go.Value.pointer (Option.some (Go.Addr.mk 1002 1 Option.none))) = (Go.Value.pointer (Option.some (Go.Addr.mk 1002 1 Option.none)))) ∧
 (((Go.Value.int Go.IntKind.i64 (x)) = (Go.Value.int Go.IntKind.i64 (x))) ∧
 (((Go.Value.pointer (Option.some (Go.Addr.mk 1002 0 Option.none))) = (Go.Value.pointer (Option.some (Go.Addr.mk 1002 0 Option.none)))) ∧
 (((Go.Value.agg [(Go.Value.int Go.IntKind.i64 (n9)), (Go.Value.int Go.IntKind.i64 (n10))].toArray) = (Go.Value.agg [(Go.Value.int Go.IntKind.i64 (n9)), (Go.Value.int Go.IntKind.i64 (n10))].toArray)) ∧
 (((Go.Value.agg [(Go.Value.slice Option.none 0 0), (Go.Value.int Go.IntKind.i64 (a)), (Go.Value.int Go.IntKind.i64 (b)), (Go.Value.int Go.IntKind.i64 (c)), (Go.Value.int Go.IntKind.i64 (d)), (Go.Value.int Go.IntKind.i64 (e))].toArray) = (Go.Value.agg [(Go.Value.slice Option.none 0 0), (Go.Value.int Go.IntKind.i64 (a)), (Go.Value.int Go.IntKind.i64 (b)), (Go.Value.int Go.IntKind.i64 (c)), (Go.Value.int Go.IntKind.i64 (d)), (Go.Value.int Go.IntKind.i64 (e))].toArray)) ∧
 True)))))))))) ∧
 ((Says C 20 [(D.agg [D.nil, (D.val (Go.Value.int Go.IntKind.i64 (a))), (D.val (Go.Value.int Go.IntKind.i64 (b))), (D.val (Go.Value.int Go.IntKind.i64 (c))), (D.val (Go.Value.int Go.IntKind.i64 (d))), (D.val (Go.Value.int Go.IntKind.i64 (e)))])] [(D.agg [(D.sl 0 2 []), (D.val (Go.Value.int Go.IntKind.i64 (a))), (D.val (Go.Value.int Go.IntKind.i64 (b))), (D.val (Go.Value.int Go.IntKind.i64 (c))), (D.val (Go.Value.int Go.IntKind.i64 (d))), (D.val (Go.Value.int Go.IntKind.i64 (e)))])]) ∧
 (((((Go.Value.pointer (Option.some (Go.Addr.mk 1012 0 Option.none))) = (Go.Value.pointer (Option.some (Go.Addr.mk 1012 0 Option.none)))) ∧
 ((Option.some (AObj.cells [(Go.Value.int Go.IntKind.i64 (0 : Int)), (Go.Value.int Go.IntKind.i64 (0 : Int))] 44 false 2)) = (Option.some (AObj.cells [(Go.Value.int Go.IntKind.i64 (0 : Int)), (Go.Value.int Go.IntKind.i64 (0 : Int))] 44 false 2)))) ∧
 (((Go.Value.int Go.IntKind.i64 (Go.IntKind.wrap Go.IntKind.i64 (y - z))) = (Go.Value.int Go.IntKind.i64 (Go.IntKind.wrap Go.IntKind.i64 (y - z)))) ∧
 (((Go.Value.int Go.IntKind.i64 (z)) = (Go.Value.int Go.IntKind.i64 (z))) ∧
 (((Go.Value.pointer (Option.some (Go.Addr.mk 1002 2 Option.none))) = (Go.Value.pointer (Option.some (Go.Addr.mk 1002 2 Option.none)))) ∧
 (((Go.Value.int Go.IntKind.i64 (y)) = (Go.Value.int Go.IntKind.i64 (y))) ∧
 (((Go.Value.pointer (Option.some (Go.Addr.mk 1002 1 Option.none))) = (Go.Value.pointer (Option.some (Go.Addr.mk 1002 1 Option.none)))) ∧
 (((Go.Value.int Go.IntKind.i64 (x)) = (Go.Value.int Go.IntKind.i64 (x))) ∧
 (((Go.Value.pointer (Option.some (Go.Addr.mk 1002 0 Option.none))) = (Go.Value.pointer (Option.some (Go.Addr.mk 1002 0 Option.none)))) ∧
 (((Go.Value.agg [(Go.Value.int Go.IntKind.i64 (n9)), (Go.Value.int Go.IntKind.i64 (n10))].toArray) = (Go.Value.agg [(Go.Value.int Go.IntKind.i64 (n9)), (Go.Value.int Go.IntKind.i64 (n10))].toArray)) ∧
 True))))))))) ∧
 (∃ n12 : Int,
 (∃ n13 : Int,
 (∃ n14 : Int,
 ((Says C 44 [(D.agg [(D.sl 0 2 []), (D.val (Go.Value.int Go.IntKind.i64 (a))), (D.val (Go.Value.int Go.IntKind.i64 (b))), (D.val (Go.Value.int Go.IntKind.i64 (c))), (D.val (Go.Value.int Go.IntKind.i64 (d))), (D.val (Go.Value.int Go.IntKind.i64 (e)))]), (D.agg [(D.val (Go.Value.int Go.IntKind.i64 (n9))), (D.val (Go.Value.int Go.IntKind.i64 (n10)))]), (D.val (Go.Value.int Go.IntKind.i64 (x))), (D.val (Go.Value.int Go.IntKind.i64 (Go.IntKind.wrap Go.IntKind.i64 (y - z))))] [(D.agg [(D.val (Go.Value.int Go.IntKind.i64 (n12))), (D.val (Go.Value.int Go.IntKind.i64 (n13)))]), (D.val (Go.Value.int Go.IntKind.i64 (n14)))]) ∧
 ((((Go.Value.int Go.IntKind.i64 (n14)) = (Go.Value.int Go.IntKind.i64 (n14))) ∧
 (((Go.Value.agg [(Go.Value.int Go.IntKind.i64 (n12)), (Go.Value.int Go.IntKind.i64 (n13))].toArray) = (Go.Value.agg [(Go.Value.int Go.IntKind.i64 (n12)), (Go.Value.int Go.IntKind.i64 (n13))].toArray)) ∧
 (((Go.Value.tuple [(Go.Value.agg [(Go.Value.int Go.IntKind.i64 (n12)), (Go.Value.int Go.IntKind.i64 (n13))].toArray), (Go.Value.int Go.IntKind.i64 (n14))].toArray) = (Go.Value.tuple [(Go.Value.agg [(Go.Value.int Go.IntKind.i64 (n12)), (Go.Value.int Go.IntKind.i64 (n13))].toArray), (Go.Value.int Go.IntKind.i64 (n14))].toArray)) ∧
 ((((Go.Value.pointer (Option.some (Go.Addr.mk 1012 0 Option.none))) = (Go.Value.pointer (Option.some (Go.Addr.mk 1012 0 Option.none)))) ∧
 ((Option.some (AObj.cells [(Go.Value.int Go.IntKind.i64 (0 : Int)), (Go.Value.int Go.IntKind.i64 (0 : Int))] 44 false 2)) = (Option.some (AObj.cells [(Go.Value.int Go.IntKind.i64 (0 : Int)), (Go.Value.int Go.IntKind.i64 (0 : Int))] 44 false 2)))) ∧
 (((Go.Value.int Go.IntKind.i64 (z)) = (Go.Value.int Go.IntKind.i64 (z))) ∧
 (((Go.Value.pointer (Option.some (Go.Addr.mk 1002 2 Option.none))) = (Go.Value.pointer (Option.some (Go.Addr.mk 1002 2 Option.none)))) ∧
 (((Go.Value.int Go.IntKind.i64 (y)) = (Go.Value.int Go.IntKind.i64 (y))) ∧
 (((Go.Value.pointer (Option.some (Go.Addr.mk 1002 1 Option.none))) = (Go.Value.pointer (Option.some (Go.Addr.mk 1002 1 Option.none)))) ∧
 (((Go.Value.pointer (Option.some (Go.Addr.mk 1002 0 Option.none))) = (Go.Value.pointer (Option.some (Go.Addr.mk 1002 0 Option.none)))) ∧
 True))))))))) ∧
 ((((Go.Value.int Go.IntKind.i64 (n14)) = (Go.Value.int Go.IntKind.i64 (n14))) ∧
 True) ∧
 (True ∧
 (bcase (n14 == 0)
 (bcase (n13 == n2)
 (bcase (decide ((if x < w then x else w) ≤ n2))
 (bcase (decide (n2 ≤ if x > w then x else w))
 (k [(D.val (Go.Value.bool true))])
 (k [(D.val (Go.Value.bool false))]))
 (k [(D.val (Go.Value.bool false))]))
 (k [(D.val (Go.Value.bool false))]))
 (k [(D.val (Go.Value.bool false))]))))))))))))
 (k [(D.val (Go.Value.bool false))]))
 (k [(D.val (Go.Value.bool false))]))
 (k [(D.val (Go.Value.bool false))]))
 (k [(D.val (Go.Value.bool false))]))))))))))))))
 (k [(D.val (Go.Value.bool true))]))
 (k [(D.val (Go.Value.bool true))]))))))))))))))))))))))))) ∨
 ((Says C 9 [] [(D.val (Go.Value.bool false))]) ∧
 (k [(D.val (Go.Value.bool false))]))) := by kernel_rfl
def g5 (C : Ct) (L : AtLoop) (n cap : Nat) (l : List Value) (a b c d e x y z u : Int) (k : List D → Prop) : Prop := wpFn Try.prog (hM C) L 0 5 #[vR (S500 n cap) a b c d e, vP x y, .agg #[vI z, vI u]] (heapOf [T500 l]) (dataK k)
theorem g5_text (C : Ct) (L : AtLoop) (n : Nat) (cap : Nat) (l : List Go.Value) (a : Int) (b : Int) (c : Int) (d : Int) (e : Int) (x : Int) (y : Int) (z : Int) (u : Int) (k : List D → Prop) : g5 C L n cap l a b c d e x y z u k =
 (((Says C 9 [] [(D.val (Go.Value.bool true))]) ∧
 (bcase (decide ((↑n : Int) ≤ 14))
 (bcase (decide (0 + n * 2 ≤ List.length l))
 (∃ n1 : Int,
 (∃ n2 : Int,
 ((Says C 23 [(D.agg [(D.sl (n) 2 (List.take (n * 2) (List.drop 0 l))), (D.val (Go.Value.int Go.IntKind.i64 (a))), (D.val (Go.Value.int Go.IntKind.i64 (b))), (D.val (Go.Value.int Go.IntKind.i64 (c))), (D.val (Go.Value.int Go.IntKind.i64 (d))), (D.val (Go.Value.int Go.IntKind.i64 (e)))])] [(D.val (Go.Value.int Go.IntKind.i64 (n1))), (D.val (Go.Value.int Go.IntKind.i64 (n2)))]) ∧
 (bcase (n2 != 0)
 (k [(D.val (Go.Value.bool true))])
 (bcase (decide (0 ≤ x))
 (bcase (decide (x ≤ 20000))
 (bcase (decide (0 ≤ y))
 (bcase (decide (y ≤ 20000))
 (bcase (decide (x > y))
 (k [(D.val (Go.Value.bool true))])
 (((((Go.Value.pointer (Option.some (Go.Addr.mk 1005 0 Option.none))) = (Go.Value.pointer (Option.some (Go.Addr.mk 1005 0 Option.none)))) ∧
 ((Option.some (AObj.cells [(Go.Value.int Go.IntKind.i64 (0 : Int)), (Go.Value.int Go.IntKind.i64 (0 : Int))] 24 false 2)) = (Option.some (AObj.cells [(Go.Value.int Go.IntKind.i64 (0 : Int)), (Go.Value.int Go.IntKind.i64 (0 : Int))] 24 false 2)))) ∧
 (((Go.Value.agg [(Go.Value.int Go.IntKind.i64 (x)), (Go.Value.int Go.IntKind.i64 (y))].toArray) = (Go.Value.agg [(Go.Value.int Go.IntKind.i64 (x)), (Go.Value.int Go.IntKind.i64 (y))].toArray)) ∧
 (((Go.Value.slice (Option.some (Go.Addr.mk 500 0 Option.none)) (n) (cap)) = (Go.Value.slice (Option.some (Go.Addr.mk 500 0 Option.none)) (n) (cap))) ∧
 (((Go.Value.pointer (Option.some (Go.Addr.mk 1000 0 Option.none))) = (Go.Value.pointer (Option.some (Go.Addr.mk 1000 0 Option.none)))) ∧
 True)))) ∧
 (bcase (decide (0 + n * 2 ≤ List.length l))
 ((Says C 11 [(D.sl (n) 2 (List.take (n * 2) (List.drop 0 l)))] [(D.sl (n) 2 (List.take (n * 2) (List.drop 0 l)))]) ∧
 (((((Go.Value.pointer (Option.some (Go.Addr.mk 1005 0 Option.none))) = (Go.Value.pointer (Option.some (Go.Addr.mk 1005 0 Option.none)))) ∧
 ((Option.some (AObj.cells [(Go.Value.int Go.IntKind.i64 (0 : Int)), (Go.Value.int Go.IntKind.i64 (0 : Int))] 24 false 2)) = (Option.some (AObj.cells [(Go.Value.int Go.IntKind.i64 (0 : Int)), (Go.Value.int Go.IntKind.i64 (0 : Int))] 24 false 2)))) ∧
 (((Go.Value.agg [(Go.Value.int Go.IntKind.i64 (x)), (Go.Value.int Go.IntKind.i64 (y))].toArray) = (Go.Value.agg [(Go.Value.int Go.IntKind.i64 (x)), (Go.Value.int Go.IntKind.i64 (y))].toArray)) ∧
 (((Go.Value.pointer (Option.some (Go.Addr.mk 1000 0 Option.none))) = (Go.Value.pointer (Option.some (Go.Addr.mk 1000 0 Option.none)))) ∧
 True))) ∧
 (bcase (decide (0 + n * 2 ≤ List.length (List.take (n * 2) (List.drop 0 l))))
 (∃ n3 : Int,
 (∃ n4 : Int,
 (∃ n5 : Int,
 ((Says C 13 [(D.sl (n) 2 (List.take (n * 2) (List.drop 0 (List.take (n * 2) (List.drop 0 l))))), (D.agg [(D.val (Go.Value.int Go.IntKind.i64 (x))), (D.val (Go.Value.int Go.IntKind.i64 (y)))])] [(D.agg [(D.val (Go.Value.int Go.IntKind.i64 (n3))), (D.val (Go.Value.int Go.IntKind.i64 (n4)))]), (D.val (Go.Value.int Go.IntKind.i64 (n5)))]) ∧
 ((((Go.Value.int Go.IntKind.i64 (n5)) = (Go.Value.int Go.IntKind.i64 (n5))) ∧
 (((Go.Value.agg [(Go.Value.int Go.IntKind.i64 (n3)), (Go.Value.int Go.IntKind.i64 (n4))].toArray) = (Go.Value.agg [(Go.Value.int Go.IntKind.i64 (n3)), (Go.Value.int Go.IntKind.i64 (n4))].toArray)) ∧
 (((Go.Value.tuple [(Go.Value.agg [(Go.Value.int Go.IntKind.i64 (n3)), (Go.Value.int Go.IntKind.i64 (n4))].toArray), (Go.Value.int Go.IntKind.i64 (n5))].toArray) = (Go.Value.tuple [(Go.Value.agg [(Go.Value.int Go.IntKind.i64 (n3)), (Go.Value.int Go.IntKind.i64 (n4))].toArray), (Go.Value.int Go.IntKind.i64 (n5))].toArray)) ∧
 ((((Go.Value.pointer (Option.some (Go.Addr.mk 1005 0 Option.none))) = (Go.Value.pointer (Option.some (Go.Addr.mk 1005 0 Option.none)))) ∧
 ((Option.some (AObj.cells [(Go.Value.int Go.IntKind.i64 (0 : Int)), (Go.Value.int Go.IntKind.i64 (0 : Int))] 24 false 2)) = (Option.some (AObj.cells [(Go.Value.int Go.IntKind.i64 (0 : Int)), (Go.Value.int Go.IntKind.i64 (0 : Int))] 24 false 2)))) ∧
 (((Go.Value.pointer (Option.some (Go.Addr.mk 1000 0 Option.none))) = (Go.Value.pointer (Option.some (Go.Addr.mk 1000 0 Option.none)))) ∧
 True))))) ∧
 ((((Go.Value.int Go.IntKind.i64 (n5)) = (Go.Value.int Go.IntKind.i64 (n5))) ∧
 True) ∧
 (True ∧
 ((((Go.Value.int Go.IntKind.i64 (Go.IntKind.wrap Go.IntKind.i64 (Go.IntKind.wrap Go.IntKind.i64 (y - x) + 1))) = (Go.Value.int Go.IntKind.i64 (Go.IntKind.wrap Go.IntKind.i64 (Go.IntKind.wrap Go.IntKind.i64 (y - x) + 1)))) ∧
 (((Go.Value.int Go.IntKind.i64 (Go.IntKind.wrap Go.IntKind.i64 (y - x))) = (Go.Value.int Go.IntKind.i64 (Go.IntKind.wrap Go.IntKind.i64 (y - x)))) ∧
 (((Go.Value.int Go.IntKind.i64 (x)) = (Go.Value.int Go.IntKind.i64 (x))) ∧
 (((Go.Value.pointer (Option.some (Go.Addr.mk 1001 0 Option.none))) = (Go.Value.pointer (Option.some (Go.Addr.mk 1001 0 Option.none)))) ∧
 (((Go.Value.int Go.IntKind.i64 (y)) = (Go.Value.int Go.IntKind.i64 (y))) ∧
 (((Go.Value.pointer (Option.some (Go.Addr.mk 1001 1 Option.none))) = (Go.Value.pointer (Option.some (Go.Addr.mk 1001 1 Option.none)))) ∧
 (((Go.Value.int Go.IntKind.i64 (z)) = (Go.Value.int Go.IntKind.i64 (z))) ∧
 (((Go.Value.pointer (Option.some (Go.Addr.mk 1002 0 Option.none))) = (Go.Value.pointer (Option.some (Go.Addr.mk 1002 0 Option.none)))) ∧
 (((Go.Value.int Go.IntKind.i64 (x)) = (Go.Value.int Go.IntKind.i64 (x))) ∧
 (((Go.Value.pointer (Option.some (Go.Addr.mk 1001 0 Option.none))) = (Go.Value.pointer (Option.some (Go.Addr.mk 1001 0 Option.none)))) ∧
 True)))))))))) ∧
 (bcase (Go.IntKind.wrap Go.IntKind.i64 (Go.IntKind.wrap Go.IntKind.i64 (y - x) + 1) != 0)
 (bcase (decide (Int.tmod z (Go.IntKind.wrap Go.IntKind.i64 (Go.IntKind.wrap Go.IntKind.i64 (y - x) + 1)) < 0))
 ((((Go.Value.int Go.IntKind.i64 (Go.IntKind.wrap Go.IntKind.i64 (x + Go.IntKind.wrap Go.IntKind.i64 (Int.tmod z (Go.IntKind.wrap Go.IntKind.i64 (Go.IntKind.wrap Go.IntKind.i64 (y - x) + 1)) + Go.IntKind.wrap Go.IntKind.i64 (Go.IntKind.wrap Go.IntKind.i64 (y - x) + 1))))) = (Go.Value.int Go.IntKind.i64 (Go.IntKind.wrap Go.IntKind.i64 (x + Go.IntKind.wrap Go.IntKind.i64 (Int.tmod z (Go.IntKind.wrap Go.IntKind.i64 (Go.IntKind.wrap Go.IntKind.i64 (y - x) + 1)) + Go.IntKind.wrap Go.IntKind.i64 (Go.IntKind.wrap Go.IntKind.i64 (y - x) + 1)))))) ∧
 (((Go.Value.int Go.IntKind.i64 (Go.IntKind.wrap Go.IntKind.i64 (y - x))) = (Go.Value.int Go.IntKind.i64 (Go.IntKind.wrap Go.IntKind.i64 (y - x)))) ∧
 (((Go.Value.int Go.IntKind.i64 (x)) = (Go.Value.int Go.IntKind.i64 (x))) ∧
 (((Go.Value.pointer (Option.some (Go.Addr.mk 1001 0 Option.none))) = (Go.Value.pointer (Option.some (Go.Addr.mk 1001 0 Option.none)))) ∧
 (((Go.Value.int Go.IntKind.i64 (y)) = (Go.Value.int Go.IntKind.i64 (y))) ∧
 (((Go.Value.pointer (Option.some (Go.Addr.mk 1001 1 Option.none))) = (Go.Value.pointer (Option.some (Go.Addr.mk 1001 1 Option.none)))) ∧
 (((Go.Value.pointer (Option.some (Go.Addr.mk 1002 0 Option.none))) = (Go.Value.pointer (Option.some (Go.Addr.mk 1002 0 Option.none)))) ∧
 (((Go.Value.int Go.IntKind.i64 (x)) = (Go.Value.int Go.IntKind.i64 (x))) ∧
 (((Go.Value.pointer (Option.some (Go.Addr.mk 1001 0 Option.none))) = (Go.Value.pointer (Option.some (Go.Addr.mk 1001 0 Option.none)))) ∧
 True))))))))) ∧
 (True ∧
 (bcase (decide (0 + n * 2 ≤ List.length l))
 ((Says C 11 [(D.sl (n) 2 (List.take (n * 2) (List.drop 0 l)))] [(D.sl (n) 2 (List.take (n * 2) (List.drop 0 l)))]) ∧
 (bcase (decide (0 + n * 2 ≤ List.length (List.take (n * 2) (List.drop 0 l))))
 (∃ n6 : Int,
 (∃ n7 : Int,
 ((Says C 12 [(D.sl (n) 2 (List.take (n * 2) (List.drop 0 (List.take (n * 2) (List.drop 0 l))))), (D.val (Go.Value.int Go.IntKind.i64 (Go.IntKind.wrap Go.IntKind.i64 (x + Go.IntKind.wrap Go.IntKind.i64 (Int.tmod z (Go.IntKind.wrap Go.IntKind.i64 (Go.IntKind.wrap Go.IntKind.i64 (y - x) + 1)) + Go.IntKind.wrap Go.IntKind.i64 (Go.IntKind.wrap Go.IntKind.i64 (y - x) + 1))))))] [(D.val (Go.Value.int Go.IntKind.i64 (n6))), (D.val (Go.Value.int Go.IntKind.i64 (n7)))]) ∧
 (bcase (decide (0 + n * 2 ≤ List.length l))
 ((Says C 11 [(D.sl (n) 2 (List.take (n * 2) (List.drop 0 l)))] [(D.sl (n) 2 (List.take (n * 2) (List.drop 0 l)))]) ∧
 (bcase (decide (0 + n * 2 ≤ List.length (List.take (n * 2) (List.drop 0 l))))
 (∃ n8 : Int,
 (∃ n9 : Int,
 (∃ n10 : Int,
 ((Says C 13 [(D.sl (n) 2 (List.take (n * 2) (List.drop 0 (List.take (n * 2) (List.drop 0 l))))), (D.agg [(D.val (Go.Value.int Go.IntKind.i64 (0 : Int))), (D.val (Go.Value.int Go.IntKind.i64 (20000 : Int)))])] [(D.agg [(D.val (Go.Value.int Go.IntKind.i64 (n8))), (D.val (Go.Value.int Go.IntKind.i64 (n9)))]), (D.val (Go.Value.int Go.IntKind.i64 (n10)))]) ∧
 (bcase (n5 != 0)
 (k [(D.val (Go.Value.bool false))])
 (bcase (n7 != 0)
 (k [(D.val (Go.Value.bool false))])
 (bcase (n10 != 0)
 (k [(D.val (Go.Value.bool false))])
 (bcase (decide (n3 ≤ n6))
 (bcase (decide (n6 ≤ n4))
 (bcase (decide (n8 ≤ n3))
 (bcase (decide (n3 ≤ n4))
 (bcase (decide (n3 ≤ n4))
 (bcase (decide (n4 ≤ n9))
 (bcase (Go.IntKind.wrap Go.IntKind.i64 (e + 1) != 0)
 (bcase (decide (Int.tmod u (Go.IntKind.wrap Go.IntKind.i64 (e + 1)) < 0))
 (bcase (Go.IntKind.wrap Go.IntKind.i64 (Int.tmod u (Go.IntKind.wrap Go.IntKind.i64 (e + 1)) + Go.IntKind.wrap Go.IntKind.i64 (e + 1)) == e)
 (k [(D.val (Go.Value.bool true))])
 (bcase (decide (0 + n * 2 ≤ List.length l))
 ((Says C 20 [(D.agg [(D.sl (n) 2 (List.take (n * 2) (List.drop 0 l))), (D.val (Go.Value.int Go.IntKind.i64 (a))), (D.val (Go.Value.int Go.IntKind.i64 (b))), (D.val (Go.Value.int Go.IntKind.i64 (c))), (D.val (Go.Value.int Go.IntKind.i64 (d))), (D.val (Go.Value.int Go.IntKind.i64 (e)))])] [(D.agg [(D.sl (n) 2 (List.take (n * 2) (List.drop 0 l))), (D.val (Go.Value.int Go.IntKind.i64 (a))), (D.val (Go.Value.int Go.IntKind.i64 (b))), (D.val (Go.Value.int Go.IntKind.i64 (c))), (D.val (Go.Value.int Go.IntKind.i64 (d))), (D.val (Go.Value.int Go.IntKind.i64 (e)))])]) ∧
 (bcase (decide (0 + n * 2 ≤ List.length (List.take (n * 2) (List.drop 0 l))))
 (∃ n11 : Int,
 (∃ n12 : Int,
 (∃ n13 : Int,
 ((Says C 22 [(D.agg [(D.sl (n) 2 (List.take (n * 2) (List.drop 0 (List.take (n * 2) (List.drop 0 l))))), (D.val (Go.Value.int Go.IntKind.i64 (a))), (D.val (Go.Value.int Go.IntKind.i64 (b))), (D.val (Go.Value.int Go.IntKind.i64 (c))), (D.val (Go.Value.int Go.IntKind.i64 (d))), (D.val (Go.Value.int Go.IntKind.i64 (e)))]), (D.agg [(D.val (Go.Value.int Go.IntKind.i64 (0 : Int))), (D.val (Go.Value.int Go.IntKind.i64 (Go.IntKind.wrap Go.IntKind.i64 (Int.tmod u (Go.IntKind.wrap Go.IntKind.i64 (e + 1)) + Go.IntKind.wrap Go.IntKind.i64 (e + 1)))))]), (D.val (Go.Value.int Go.IntKind.i64 (Go.IntKind.wrap Go.IntKind.i64 (x + Go.IntKind.wrap Go.IntKind.i64 (Int.tmod z (Go.IntKind.wrap Go.IntKind.i64 (Go.IntKind.wrap Go.IntKind.i64 (y - x) + 1)) + Go.IntKind.wrap Go.IntKind.i64 (Go.IntKind.wrap Go.IntKind.i64 (y - x) + 1))))))] [(D.agg [(D.val (Go.Value.int Go.IntKind.i64 (n11))), (D.val (Go.Value.int Go.IntKind.i64 (n12)))]), (D.val (Go.Value.int Go.IntKind.i64 (n13)))]) ∧
 (bcase (decide (0 + n * 2 ≤ List.length l))
 ((Says C 20 [(D.agg [(D.sl (n) 2 (List.take (n * 2) (List.drop 0 l))), (D.val (Go.Value.int Go.IntKind.i64 (a))), (D.val (Go.Value.int Go.IntKind.i64 (b))), (D.val (Go.Value.int Go.IntKind.i64 (c))), (D.val (Go.Value.int Go.IntKind.i64 (d))), (D.val (Go.Value.int Go.IntKind.i64 (e)))])] [(D.agg [(D.sl (n) 2 (List.take (n * 2) (List.drop 0 l))), (D.val (Go.Value.int Go.IntKind.i64 (a))), (D.val (Go.Value.int Go.IntKind.i64 (b))), (D.val (Go.Value.int Go.IntKind.i64 (c))), (D.val (Go.Value.int Go.IntKind.i64 (d))), (D.val (Go.Value.int Go.IntKind.i64 (e)))])]) ∧
 (bcase (decide (0 + n * 2 ≤ List.length (List.take (n * 2) (List.drop 0 l))))
 (∃ n14 : Int,
 (∃ n15 : Int,
 (∃ n16 : Int,
 ((Says C 22 [(D.agg [(D.sl (n) 2 (List.take (n * 2) (List.drop 0 (List.take (n * 2) (List.drop 0 l))))), (D.val (Go.Value.int Go.IntKind.i64 (a))), (D.val (Go.Value.int Go.IntKind.i64 (b))), (D.val (Go.Value.int Go.IntKind.i64 (c))), (D.val (Go.Value.int Go.IntKind.i64 (d))), (D.val (Go.Value.int Go.IntKind.i64 (e)))]), (D.agg [(D.val (Go.Value.int Go.IntKind.i64 (0 : Int))), (D.val (Go.Value.int Go.IntKind.i64 (Go.IntKind.wrap Go.IntKind.i64 (Go.IntKind.wrap Go.IntKind.i64 (Int.tmod u (Go.IntKind.wrap Go.IntKind.i64 (e + 1)) + Go.IntKind.wrap Go.IntKind.i64 (e + 1)) + 1))))]), (D.val (Go.Value.int Go.IntKind.i64 (Go.IntKind.wrap Go.IntKind.i64 (x + Go.IntKind.wrap Go.IntKind.i64 (Int.tmod z (Go.IntKind.wrap Go.IntKind.i64 (Go.IntKind.wrap Go.IntKind.i64 (y - x) + 1)) + Go.IntKind.wrap Go.IntKind.i64 (Go.IntKind.wrap Go.IntKind.i64 (y - x) + 1))))))] [(D.agg [(D.val (Go.Value.int Go.IntKind.i64 (n14))), (D.val (Go.Value.int Go.IntKind.i64 (n15)))]), (D.val (Go.Value.int Go.IntKind.i64 (n16)))]) ∧
 (bcase (n13 != 0)
 (bcase (n13 == 0)
 (bcase (n16 == 0)
 (k [(D.val (Go.Value.bool true))])
 (bcase (n16 == 8)
 (bcase (if Bool.false = Bool.true then !(n14 == 0 && (n15 == 0 && Bool.true)) else n14 == 0 && (n15 == 0 && Bool.true))
 (k [(D.val (Go.Value.bool true))])
 (k [(D.val (Go.Value.bool false))]))
 (k [(D.val (Go.Value.bool false))])))
 (bcase (n13 == 8)
 (bcase (if Bool.false = Bool.true then !(n11 == 0 && (n12 == 0 && Bool.true)) else n11 == 0 && (n12 == 0 && Bool.true))
 (bcase (n16 == 0)
 (k [(D.val (Go.Value.bool true))])
 (bcase (n16 == 8)
 (bcase (if Bool.false = Bool.true then !(n14 == 0 && (n15 == 0 && Bool.true)) else n14 == 0 && (n15 == 0 && Bool.true))
 (k [(D.val (Go.Value.bool true))])
 (k [(D.val (Go.Value.bool false))]))
 (k [(D.val (Go.Value.bool false))])))
 (k [(D.val (Go.Value.bool false))]))
 (k [(D.val (Go.Value.bool false))])))
 (bcase (n16 != 0)
 (bcase (n13 == 0)
 (bcase (n16 == 0)
 (k [(D.val (Go.Value.bool true))])
 (bcase (n16 == 8)
 (bcase (if Bool.false = Bool.true then !(n14 == 0 && (n15 == 0 && Bool.true)) else n14 == 0 && (n15 == 0 && Bool.true))
 (k [(D.val (Go.Value.bool true))])
 (k [(D.val (Go.Value.bool false))]))
 (k [(D.val (Go.Value.bool false))])))
 (bcase (n13 == 8)
 (bcase (if Bool.false = Bool.true then !(n11 == 0 && (n12 == 0 && Bool.true)) else n11 == 0 && (n12 == 0 && Bool.true))
 (bcase (n16 == 0)
 (k [(D.val (Go.Value.bool true))])
 (bcase (n16 == 8)
 (bcase (if Bool.false = Bool.true then !(n14 == 0 && (n15 == 0 && Bool.true)) else n14 == 0 && (n15 == 0 && Bool.true))
 (k [(D.val (Go.Value.bool true))])
 (k [(D.val (Go.Value.bool false))]))
 (k [(D.val (Go.Value.bool false))])))
 (k [(D.val (Go.Value.bool false))]))
 (k [(D.val (Go.Value.bool false))])))
 (((Says C 30 [(D.agg [(D.val (Go.Value.int Go.IntKind.i64 (n11))), (D.val (Go.Value.int Go.IntKind.i64 (n12)))])] [(D.val (Go.Value.bool true))]) ∧
 (((Says C 31 [(D.agg [(D.val (Go.Value.int Go.IntKind.i64 (n11))), (D.val (Go.Value.int Go.IntKind.i64 (n12)))])] [(D.val (Go.Value.bool true))]) ∧
 (((Says C 30 [(D.agg [(D.val (Go.Value.int Go.IntKind.i64 (n14))), (D.val (Go.Value.int Go.IntKind.i64 (n15)))])] [(D.val (Go.Value.bool true))]) ∧
 (((Says C 31 [(D.agg [(D.val (Go.Value.int Go.IntKind.i64 (n14))), (D.val (Go.Value.int Go.IntKind.i64 (n15)))])] [(D.val (Go.Value.bool true))]) ∧
 (∃ n17 : Int,
 ((Says C 32 [(D.agg [(D.val (Go.Value.int Go.IntKind.i64 (n11))), (D.val (Go.Value.int Go.IntKind.i64 (n12)))]), (D.agg [(D.val (Go.Value.int Go.IntKind.i64 (n14))), (D.val (Go.Value.int Go.IntKind.i64 (n15)))])] [(D.val (Go.Value.int Go.IntKind.i64 (n17)))]) ∧
 (bcase (decide (n17 < 0))
 (k [(D.val (Go.Value.bool true))])
 (k [(D.val (Go.Value.bool false))]))))) ∨
 ((Says C 31 [(D.agg [(D.val (Go.Value.int Go.IntKind.i64 (n14))), (D.val (Go.Value.int Go.IntKind.i64 (n15)))])] [(D.val (Go.Value.bool false))]) ∧
 (k [(D.val (Go.Value.bool false))])))) ∨
 ((Says C 30 [(D.agg [(D.val (Go.Value.int Go.IntKind.i64 (n14))), (D.val (Go.Value.int Go.IntKind.i64 (n15)))])] [(D.val (Go.Value.bool false))]) ∧
 (k [(D.val (Go.Value.bool false))])))) ∨
 ((Says C 31 [(D.agg [(D.val (Go.Value.int Go.IntKind.i64 (n11))), (D.val (Go.Value.int Go.IntKind.i64 (n12)))])] [(D.val (Go.Value.bool false))]) ∧
 (k [(D.val (Go.Value.bool false))])))) ∨
 ((Says C 30 [(D.agg [(D.val (Go.Value.int Go.IntKind.i64 (n11))), (D.val (Go.Value.int Go.IntKind.i64 (n12)))])] [(D.val (Go.Value.bool false))]) ∧
 (k [(D.val (Go.Value.bool false))])))))))))
 False))
 False)))))
 False))
 False))
 (bcase (Int.tmod u (Go.IntKind.wrap Go.IntKind.i64 (e + 1)) == e)
 (k [(D.val (Go.Value.bool true))])
 (bcase (decide (0 + n * 2 ≤ List.length l))
 ((Says C 20 [(D.agg [(D.sl (n) 2 (List.take (n * 2) (List.drop 0 l))), (D.val (Go.Value.int Go.IntKind.i64 (a))), (D.val (Go.Value.int Go.IntKind.i64 (b))), (D.val (Go.Value.int Go.IntKind.i64 (c))), (D.val (Go.Value.int Go.IntKind.i64 (d))), (D.val (Go.Value.int Go.IntKind.i64 (e)))])] [(D.agg [(D.sl (n) 2 (List.take (n * 2) (List.drop 0 l))), (D.val (Go.Value.int Go.IntKind.i64 (a))), (D.val (Go.Value.int Go.IntKind.i64 (b))), (D.val (Go.Value.int Go.IntKind.i64 (c))), (D.val (Go.Value.int Go.IntKind.i64 (d))), (D.val (Go.Value.int Go.IntKind.i64 (e)))])]) ∧
 (bcase (decide (0 + n * 2 ≤ List.length (List.take (n * 2) (List.drop 0 l))))
 (∃ n11 : Int,
 (∃ n12 : Int,
 (∃ n13 : Int,
 ((Says C 22 [(D.agg [(D.sl (n) 2 (List.take (n * 2) (List.drop 0 (List.take (n * 2) (List.drop 0 l))))), (D.val (Go.Value.int Go.IntKind.i64 (a))), (D.val (Go.Value.int Go.IntKind.i64 (b))), (D.val (Go.Value.int Go.IntKind.i64 (c))), (D.val (Go.Value.int Go.IntKind.i64 (d))), (D.val (Go.Value.int Go.IntKind.i64 (e)))]), (D.agg [(D.val (Go.Value.int Go.IntKind.i64 (0 : Int))), (D.val (Go.Value.int Go.IntKind.i64 (Int.tmod u (Go.IntKind.wrap Go.IntKind.i64 (e + 1)))))]), (D.val (Go.Value.int Go.IntKind.i64 (Go.IntKind.wrap Go.IntKind.i64 (x + Go.IntKind.wrap Go.IntKind.i64 (Int.tmod z (Go.IntKind.wrap Go.IntKind.i64 (Go.IntKind.wrap Go.IntKind.i64 (y - x) + 1)) + Go.IntKind.wrap Go.IntKind.i64 (Go.IntKind.wrap Go.IntKind.i64 (y - x) + 1))))))] [(D.agg [(D.val (Go.Value.int Go.IntKind.i64 (n11))), (D.val (Go.Value.int Go.IntKind.i64 (n12)))]), (D.val (Go.Value.int Go.IntKind.i64 (n13)))]) ∧
 (bcase (decide (0 + n * 2 ≤ List.length l))
 ((Says C 20 [(D.agg [(D.sl (n) 2 (List.take (n * 2) (List.drop 0 l))), (D.val (Go.Value.int Go.IntKind.i64 (a))), (D.val (Go.Value.int Go.IntKind.i64 (b))), (D.val (Go.Value.int Go.IntKind.i64 (c))), (D.val (Go.Value.int Go.IntKind.i64 (d))), (D.val (Go.Value.int Go.IntKind.i64 (e)))])] [(D.agg [(D.sl (n) 2 (List.take (n * 2) (List.drop 0 l))), (D.val (Go.Value.int Go.IntKind.i64 (a))), (D.val (Go.Value.int Go.IntKind.i64 (b))), (D.val (Go.Value.int Go.IntKind.i64 (c))), (D.val (Go.Value.int Go.IntKind.i64 (d))), (D.val (Go.Value.int Go.IntKind.i64 (e)))])]) ∧
 (bcase (decide (0 + n * 2 ≤ List.length (List.take (n * 2) (List.drop 0 l))))
 (∃ n14 : Int,
 (∃ n15 : Int,
 (∃ n16 : Int,
 ((Says C 22 [(D.agg [(D.sl (n) 2 (List.take (n * 2) (List.drop 0 (List.take (n * 2) (List.drop 0 l))))), (D.val (Go.Value.int Go.IntKind.i64 (a))), (D.val (Go.Value.int Go.IntKind.i64 (b))), (D.val (Go.Value.int Go.IntKind.i64 (c))), (D.val (Go.Value.int Go.IntKind.i64 (d))), (D.val (Go.Value.int Go.IntKind.i64 (e)))]), (D.agg [(D.val (Go.Value.int Go.IntKind.i64 (0 : Int))), (D.val (Go.Value.int Go.IntKind.i64 (Go.IntKind.wrap Go.IntKind.i64 (Int.tmod u (Go.IntKind.wrap Go.IntKind.i64 (e + 1)) + 1))))]), (D.val (Go.Value.int Go.IntKind.i64 (Go.IntKind.wrap Go.IntKind.i64 (x + Go.IntKind.wrap Go.IntKind.i64 (Int.tmod z (Go.IntKind.wrap Go.IntKind.i64 (Go.IntKind.wrap Go.IntKind.i64 (y - x) + 1)) + Go.IntKind.wrap Go.IntKind.i64 (Go.IntKind.wrap Go.IntKind.i64 (y - x) + 1))))))] [(D.agg [(D.val (Go.Value.int Go.IntKind.i64 (n14))), (D.val (Go.Value.int Go.IntKind.i64 (n15)))]), (D.val (Go.Value.int Go.IntKind.i64 (n16)))]) ∧
 (bcase (n13 != 0)
 (bcase (n13 == 0)
 (bcase (n16 == 0)
 (k [(D.val (Go.Value.bool true))])
 (bcase (n16 == 8)
 (bcase (if Bool.false = Bool.true then !(n14 == 0 && (n15 == 0 && Bool.true)) else n14 == 0 && (n15 == 0 && Bool.true))
 (k [(D.val (Go.Value.bool true))])
 (k [(D.val (Go.Value.bool false))]))
 (k [(D.val (Go.Value.bool false))])))
 (bcase (n13 == 8)
 (bcase (if Bool.false = Bool.true then !(n11 == 0 && (n12 == 0 && Bool.true)) else n11 == 0 && (n12 == 0 && Bool.true))
 (bcase (n16 == 0)
 (k [(D.val (Go.Value.bool true))])
 (bcase (n16 == 8)
 (bcase (if Bool.false = Bool.true then !(n14 == 0 && (n15 == 0 && Bool.true)) else n14 == 0 && (n15 == 0 && Bool.true))
 (k [(D.val (Go.Value.bool true))])
 (k [(D.val (Go.Value.bool false))]))
 (k [(D.val (Go.Value.bool false))])))
 (k [(D.val (Go.Value.bool false))]))
 (k [(D.val (Go.Value.bool false))])))
 (bcase (n16 != 0)
 (bcase (n13 == 0)
 (bcase (n16 == 0)
 (k [(D.val (Go.Value.bool true))])
 (bcase (n16 == 8)
 (bcase (if Bool.false = Bool.true then !(n14 == 0 && (n15 == 0 && Bool.true)) else n14 == 0 && (n15 == 0 && Bool.true))
 (k [(D.val (Go.Value.bool true))])
 (k [(D.val (Go.Value.bool false))]))
 (k [(D.val (Go.Value.bool false))])))
 (bcase (n13 == 8)
 (bcase (if Bool.false = Bool.true then !(n11 == 0 && (n12 == 0 && Bool.true)) else n11 == 0 && (n12 == 0 && Bool.true))
 (bcase (n16 == 0)
 (k [(D.val (Go.Value.bool true))])
 (bcase (n16 == 8)
 (bcase (if Bool.false = Bool.true then !(n14 == 0 && (n15 == 0 && Bool.true)) else n14 == 0 && (n15 == 0 && Bool.true))
 (k [(D.val (Go.Value.bool true))])
 (k [(D.val (Go.Value.bool false))]))
 (k [(D.val (Go.Value.bool false))])))
 (k [(D.val (Go.Value.bool false))]))
 (k [(D.val (Go.Value.bool false))])))
 (((Says C 30 [(D.agg [(D.val (Go.Value.int Go.IntKind.i64 (n11))), (D.val (Go.Value.int Go.IntKind.i64 (n12)))])] [(D.val (Go.Value.bool true))]) ∧
 (((Says C 31 [(D.agg [(D.val (Go.Value.int Go.IntKind.i64 (n11))), (D.val (Go.Value.int Go.IntKind.i64 (n12)))])] [(D.val (Go.Value.bool true))]) ∧
 (((Says C 30 [(D.agg [(D.val (Go.Value.int Go.IntKind.i64 (n14))), (D.val (Go.Value.int Go.IntKind.i64 (n15)))])] [(D.val (Go.Value.bool true))]) ∧
 (((Says C 31 [(D.agg [(D.val (Go.Value.int Go.IntKind.i64 (n14))), (D.val (Go.Value.int Go.IntKind.i64 (n15)))])] [(D.val (Go.Value.bool true))]) ∧
 (∃ n17 : Int,
 ((Says C 32 [(D.agg [(D.val (Go.Value.int Go.IntKind.i64 (n11))), (D.val (Go.Value.int Go.IntKind.i64 (n12)))]), (D.agg [(D.val (Go.Value.int Go.IntKind.i64 (n14))), (D.val (Go.Value.int Go.IntKind.i64 (n15)))])] [(D.val (Go.Value.int Go.IntKind.i64 (n17)))]) ∧
 (bcase (decide (n17 < 0))
 (k [(D.val (Go.Value.bool true))])
 (k [(D.val (Go.Value.bool false))]))))) ∨
 ((Says C 31 [(D.agg [(D.val (Go.Value.int Go.IntKind.i64 (n14))), (D.val (Go.Value.int Go.IntKind.i64 (n15)))])] [(D.val (Go.Value.bool false))]) ∧
 (k [(D.val (Go.Value.bool false))])))) ∨
 ((Says C 30 [(D.agg [(D.val (Go.Value.int Go.IntKind.i64 (n14))), (D.val (Go.Value.int Go.IntKind.i64 (n15)))])] [(D.val (Go.Value.bool false))]) ∧
 (k [(D.val (Go.Value.bool false))])))) ∨
 ((Says C 31 [(D.agg [(D.val (Go.Value.int Go.IntKind.i64 (n11))), (D.val (Go.Value.int Go.IntKind.i64 (n12)))])] [(D.val (Go.Value.bool false))]) ∧
 (k [(D.val (Go.Value.bool false))])))) ∨
 ((Says C 30 [(D.agg [(D.val (Go.Value.int Go.IntKind.i64 (n11))), (D.val (Go.Value.int Go.IntKind.i64 (n12)))])] [(D.val (Go.Value.bool false))]) ∧
 (k [(D.val (Go.Value.bool false))])))))))))
 False))
 False)))))
 False))
 False)))
 False)
 (k [(D.val (Go.Value.bool false))]))
 (k [(D.val (Go.Value.bool false))]))
 (k [(D.val (Go.Value.bool false))]))
 (k [(D.val (Go.Value.bool false))]))
 (k [(D.val (Go.Value.bool false))]))
 (k [(D.val (Go.Value.bool false))])))))))))
 False))
 False))))
 False))
 False)))
 ((((Go.Value.int Go.IntKind.i64 (Go.IntKind.wrap Go.IntKind.i64 (x + Int.tmod z (Go.IntKind.wrap Go.IntKind.i64 (Go.IntKind.wrap Go.IntKind.i64 (y - x) + 1))))) = (Go.Value.int Go.IntKind.i64 (Go.IntKind.wrap Go.IntKind.i64 (x + Int.tmod z (Go.IntKind.wrap Go.IntKind.i64 (Go.IntKind.wrap Go.IntKind.i64 (y - x) + 1)))))) ∧
 (((Go.Value.int Go.IntKind.i64 (Go.IntKind.wrap Go.IntKind.i64 (y - x))) = (Go.Value.int Go.IntKind.i64 (Go.IntKind.wrap Go.IntKind.i64 (y - x)))) ∧
 (((Go.Value.int Go.IntKind.i64 (x)) = (Go.Value.int Go.IntKind.i64 (x))) ∧
 (((Go.Value.pointer (Option.some (Go.Addr.mk 1001 0 Option.none))) = (Go.Value.pointer (Option.some (Go.Addr.mk 1001 0 Option.none)))) ∧
 (((Go.Value.int Go.IntKind.i64 (y)) = (Go.Value.int Go.IntKind.i64 (y))) ∧
 (((Go.Value.pointer (Option.some (Go.Addr.mk 1001 1 Option.none))) = (Go.Value.pointer (Option.some (Go.Addr.mk 1001 1 Option.none)))) ∧
 (((Go.Value.pointer (Option.some (Go.Addr.mk 1002 0 Option.none))) = (Go.Value.pointer (Option.some (Go.Addr.mk 1002 0 Option.none)))) ∧
 (((Go.Value.int Go.IntKind.i64 (x)) = (Go.Value.int Go.IntKind.i64 (x))) ∧
 (((Go.Value.pointer (Option.some (Go.Addr.mk 1001 0 Option.none))) = (Go.Value.pointer (Option.some (Go.Addr.mk 1001 0 Option.none)))) ∧
 True))))))))) ∧
 (True ∧
 (bcase (decide (0 + n * 2 ≤ List.length l))
 ((Says C 11 [(D.sl (n) 2 (List.take (n * 2) (List.drop 0 l)))] [(D.sl (n) 2 (List.take (n * 2) (List.drop 0 l)))]) ∧
 (bcase (decide (0 + n * 2 ≤ List.length (List.take (n * 2) (List.drop 0 l))))
 (∃ n6 : Int,
 (∃ n7 : Int,
 ((Says C 12 [(D.sl (n) 2 (List.take (n * 2) (List.drop 0 (List.take (n * 2) (List.drop 0 l))))), (D.val (Go.Value.int Go.IntKind.i64 (Go.IntKind.wrap Go.IntKind.i64 (x + Int.tmod z (Go.IntKind.wrap Go.IntKind.i64 (Go.IntKind.wrap Go.IntKind.i64 (y - x) + 1))))))] [(D.val (Go.Value.int Go.IntKind.i64 (n6))), (D.val (Go.Value.int Go.IntKind.i64 (n7)))]) ∧
 (bcase (decide (0 + n * 2 ≤ List.length l))
 ((Says C 11 [(D.sl (n) 2 (List.take (n * 2) (List.drop 0 l)))] [(D.sl (n) 2 (List.take (n * 2) (List.drop 0 l)))]) ∧
 (bcase (decide (0 + n * 2 ≤ List.length (List.take (n * 2) (List.drop 0 l))))
 (∃ n8 : Int,
 (∃ n9 : Int,
 (∃ n10 : Int,
 ((Says C 13 [(D.sl (n) 2 (List.take (n * 2) (List.drop 0 (List.take (n * 2) (List.drop 0 l))))), (D.agg [(D.val (Go.Value.int Go.IntKind.i64 (0 : Int))), (D.val (Go.Value.int Go.IntKind.i64 (20000 : Int)))])] [(D.agg [(D.val (Go.Value.int Go.IntKind.i64 (n8))), (D.val (Go.Value.int Go.IntKind.i64 (n9)))]), (D.val (Go.Value.int Go.IntKind.i64 (n10)))]) ∧
 (bcase (n5 != 0)
 (k [(D.val (Go.Value.bool false))])
 (bcase (n7 != 0)
 (k [(D.val (Go.Value.bool false))])
 (bcase (n10 != 0)
 (k [(D.val (Go.Value.bool false))])
 (bcase (decide (n3 ≤ n6))
 (bcase (decide (n6 ≤ n4))
 (bcase (decide (n8 ≤ n3))
 (bcase (decide (n3 ≤ n4))
 (bcase (decide (n3 ≤ n4))
 (bcase (decide (n4 ≤ n9))
 (bcase (Go.IntKind.wrap Go.IntKind.i64 (e + 1) != 0)
 (bcase (decide (Int.tmod u (Go.IntKind.wrap Go.IntKind.i64 (e + 1)) < 0))
 (bcase (Go.IntKind.wrap Go.IntKind.i64 (Int.tmod u (Go.IntKind.wrap Go.IntKind.i64 (e + 1)) + Go.IntKind.wrap Go.IntKind.i64 (e + 1)) == e)
 (k [(D.val (Go.Value.bool true))])
 (bcase (decide (0 + n * 2 ≤ List.length l))
 ((Says C 20 [(D.agg [(D.sl (n) 2 (List.take (n * 2) (List.drop 0 l))), (D.val (Go.Value.int Go.IntKind.i64 (a))), (D.val (Go.Value.int Go.IntKind.i64 (b))), (D.val (Go.Value.int Go.IntKind.i64 (c))), (D.val (Go.Value.int Go.IntKind.i64 (d))), (D.val (Go.Value.int Go.IntKind.i64 (e)))])] [(D.agg [(D.sl (n) 2 (List.take (n * 2) (List.drop 0 l))), (D.val (Go.Value.int Go.IntKind.i64 (a))), (D.val (Go.Value.int Go.IntKind.i64 (b))), (D.val (Go.Value.int Go.IntKind.i64 (c))), (D.val (Go.Value.int Go.IntKind.i64 (d))), (D.val (Go.Value.int Go.IntKind.i64 (e)))])]) ∧
 (bcase (decide (0 + n * 2 ≤ List.length (List.take (n * 2) (List.drop 0 l))))
 (∃ n11 : Int,
 (∃ n12 : Int,
 (∃ n13 : Int,
 ((Says C 22 [(D.agg [(D.sl (n) 2 (List.take (n * 2) (List.drop 0 (List.take (n * 2) (List.drop 0 l))))), (D.val (Go.Value.int Go.IntKind.i64 (a))), (D.val (Go.Value.int Go.IntKind.i64 (b))), (D.val (Go.Value.int Go.IntKind.i64 (c))), (D.val (Go.Value.int Go.IntKind.i64 (d))), (D.val (Go.Value.int Go.IntKind.i64 (e)))]), (D.agg [(D.val (Go.Value.int Go.IntKind.i64 (0 : Int))), (D.val (Go.Value.int Go.IntKind.i64 (Go.IntKind.wrap Go.IntKind.i64 (Int.tmod u (Go.IntKind.wrap Go.IntKind.i64 (e + 1)) + Go.IntKind.wrap Go.IntKind.i64 (e + 1)))))]), (D.val (Go.Value.int Go.IntKind.i64 (Go.IntKind.wrap Go.IntKind.i64 (x + Int.tmod z (Go.IntKind.wrap Go.IntKind.i64 (Go.IntKind.wrap Go.IntKind.i64 (y - x) + 1))))))] [(D.agg [(D.val (Go.Value.int Go.IntKind.i64 (n11))), (D.val (Go.Value.int Go.IntKind.i64 (n12)))]), (D.val (Go.Value.int Go.IntKind.i64 (n13)))]) ∧
 (bcase (decide (0 + n * 2 ≤ List.length l))
 ((Says C 20 [(D.agg [(D.sl (n) 2 (List.take (n * 2) (List.drop 0 l))), (D.val (Go.Value.int Go.IntKind.i64 (a))), (D.val (Go.Value.int Go.IntKind.i64 (b))), (D.val (Go.Value.int Go.IntKind.i64 (c))), (D.val (Go.Value.int Go.IntKind.i64 (d))), (D.val (Go.Value.int Go.IntKind.i64 (e)))])] [(D.agg [(D.sl (n) 2 (List.take (n * 2) (List.drop 0 l))), (D.val (Go.Value.int Go.IntKind.i64 (a))), (D.val (Go.Value.int Go.IntKind.i64 (b))), (D.val (Go.Value.int Go.IntKind.i64 (c))), (D.val (Go.Value.int Go.IntKind.i64 (d))), (D.val (Go.Value.int Go.IntKind.i64 (e)))])]) ∧
 (bcase (decide (0 + n * 2 ≤ List.length (List.take (n * 2) (List.drop 0 l))))
 (∃ n14 : Int,
 (∃ n15 : Int,
 (∃ n16 : Int,
 ((Says C 22 [(D.agg [(D.sl (n) 2 (List.take (n * 2) (List.drop 0 (List.take (n * 2) (List.drop 0 l))))), (D.val (Go.Value.int Go.IntKind.i64 (a))), (D.val (Go.Value.int Go.IntKind.i64 (b))), (D.val (Go.Value.int Go.IntKind.i64 (c))), (D.val (Go.Value.int Go.IntKind.i64 (d))), (D.val (Go.Value.int Go.IntKind.i64 (e)))]), (D.agg [(D.val (Go.Value.int Go.IntKind.i64 (0 : Int))), (D.val (Go.Value.int Go.IntKind.i64 (Go.IntKind.wrap Go.IntKind.i64 (Go.IntKind.wrap Go.IntKind.i64 (Int.tmod u (Go.IntKind.wrap Go.IntKind.i64 (e + 1)) + Go.IntKind.wrap Go.IntKind.i64 (e + 1)) + 1))))]), (D.val (Go.Value.int Go.IntKind.i64 (Go.IntKind.wrap Go.IntKind.i64 (x + Int.tmod z (Go.IntKind.wrap Go.IntKind.i64 (Go.IntKind.wrap Go.IntKind.i64 (y - x) + 1))))))] [(D.agg [(D.val (Go.Value.int Go.IntKind.i64 (n14))), (D.val (Go.Value.int Go.IntKind.i64 (n15)))]), (D.val (Go.Value.int Go.IntKind.i64 (n16)))]) ∧
 (bcase (n13 != 0)
 (bcase (n13 == 0)
 (bcase (n16 == 0)
 (k [(D.val (Go.Value.bool true))])
 (bcase (n16 == 8)
 (bcase (if Bool.false = Bool.true then !(n14 == 0 && (n15 == 0 && Bool.true)) else n14 == 0 && (n15 == 0 && Bool.true))
 (k [(D.val (Go.Value.bool true))])
 (k [(D.val (Go.Value.bool false))]))
 (k [(D.val (Go.Value.bool false))])))
 (bcase (n13 == 8)
 (bcase (if Bool.false = Bool.true then !(n11 == 0 && (n12 == 0 && Bool.true)) else n11 == 0 && (n12 == 0 && Bool.true))
 (bcase (n16 == 0)
 (k [(D.val (Go.Value.bool true))])
 (bcase (n16 == 8)
 (bcase (if Bool.false = Bool.true then !(n14 == 0 && (n15 == 0 && Bool.true)) else n14 == 0 && (n15 == 0 && Bool.true))
 (k [(D.val (Go.Value.bool true))])
 (k [(D.val (Go.Value.bool false))]))
 (k [(D.val (Go.Value.bool false))])))
 (k [(D.val (Go.Value.bool false))]))
 (k [(D.val (Go.Value.bool false))])))
 (bcase (n16 != 0)
 (bcase (n13 == 0)
 (bcase (n16 == 0)
 (k [(D.val (Go.Value.bool true))])
 (bcase (n16 == 8)
 (bcase (if Bool.false = Bool.true then !(n14 == 0 && (n15 == 0 && Bool.true)) else n14 == 0 && (n15 == 0 && Bool.true))
 (k [(D.val (Go.Value.bool true))])
 (k [(D.val (Go.Value.bool false))]))
 (k [(D.val (Go.Value.bool false))])))
 (bcase (n13 == 8)
 (bcase (if Bool.false = Bool.true then !(n11 == 0 && (n12 == 0 && Bool.true)) else n11 == 0 && (n12 == 0 && Bool.true))
 (bcase (n16 == 0)
 (k [(D.val (Go.Value.bool true))])
 (bcase (n16 == 8)
 (bcase (if Bool.false = Bool.true then !(n14 == 0 && (n15 == 0 && Bool.true)) else n14 == 0 && (n15 == 0 && Bool.true))
 (k [(D.val (Go.Value.bool true))])
 (k [(D.val (Go.Value.bool false))]))
 (k [(D.val (Go.Value.bool false))])))
 (k [(D.val (Go.Value.bool false))]))
 (k [(D.val (Go.Value.bool false))])))
 (((Says C 30 [(D.agg [(D.val (Go.Value.int Go.IntKind.i64 (n11))), (D.val (Go.Value.int Go.IntKind.i64 (n12)))])] [(D.val (Go.Value.bool true))]) ∧
 (((Says C 31 [(D.agg [(D.val (Go.Value.int Go.IntKind.i64 (n11))), (D.val (Go.Value.int Go.IntKind.i64 (n12)))])] [(D.val (Go.Value.bool true))]) ∧
 (((Says C 30 [(D.agg [(D.val (Go.Value.int Go.IntKind.i64 (n14))), (D.val (Go.Value.int Go.IntKind.i64 (n15)))])] [(D.val (Go.Value.bool true))]) ∧
 (((Says C 31 [(D.agg [(D.val (Go.Value.int Go.IntKind.i64 (n14))), (D.val (Go.Value.int Go.IntKind.i64 (n15)))])] [(D.val (Go.Value.bool true))]) ∧
 (∃ n17 : Int,
 ((Says C 32 [(D.agg [(D.val (Go.Value.int Go.IntKind.i64 (n11))), (D.val (Go.Value.int Go.IntKind.i64 (n12)))]), (D.agg [(D.val (Go.Value.int Go.IntKind.i64 (n14))), (D.val (Go.Value.int Go.IntKind.i64 (n15)))])] [(D.val (Go.Value.int Go.IntKind.i64 (n17)))]) ∧
 (bcase (decide (n17 < 0))
 (k [(D.val (Go.Value.bool true))])
 (k [(D.val (Go.Value.bool false))]))))) ∨
 ((Says C 31 [(D.agg [(D.val (Go.Value.int Go.IntKind.i64 (n14))), (D.val (Go.Value.int Go.IntKind.i64 (n15)))])] [(D.val (Go.Value.bool false))]) ∧
 (k [(D.val (Go.Value.bool false))])))) ∨
 ((Says C 30 [(D.agg [(D.val (Go.Value.int Go.IntKind.i64 (n14))), (D.val (Go.Value.int Go.IntKind.i64 (n15)))])] [(D.val (Go.Value.bool false))]) ∧
 (k [(D.val (Go.Value.bool false))])))) ∨
 ((Says C 31 [(D.agg [(D.val (Go.Value.int Go.IntKind.i64 (n11))), (D.val (Go.Value.int Go.IntKind.i64 (n12)))])] [(D.val (Go.Value.bool false))]) ∧
 (k [(D.val (Go.Value.bool false))])))) ∨
 ((Says C 30 [(D.agg [(D.val (Go.Value.int Go.IntKind.i64 (n11))), (D.val (Go.Value.int Go.IntKind.i64 (n12)))])] [(D.val (Go.Value.bool false))]) ∧
 (k [(D.val (Go.Value.bool false))])))))))))
 False))
 False)))))
 False))
 False))
 (bcase (Int.tmod u (Go.IntKind.wrap Go.IntKind.i64 (e + 1)) == e)
 (k [(D.val (Go.Value.bool true))])
 (bcase (decide (0 + n * 2 ≤ List.length l))
 ((Says C 20 [(D.agg [(D.sl (n) 2 (List.take (n * 2) (List.drop 0 l))), (D.val (Go.Value.int Go.IntKind.i64 (a))), (D.val (Go.Value.int Go.IntKind.i64 (b))), (D.val (Go.Value.int Go.IntKind.i64 (c))), (D.val (Go.Value.int Go.IntKind.i64 (d))), (D.val (Go.Value.int Go.IntKind.i64 (e)))])] [(D.agg [(D.sl (n) 2 (List.take (n * 2) (List.drop 0 l))), (D.val (Go.Value.int Go.IntKind.i64 (a))), (D.val (Go.Value.int Go.IntKind.i64 (b))), (D.val (Go.Value.int Go.IntKind.i64 (c))), (D.val (Go.Value.int Go.IntKind.i64 (d))), (D.val (Go.Value.int Go.IntKind.i64 (e)))])]) ∧
 (bcase (decide (0 + n * 2 ≤ List.length (List.take (n * 2) (List.drop 0 l))))
 (∃ n11 : Int,
 (∃ n12 : Int,
 (∃ n13 : Int,
 ((Says C 22 [(D.agg [(D.sl (n) 2 (List.take (n * 2) (List.drop 0 (List.take (n * 2) (List.drop 0 l))))), (D.val (Go.Value.int Go.IntKind.i64 (a))), (D.val (Go.Value.int Go.IntKind.i64 (b))), (D.val (Go.Value.int Go.IntKind.i64 (c))), (D.val (Go.Value.int Go.IntKind.i64 (d))), (D.val (Go.Value.int Go.IntKind.i64 (e)))]), (D.agg [(D.val (Go.Value.int Go.IntKind.i64 (0 : Int))), (D.val (Go.Value.int Go.IntKind.i64 (Int.tmod u (Go.IntKind.wrap Go.IntKind.i64 (e + 1)))))]), (D.val (Go.Value.int Go.IntKind.i64 (Go.IntKind.wrap Go.IntKind.i64 (x + Int.tmod z (Go.IntKind.wrap Go.IntKind.i64 (Go.IntKind.wrap Go.IntKind.i64 (y - x) + 1))))))] [(D.agg [(D.val (Go.Value.int Go.IntKind.i64 (n11))), (D.val (Go.Value.int Go.IntKind.i64 (n12)))]), (D.val (Go.Value.int Go.IntKind.i64 (n13)))]) ∧
 (bcase (decide (0 + n * 2 ≤ List.length l))
 ((Says C 20 [(D.agg [(D.sl (n) 2 (List.take (n * 2) (List.drop 0 l))), (D.val (Go.Value.int Go.IntKind.i64 (a))), (D.val (Go.Value.int Go.IntKind.i64 (b))), (D.val (Go.Value.int Go.IntKind.i64 (c))), (D.val (Go.Value.int Go.IntKind.i64 (d))), (D.val (Go.Value.int Go.IntKind.i64 (e)))])] [(D.agg [(D.sl (n) 2 (List.take (n * 2) (List.drop 0 l))), (D.val (Go.Value.int Go.IntKind.i64 (a))), (D.val (Go.Value.int Go.IntKind.i64 (b))), (D.val (Go.Value.int Go.IntKind.i64 (c))), (D.val (Go.Value.int Go.IntKind.i64 (d))), (D.val (Go.Value.int Go.IntKind.i64 (e)))])]) ∧
 (bcase (decide (0 + n * 2 ≤ List.length (List.take (n * 2) (List.drop 0 l))))
 (∃ n14 : Int,
 (∃ n15 : Int,
 (∃ n16 : Int,
 ((Says C 22 [(D.agg [(D.sl (n) 2 (List.take (n * 2) (List.drop 0 (List.take (n * 2) (List.drop 0 l))))), (D.val (Go.Value.int Go.IntKind.i64 (a))), (D.val (Go.Value.int Go.IntKind.i64 (b))), (D.val (Go.Value.int Go.IntKind.i64 (c))), (D.val (Go.Value.int Go.IntKind.i64 (d))), (D.val (Go.Value.int Go.IntKind.i64 (e)))]), (D.agg [(D.val (Go.Value.int Go.IntKind.i64 (0 : Int))), (D.val (Go.Value.int Go.IntKind.i64 (Go.IntKind.wrap Go.IntKind.i64 (Int.tmod u (Go.IntKind.wrap Go.IntKind.i64 (e + 1)) + 1))))]), (D.val (Go.Value.int Go.IntKind.i64 (Go.IntKind.wrap Go.IntKind.i64 (x + Int.tmod z (Go.IntKind.wrap Go.IntKind.i64 (Go.IntKind.wrap Go.IntKind.i64 (y - x) + 1))))))] [(D.agg [(D.val (Go.Value.int Go.IntKind.i64 (n14))), (D.val (Go.Value.int Go.IntKind.i64 (n15)))]), (D.val (Go.Value.int Go.IntKind.i64 (n16)))]) ∧
 (bcase (n13 != 0)
 (bcase (n13 == 0)
 (bcase (n16 == 0)
 (k [(D.val (Go.Value.bool true))])
 (bcase (n16 == 8)
 (bcase (if Bool.false = Bool.true then !(n14 == 0 && (n15 == 0 && Bool.true)) else n14 == 0 && (n15 == 0 && Bool.true))
 (k [(D.val (Go.Value.bool true))])
 (k [(D.val (Go.Value.bool false))]))
 (k [(D.val (Go.Value.bool false))])))
 (bcase (n13 == 8)
 (bcase (if Bool.false = Bool.true then !(n11 == 0 && (n12 == 0 && Bool.true)) else n11 == 0 && (n12 == 0 && Bool.true))
 (bcase (n16 == 0)
 (k [(D.val (Go.Value.bool true))])
 (bcase (n16 == 8)
 (bcase (if Bool.false = Bool.true then !(n14 == 0 && (n15 == 0 && Bool.true)) else n14 == 0 && (n15 == 0 && Bool.true))
 (k [(D.val (Go.Value.bool true))])
 (k [(D.val (Go.Value.bool false))]))
 (k [(D.val (Go.Value.bool false))])))
 (k [(D.val (Go.Value.bool false))]))
 (k [(D.val (Go.Value.bool false))])))
 (bcase (n16 != 0)
 (bcase (n13 == 0)
 (bcase (n16 == 0)
 (k [(D.val (Go.Value.bool true))])
 (bcase (n16 == 8)
 (bcase (if Bool.false = Bool.true then !(n14 == 0 && (n15 == 0 && Bool.true)) else n14 == 0 && (n15 == 0 && Bool.true))
 (k [(D.val (Go.Value.bool true))])
 (k [(D.val (Go.Value.bool false))]))
 (k [(D.val (Go.Value.bool false))])))
 (bcase (n13 == 8)
 (bcase (if Bool.false = Bool.true then !(n11 == 0 && (n12 == 0 && Bool.true)) else n11 == 0 && (n12 == 0 && Bool.true))
 (bcase (n16 == 0)
 (k [(D.val (Go.Value.bool true))])
 (bcase (n16 == 8)
 (bcase (if Bool.false = Bool.true then !(n14 == 0 && (n15 == 0 && Bool.true)) else n14 == 0 && (n15 == 0 && Bool.true))
 (k [(D.val (Go.Value.bool true))])
 (k [(D.val (Go.Value.bool false))]))
 (k [(D.val (Go.Value.bool false))])))
 (k [(D.val (Go.Value.bool false))]))
 (k [(D.val (Go.Value.bool false))])))
 (((Says C 30 [(D.agg [(D.val (Go.Value.int Go.IntKind.i64 (n11))), (D.val (Go.Value.int Go.IntKind.i64 (n12)))])] [(D.val (Go.Value.bool true))]) ∧
 (((Says C 31 [(D.agg [(D.val (Go.Value.int Go.IntKind.i64 (n11))), (D.val (Go.Value.int Go.IntKind.i64 (n12)))])] [(D.val (Go.Value.bool true))]) ∧
 (((Says C 30 [(D.agg [(D.val (Go.Value.int Go.IntKind.i64 (n14))), (D.val (Go.Value.int Go.IntKind.i64 (n15)))])] [(D.val (Go.Value.bool true))]) ∧
 (((Says C 31 [(D.agg [(D.val (Go.Value.int Go.IntKind.i64 (n14))), (D.val (Go.Value.int Go.IntKind.i64 (n15)))])] [(D.val (Go.Value.bool true))]) ∧
 (∃ n17 : Int,
 ((Says C 32 [(D.agg [(D.val (Go.Value.int Go.IntKind.i64 (n11))), (D.val (Go.Value.int Go.IntKind.i64 (n12)))]), (D.agg [(D.val (Go.Value.int Go.IntKind.i64 (n14))), (D.val (Go.Value.int Go.IntKind.i64 (n15)))])] [(D.val (Go.Value.int Go.IntKind.i64 (n17)))]) ∧
 (bcase (decide (n17 < 0))
 (k [(D.val (Go.Value.bool true))])
 (k [(D.val (Go.Value.bool false))]))))) ∨
 ((Says C 31 [(D.agg [(D.val (Go.Value.int Go.IntKind.i64 (n14))), (D.val (Go.Value.int Go.IntKind.i64 (n15)))])] [(D.val (Go.Value.bool false))]) ∧
 (k [(D.val (Go.Value.bool false))])))) ∨
 ((Says C 30 [(D.agg [(D.val (Go.Value.int Go.IntKind.i64 (n14))), (D.val (Go.Value.int Go.IntKind.i64 (n15)))])] [(D.val (Go.Value.bool false))]) ∧
 (k [(D.val (Go.Value.bool false))])))) ∨
 ((Says C 31 [(D.agg [(D.val (Go.Value.int Go.IntKind.i64 (n11))), (D.val (Go.Value.int Go.IntKind.i64 (n12)))])] [(D.val (Go.Value.bool false))]) ∧
 (k [(D.val (Go.Value.bool false))])))) ∨
 ((Says C 30 [(D.agg [(D.val (Go.Value.int Go.IntKind.i64 (n11))), (D.val (Go.Value.int Go.IntKind.i64 (n12)))])] [(D.val (Go.Value.bool false))]) ∧
 (k [(D.val (Go.Value.bool false))])))))))))
 False))
 False)))))
 False))
 False)))
 False)
 (k [(D.val (Go.Value.bool false))]))
 (k [(D.val (Go.Value.bool false))]))
 (k [(D.val (Go.Value.bool false))]))
 (k [(D.val (Go.Value.bool false))]))
 (k [(D.val (Go.Value.bool false))]))
 (k [(D.val (Go.Value.bool false))])))))))))
 False))
 False))))
 False))
 False))))
 False)))))))))
 False)))
 False)))
 (k [(D.val (Go.Value.bool true))]))
 (k [(D.val (Go.Value.bool true))]))
 (k [(D.val (Go.Value.bool true))]))
 (k [(D.val (Go.Value.bool true))]))))))
 False)
 (k [(D.val (Go.Value.bool true))]))) ∨
 ((Says C 9 [] [(D.val (Go.Value.bool false))]) ∧
 (k [(D.val (Go.Value.bool false))]))) := by kernel_rfl
def g5n (C : Ct) (L : AtLoop) (a b c d e x y z u : Int) (k : List D → Prop) : Prop := wpFn Try.prog (hM C) L 0 5 #[vR (.slice none 0 0) a b c d e, vP x y, .agg #[vI z, vI u]] (heapOf []) (dataK k)
theorem g5n_text (C : Ct) (L : AtLoop) (a : Int) (b : Int) (c : Int) (d : Int) (e : Int) (x : Int) (y : Int) (z : Int) (u : Int) (k : List D → Prop) : g5n C L a b c d e x y z u k =
 (((Says C 9 [] [(D.val (Go.Value.bool true))]) ∧
 (∃ n1 : Int,
 (∃ n2 : Int,
 ((Says C 23 [(D.agg [D.nil, (D.val (Go.Value.int Go.IntKind.i64 (a))), (D.val (Go.Value.int Go.IntKind.i64 (b))), (D.val (Go.Value.int Go.IntKind.i64 (c))), (D.val (Go.Value.int Go.IntKind.i64 (d))), (D.val (Go.Value.int Go.IntKind.i64 (e)))])] [(D.val (Go.Value.int Go.IntKind.i64 (n1))), (D.val (Go.Value.int Go.IntKind.i64 (n2)))]) ∧
 (bcase (n2 != 0)
 (k [(D.val (Go.Value.bool true))])
 (bcase (decide (0 ≤ x))
 (bcase (decide (x ≤ 20000))
 (bcase (decide (0 ≤ y))
 (bcase (decide (y ≤ 20000))
 (bcase (decide (x > y))
 (k [(D.val (Go.Value.bool true))])
 (((((Go.Value.pointer (Option.some (Go.Addr.mk 1005 0 Option.none))) = (Go.Value.pointer (Option.some (Go.Addr.mk 1005 0 Option.none)))) ∧
 ((Option.some (AObj.cells [(Go.Value.int Go.IntKind.i64 (0 : Int)), (Go.Value.int Go.IntKind.i64 (0 : Int))] 24 false 2)) = (Option.some (AObj.cells [(Go.Value.int Go.IntKind.i64 (0 : Int)), (Go.Value.int Go.IntKind.i64 (0 : Int))] 24 false 2)))) ∧
 (((Go.Value.agg [(Go.Value.int Go.IntKind.i64 (x)), (Go.Value.int Go.IntKind.i64 (y))].toArray) = (Go.Value.agg [(Go.Value.int Go.IntKind.i64 (x)), (Go.Value.int Go.IntKind.i64 (y))].toArray)) ∧
 (((Go.Value.slice Option.none 0 0) = (Go.Value.slice Option.none 0 0)) ∧
 (((Go.Value.pointer (Option.some (Go.Addr.mk 1000 0 Option.none))) = (Go.Value.pointer (Option.some (Go.Addr.mk 1000 0 Option.none)))) ∧
 True)))) ∧
 ((Says C 11 [D.nil] [(D.sl 0 2 [])]) ∧
 (((((Go.Value.pointer (Option.some (Go.Addr.mk 1005 0 Option.none))) = (Go.Value.pointer (Option.some (Go.Addr.mk 1005 0 Option.none)))) ∧
 ((Option.some (AObj.cells [(Go.Value.int Go.IntKind.i64 (0 : Int)), (Go.Value.int Go.IntKind.i64 (0 : Int))] 24 false 2)) = (Option.some (AObj.cells [(Go.Value.int Go.IntKind.i64 (0 : Int)), (Go.Value.int Go.IntKind.i64 (0 : Int))] 24 false 2)))) ∧
 (((Go.Value.agg [(Go.Value.int Go.IntKind.i64 (x)), (Go.Value.int Go.IntKind.i64 (y))].toArray) = (Go.Value.agg [(Go.Value.int Go.IntKind.i64 (x)), (Go.Value.int Go.IntKind.i64 (y))].toArray)) ∧
 (((Go.Value.pointer (Option.some (Go.Addr.mk 1000 0 Option.none))) = (Go.Value.pointer (Option.some (Go.Addr.mk 1000 0 Option.none)))) ∧
 True))) ∧
 (∃ n3 : Int,
 (∃ n4 : Int,
 (∃ n5 : Int,
 ((Says C 13 [(D.sl 0 2 []), (D.agg [(D.val (Go.Value.int Go.IntKind.i64 (x))), (D.val (Go.Value.int Go.IntKind.i64 (y)))])] [(D.agg [(D.val (Go.Value.int Go.IntKind.i64 (n3))), (D.val (Go.Value.int Go.IntKind.i64 (n4)))]), (D.val (Go.Value.int Go.IntKind.i64 (n5)))]) ∧
 ((((Go.Value.int Go.IntKind.i64 (n5)) = (Go.Value.int Go.IntKind.i64 (n5))) ∧
 (((Go.Value.agg [(Go.Value.int Go.IntKind.i64 (n3)), (Go.Value.int Go.IntKind.i64 (n4))].toArray) = (Go.Value.agg [(Go.Value.int Go.IntKind.i64 (n3)), (Go.Value.int Go.IntKind.i64 (n4))].toArray)) ∧
 (((Go.Value.tuple [(Go.Value.agg [(Go.Value.int Go.IntKind.i64 (n3)), (Go.Value.int Go.IntKind.i64 (n4))].toArray), (Go.Value.int Go.IntKind.i64 (n5))].toArray) = (Go.Value.tuple [(Go.Value.agg [(Go.Value.int Go.IntKind.i64 (n3)), (Go.Value.int Go.IntKind.i64 (n4))].toArray), (Go.Value.int Go.IntKind.i64 (n5))].toArray)) ∧
 ((((Go.Value.pointer (Option.some (Go.Addr.mk 1005 0 Option.none))) = (Go.Value.pointer (Option.some (Go.Addr.mk 1005 0 Option.none)))) ∧
 ((Option.some (AObj.cells [(Go.Value.int Go.IntKind.i64 (0 : Int)), (Go.Value.int Go.IntKind.i64 (0 : Int))] 24 false 2)) = (Option.some (AObj.cells [(Go.Value.int Go.IntKind.i64 (0 : Int)), (Go.Value.int Go.IntKind.i64 (0 : Int))] 24 false 2)))) ∧
 (((Go.Value.pointer (Option.some (Go.Addr.mk 1000 0 Option.none))) = (Go.Value.pointer (Option.some (Go.Addr.mk 1000 0 Option.none)))) ∧
 True))))) ∧
 ((((Go.Value.int Go.IntKind.i64 (n5)) = (Go.Value.int Go.IntKind.i64 (n5))) ∧
 True) ∧
 (True ∧
 ((((Go.Value.int Go.IntKind.i64 (Go.IntKind.wrap Go.IntKind.i64 (Go.IntKind.wrap Go.IntKind.i64 (y - x) + 1))) = (Go.Value.int Go.IntKind.i64 (Go.IntKind.wrap Go.IntKind.i64 (Go.IntKind.wrap Go.IntKind.i64 (y - x) + 1)))) ∧
 (((Go.Value.int Go.IntKind.i64 (Go.IntKind.wrap Go.IntKind.i64 (y - x))) = (Go.Value.int Go.IntKind.i64 (Go.IntKind.wrap Go.IntKind.i64 (y - x)))) ∧
 (((Go.Value.int Go.IntKind.i64 (x)) = (Go.Value.int Go.IntKind.i64 (x))) ∧
 (((Go.Value.pointer (Option.some (Go.Addr.mk 1001 0 Option.none))) = (Go.Value.pointer (Option.some (Go.Addr.mk 1001 0 Option.none)))) ∧
 (((Go.Value.int Go.IntKind.i64 (y)) = (Go.Value.int Go.IntKind.i64 (y))) ∧
 (((Go.Value.pointer (Option.some (Go.Addr.mk 1001 1 Option.none))) = (Go.Value.pointer (Option.some (Go.Addr.mk 1001 1 Option.none)))) ∧
 (((Go.Value.int Go.IntKind.i64 (z)) = (Go.Value.int Go.IntKind.i64 (z))) ∧
 (((Go.Value.pointer (Option.some (Go.Addr.mk 1002 0 Option.none))) = (Go.Value.pointer (Option.some (Go.Addr.mk 1002 0 Option.none)))) ∧
 (((Go.Value.int Go.IntKind.i64 (x)) = (Go.Value.int Go.IntKind.i64 (x))) ∧
 (((Go.Value.pointer (Option.some (Go.Addr.mk 1001 0 Option.none))) = (Go.Value.pointer (Option.some (Go.Addr.mk 1001 0 Option.none)))) ∧
 True)))))))))) ∧
 (bcase (Go.IntKind.wrap Go.IntKind.i64 (Go.IntKind.wrap Go.IntKind.i64 (y - x) + 1) != 0)
 (bcase (decide (Int.tmod z (Go.IntKind.wrap Go.IntKind.i64 (Go.IntKind.wrap Go.IntKind.i64 (y - x) + 1)) < 0))
 ((((Go.Value.int Go.IntKind.i64 (Go.IntKind.wrap Go.IntKind.i64 (x + Go.IntKind.wrap Go.IntKind.i64 (Int.tmod z (Go.IntKind.wrap Go.IntKind.i64 (Go.IntKind.wrap Go.IntKind.i64 (y - x) + 1)) + Go.IntKind.wrap Go.IntKind.i64 (Go.IntKind.wrap Go.IntKind.i64 (y - x) + 1))))) = (Go.Value.int Go.IntKind.i64 (Go.IntKind.wrap Go.IntKind.i64 (x + Go.IntKind.wrap Go.IntKind.i64 (Int.tmod z (Go.IntKind.wrap Go.IntKind.i64 (Go.IntKind.wrap Go.IntKind.i64 (y - x) + 1)) + Go.IntKind.wrap Go.IntKind.i64 (Go.IntKind.wrap Go.IntKind.i64 (y - x) + 1)))))) ∧
 (((Go.Value.int Go.IntKind.i64 (Go.IntKind.wrap Go.IntKind.i64 (y - x))) = (Go.Value.int Go.IntKind.i64 (Go.IntKind.wrap Go.IntKind.i64 (y - x)))) ∧
 (((Go.Value.int Go.IntKind.i64 (x)) = (Go.Value.int Go.IntKind.i64 (x))) ∧
 (((Go.Value.pointer (Option.some (Go.Addr.mk 1001 0 Option.none))) = (Go.Value.pointer (Option.some (Go.Addr.mk 1001 0 Option.none)))) ∧
 (((Go.Value.int Go.IntKind.i64 (y)) = (Go.Value.int Go.IntKind.i64 (y))) ∧
 (((Go.Value.pointer (Option.some (Go.Addr.mk 1001 1 Option.none))) = (Go.Value.pointer (Option.some (Go.Addr.mk 1001 1 Option.none)))) ∧
 (((Go.Value.pointer (Option.some (Go.Addr.mk 1002 0 Option.none))) = (Go.Value.pointer (Option.some (Go.Addr.mk 1002 0 Option.none)))) ∧
 (((Go.Value.int Go.IntKind.i64 (x)) = (Go.Value.int Go.IntKind.i64 (x))) ∧
 (((Go.Value.pointer (Option.some (Go.Addr.mk 1001 0 Option.none))) = (Go.Value.pointer (Option.some (Go.Addr.mk 1001 0 Option.none)))) ∧
 True))))))))) ∧
 (True ∧
 ((Says C 11 [D.nil] [(D.sl 0 2 [])]) ∧
 (∃ n6 : Int,
 (∃ n7 : Int,
 ((Says C 12 [(D.sl 0 2 []), (D.val (Go.Value.int Go.IntKind.i64 (Go.IntKind.wrap Go.IntKind.i64 (x + Go.IntKind.wrap Go.IntKind.i64 (Int.tmod z (Go.IntKind.wrap Go.IntKind.i64 (Go.IntKind.wrap Go.IntKind.i64 (y - x) + 1)) + Go.IntKind.wrap Go.IntKind.i64 (Go.IntKind.wrap Go.IntKind.i64 (y - x) + 1))))))] [(D.val (Go.Value.int Go.IntKind.i64 (n6))), (D.val (Go.Value.int Go.IntKind.i64 (n7)))]) ∧
 ((Says C 11 [D.nil] [(D.sl 0 2 [])]) ∧
 (∃ n8 : Int,
 (∃ n9 : Int,
 (∃ n10 : Int,
 ((Says C 13 [(D.sl 0 2 []), (D.agg [(D.val (Go.Value.int Go.IntKind.i64 (0 : Int))), (D.val (Go.Value.int Go.IntKind.i64 (20000 : Int)))])] [(D.agg [(D.val (Go.Value.int Go.IntKind.i64 (n8))), (D.val (Go.Value.int Go.IntKind.i64 (n9)))]), (D.val (Go.Value.int Go.IntKind.i64 (n10)))]) ∧
 (bcase (n5 != 0)
 (k [(D.val (Go.Value.bool false))])
 (bcase (n7 != 0)
 (k [(D.val (Go.Value.bool false))])
 (bcase (n10 != 0)
 (k [(D.val (Go.Value.bool false))])
 (bcase (decide (n3 ≤ n6))
 (bcase (decide (n6 ≤ n4))
 (bcase (decide (n8 ≤ n3))
 (bcase (decide (n3 ≤ n4))
 (bcase (decide (n3 ≤ n4))
 (bcase (decide (n4 ≤ n9))
 (bcase (Go.IntKind.wrap Go.IntKind.i64 (e + 1) != 0)
 (bcase (decide (Int.tmod u (Go.IntKind.wrap Go.IntKind.i64 (e + 1)) < 0))
 (bcase (Go.IntKind.wrap Go.IntKind.i64 (Int.tmod u (Go.IntKind.wrap Go.IntKind.i64 (e + 1)) + Go.IntKind.wrap Go.IntKind.i64 (e + 1)) == e)
 (k [(D.val (Go.Value.bool true))])
 ((Says C 20 [(D.agg [D.nil, (D.val (Go.Value.int Go.IntKind.i64 (a))), (D.val (Go.Value.int Go.IntKind.i64 (b))), (D.val (Go.Value.int Go.IntKind.i64 (c))), (D.val (Go.Value.int Go.IntKind.i64 (d))), (D.val (Go.Value.int Go.IntKind.i64 (e)))])] [(D.agg [(D.sl 0 2 []), (D.val (Go.Value.int Go.IntKind.i64 (a))), (D.val (Go.Value.int Go.IntKind.i64 (b))), (D.val (Go.Value.int Go.IntKind.i64 (c))), (D.val (Go.Value.int Go.IntKind.i64 (d))), (D.val (Go.Value.int Go.IntKind.i64 (e)))])]) ∧
 (∃ n11 : Int,
 (∃ n12 : Int,
 (∃ n13 : Int,
 ((Says C 22 [(D.agg [(D.sl 0 2 []), (D.val (Go.Value.int Go.IntKind.i64 (a))), (D.val (Go.Value.int Go.IntKind.i64 (b))), (D.val (Go.Value.int Go.IntKind.i64 (c))), (D.val (Go.Value.int Go.IntKind.i64 (d))), (D.val (Go.Value.int Go.IntKind.i64 (e)))]), (D.agg [(D.val (Go.Value.int Go.IntKind.i64 (0 : Int))), (D.val (Go.Value.int Go.IntKind.i64 (Go.IntKind.wrap Go.IntKind.i64 (Int.tmod u (Go.IntKind.wrap Go.IntKind.i64 (e + 1)) + Go.IntKind.wrap Go.IntKind.i64 (e + 1)))))]), (D.val (Go.Value.int Go.IntKind.i64 (Go.IntKind.wrap Go.IntKind.i64 (x + Go.IntKind.wrap Go.IntKind.i64 (Int.tmod z (Go.IntKind.wrap Go.IntKind.i64 (Go.IntKind.wrap Go.IntKind.i64 (y - x) + 1)) + Go.IntKind.wrap Go.IntKind.i64 (Go.IntKind.wrap Go.IntKind.i64 (y - x) + 1))))))] [(D.agg [(D.val (Go.Value.int Go.IntKind.i64 (n11))), (D.val (Go.Value.int Go.IntKind.i64 (n12)))]), (D.val (Go.Value.int Go.IntKind.i64 (n13)))]) ∧
 ((Says C 20 [(D.agg [D.nil, (D.val (Go.Value.int Go.IntKind.i64 (a))), (D.val (Go.Value.int Go.IntKind.i64 (b))), (D.val (Go.Value.int Go.IntKind.i64 (c))), (D.val (Go.Value.int Go.IntKind.i64 (d))), (D.val (Go.Value.int Go.IntKind.i64 (e)))])] [(D.agg [(D.sl 0 2 []), (D.val (Go.Value.int Go.IntKind.i64 (a))), (D.val (Go.Value.int Go.IntKind.i64 (b))), (D.val (Go.Value.int Go.IntKind.i64 (c))), (D.val (Go.Value.int Go.IntKind.i64 (d))), (D.val (Go.Value.int Go.IntKind.i64 (e)))])]) ∧
 (∃ n14 : Int,
 (∃ n15 : Int,
 (∃ n16 : Int,
 ((Says C 22 [(D.agg [(D.sl 0 2 []), (D.val (Go.Value.int Go.IntKind.i64 (a))), (D.val (Go.Value.int Go.IntKind.i64 (b))), (D.val (Go.Value.int Go.IntKind.i64 (c))), (D.val (Go.Value.int Go.IntKind.i64 (d))), (D.val (Go.Value.int Go.IntKind.i64 (e)))]), (D.agg [(D.val (Go.Value.int Go.IntKind.i64 (0 : Int))), (D.val (Go.Value.int Go.IntKind.i64 (Go.IntKind.wrap Go.IntKind.i64 (Go.IntKind.wrap Go.IntKind.i64 (Int.tmod u (Go.IntKind.wrap Go.IntKind.i64 (e + 1)) + Go.IntKind.wrap Go.IntKind.i64 (e + 1)) + 1))))]), (D.val (Go.Value.int Go.IntKind.i64 (Go.IntKind.wrap Go.IntKind.i64 (x + Go.IntKind.wrap Go.IntKind.i64 (Int.tmod z (Go.IntKind.wrap Go.IntKind.i64 (Go.IntKind.wrap Go.IntKind.i64 (y - x) + 1)) + Go.IntKind.wrap Go.IntKind.i64 (Go.IntKind.wrap Go.IntKind.i64 (y - x) + 1))))))] [(D.agg [(D.val (Go.Value.int Go.IntKind.i64 (n14))), (D.val (Go.Value.int Go.IntKind.i64 (n15)))]), (D.val (Go.Value.int Go.IntKind.i64 (n16)))]) ∧
 (bcase (n13 != 0)
 (bcase (n13 == 0)
 (bcase (n16 == 0)
 (k [(D.val (Go.Value.bool true))])
 (bcase (n16 == 8)
 (bcase (if Bool.false = Bool.true then !(n14 == 0 && (n15 == 0 && Bool.true)) else n14 == 0 && (n15 == 0 && Bool.true))
 (k [(D.val (Go.Value.bool true))])
 (k [(D.val (Go.Value.bool false))]))
 (k [(D.val (Go.Value.bool false))])))
 (bcase (n13 == 8)
 (bcase (if Bool.false = Bool.true then !(n11 == 0 && (n12 == 0 && Bool.true)) else n11 == 0 && (n12 == 0 && Bool.true))
 (bcase (n16 == 0)
 (k [(D.val (Go.Value.bool true))])
 (bcase (n16 == 8)
 (bcase (if Bool.false = Bool.true then !(n14 == 0 && (n15 == 0 && Bool.true)) else n14 == 0 && (n15 == 0 && Bool.true))
 (k [(D.val (Go.Value.bool true))])
 (k [(D.val (Go.Value.bool false))]))
 (k [(D.val (Go.Value.bool false))])))
 (k [(D.val (Go.Value.bool false))]))
 (k [(D.val (Go.Value.bool false))])))
 (bcase (n16 != 0)
 (bcase (n13 == 0)
 (bcase (n16 == 0)
 (k [(D.val (Go.Value.bool true))])
 (bcase (n16 == 8)
 (bcase (if Bool.false = Bool.true then !(n14 == 0 && (n15 == 0 && Bool.true)) else n14 == 0 && (n15 == 0 && Bool.true))
 (k [(D.val (Go.Value.bool true))])
 (k [(D.val (Go.Value.bool false))]))
 (k [(D.val (Go.Value.bool false))])))
 (bcase (n13 == 8)
 (bcase (if Bool.false = Bool.true then !(n11 == 0 && (n12 == 0 && Bool.true)) else n11 == 0 && (n12 == 0 && Bool.true))
 (bcase (n16 == 0)
 (k [(D.val (Go.Value.bool true))])
 (bcase (n16 == 8)
 (bcase (if Bool.false = Bool.true then !(n14 == 0 && (n15 == 0 && Bool.true)) else n14 == 0 && (n15 == 0 && Bool.true))
 (k [(D.val (Go.Value.bool true))])
 (k [(D.val (Go.Value.bool false))]))
 (k [(D.val (Go.Value.bool false))])))
 (k [(D.val (Go.Value.bool false))]))
 (k [(D.val (Go.Value.bool false))])))
 (((Says C 30 [(D.agg [(D.val (Go.Value.int Go.IntKind.i64 (n11))), (D.val (Go.Value.int Go.IntKind.i64 (n12)))])] [(D.val (Go.Value.bool true))]) ∧
 (((Says C 31 [(D.agg [(D.val (Go.Value.int Go.IntKind.i64 (n11))), (D.val (Go.Value.int Go.IntKind.i64 (n12)))])] [(D.val (Go.Value.bool true))]) ∧
 (((Says C 30 [(D.agg [(D.val (Go.Value.int Go.IntKind.i64 (n14))), (D.val (Go.Value.int Go.IntKind.i64 (n15)))])] [(D.val (Go.Value.bool true))]) ∧
 (((Says C 31 [(D.agg [(D.val (Go.Value.int Go.IntKind.i64 (n14))), (D.val (Go.Value.int Go.IntKind.i64 (n15)))])] [(D.val (Go.Value.bool true))]) ∧
 (∃ n17 : Int,
 ((Says C 32 [(D.agg [(D.val (Go.Value.int Go.IntKind.i64 (n11))), (D.val (Go.Value.int Go.IntKind.i64 (n12)))]), (D.agg [(D.val (Go.Value.int Go.IntKind.i64 (n14))), (D.val (Go.Value.int Go.IntKind.i64 (n15)))])] [(D.val (Go.Value.int Go.IntKind.i64 (n17)))]) ∧
 (bcase (decide (n17 < 0))
 (k [(D.val (Go.Value.bool true))])
 (k [(D.val (Go.Value.bool false))]))))) ∨
 ((Says C 31 [(D.agg [(D.val (Go.Value.int Go.IntKind.i64 (n14))), (D.val (Go.Value.int Go.IntKind.i64 (n15)))])] [(D.val (Go.Value.bool false))]) ∧
 (k [(D.val (Go.Value.bool false))])))) ∨
 ((Says C 30 [(D.agg [(D.val (Go.Value.int Go.IntKind.i64 (n14))), (D.val (Go.Value.int Go.IntKind.i64 (n15)))])] [(D.val (Go.Value.bool false))]) ∧
 (k [(D.val (Go.Value.bool false))])))) ∨
 ((Says C 31 [(D.agg [(D.val (Go.Value.int Go.IntKind.i64 (n11))), (D.val (Go.Value.int Go.IntKind.i64 (n12)))])] [(D.val (Go.Value.bool false))]) ∧
 (k [(D.val (Go.Value.bool false))])))) ∨
 ((Says C 30 [(D.agg [(D.val (Go.Value.int Go.IntKind.i64 (n11))), (D.val (Go.Value.int Go.IntKind.i64 (n12)))])] [(D.val (Go.Value.bool false))]) ∧
 (k [(D.val (Go.Value.bool false))]))))))))))))))))
 (bcase (Int.tmod u (Go.IntKind.wrap Go.IntKind.i64 (e + 1)) == e)
 (k [(D.val (Go.Value.bool true))])
 ((Says C 20 [(D.agg [D.nil, (D.val (Go.Value.int Go.IntKind.i64 (a))), (D.val (Go.Value.int Go.IntKind.i64 (b))), (D.val (Go.Value.int Go.IntKind.i64 (c))), (D.val (Go.Value.int Go.IntKind.i64 (d))), (D.val (Go.Value.int Go.IntKind.i64 (e)))])] [(D.agg [(D.sl 0 2 []), (D.val (Go.Value.int Go.IntKind.i64 (a))), (D.val (Go.Value.int Go.IntKind.i64 (b))), (D.val (Go.Value.int Go.IntKind.i64 (c))), (D.val (Go.Value.int Go.IntKind.i64 (d))), (D.val (Go.Value.int Go.IntKind.i64 (e)))])]) ∧
 (∃ n11 : Int,
 (∃ n12 : Int,
 (∃ n13 : Int,
 ((Says C 22 [(D.agg [(D.sl 0 2 []), (D.val (Go.Value.int Go.IntKind.i64 (a))), (D.val (Go.Value.int Go.IntKind.i64 (b))), (D.val (Go.Value.int Go.IntKind.i64 (c))), (D.val (Go.Value.int Go.IntKind.i64 (d))), (D.val (Go.Value.int Go.IntKind.i64 (e)))]), (D.agg [(D.val (Go.Value.int Go.IntKind.i64 (0 : Int))), (D.val (Go.Value.int Go.IntKind.i64 (Int.tmod u (Go.IntKind.wrap Go.IntKind.i64 (e + 1)))))]), (D.val (Go.Value.int Go.IntKind.i64 (Go.IntKind.wrap Go.IntKind.i64 (x + Go.IntKind.wrap Go.IntKind.i64 (Int.tmod z (Go.IntKind.wrap Go.IntKind.i64 (Go.IntKind.wrap Go.IntKind.i64 (y - x) + 1)) + Go.IntKind.wrap Go.IntKind.i64 (Go.IntKind.wrap Go.IntKind.i64 (y - x) + 1))))))] [(D.agg [(D.val (Go.Value.int Go.IntKind.i64 (n11))), (D.val (Go.Value.int Go.IntKind.i64 (n12)))]), (D.val (Go.Value.int Go.IntKind.i64 (n13)))]) ∧
 ((Says C 20 [(D.agg [D.nil, (D.val (Go.Value.int Go.IntKind.i64 (a))), (D.val (Go.Value.int Go.IntKind.i64 (b))), (D.val (Go.Value.int Go.IntKind.i64 (c))), (D.val (Go.Value.int Go.IntKind.i64 (d))), (D.val (Go.Value.int Go.IntKind.i64 (e)))])] [(D.agg [(D.sl 0 2 []), (D.val (Go.Value.int Go.IntKind.i64 (a))), (D.val (Go.Value.int Go.IntKind.i64 (b))), (D.val (Go.Value.int Go.IntKind.i64 (c))), (D.val (Go.Value.int Go.IntKind.i64 (d))), (D.val (Go.Value.int Go.IntKind.i64 (e)))])]) ∧
 (∃ n14 : Int,
 (∃ n15 : Int,
 (∃ n16 : Int,
 ((Says C 22 [(D.agg [(D.sl 0 2 []), (D.val (Go.Value.int Go.IntKind.i64 (a))), (D.val (Go.Value.int Go.IntKind.i64 (b))), (D.val (Go.Value.int Go.IntKind.i64 (c))), (D.val (Go.Value.int Go.IntKind.i64 (d))), (D.val (Go.Value.int Go.IntKind.i64 (e)))]), (D.agg [(D.val (Go.Value.int Go.IntKind.i64 (0 : Int))), (D.val (Go.Value.int Go.IntKind.i64 (Go.IntKind.wrap Go.IntKind.i64 (Int.tmod u (Go.IntKind.wrap Go.IntKind.i64 (e + 1)) + 1))))]), (D.val (Go.Value.int Go.IntKind.i64 (Go.IntKind.wrap Go.IntKind.i64 (x + Go.IntKind.wrap Go.IntKind.i64 (Int.tmod z (Go.IntKind.wrap Go.IntKind.i64 (Go.IntKind.wrap Go.IntKind.i64 (y - x) + 1)) + Go.IntKind.wrap Go.IntKind.i64 (Go.IntKind.wrap Go.IntKind.i64 (y - x) + 1))))))] [(D.agg [(D.val (Go.Value.int Go.IntKind.i64 (n14))), (D.val (Go.Value.int Go.IntKind.i64 (n15)))]), (D.val (Go.Value.int Go.IntKind.i64 (n16)))]) ∧
 (bcase (n13 != 0)
 (bcase (n13 == 0)
 (bcase (n16 == 0)
 (k [(D.val (Go.Value.bool true))])
 (bcase (n16 == 8)
 (bcase (if Bool.false = Bool.true then !(n14 == 0 && (n15 == 0 && Bool.true)) else n14 == 0 && (n15 == 0 && Bool.true))
 (k [(D.val (Go.Value.bool true))])
 (k [(D.val (Go.Value.bool false))]))
 (k [(D.val (Go.Value.bool false))])))
 (bcase (n13 == 8)
 (bcase (if Bool.false = Bool.true then !(n11 == 0 && (n12 == 0 && Bool.true)) else n11 == 0 && (n12 == 0 && Bool.true))
 (bcase (n16 == 0)
 (k [(D.val (Go.Value.bool true))])
 (bcase (n16 == 8)
 (bcase (if Bool.false = Bool.true then !(n14 == 0 && (n15 == 0 && Bool.true)) else n14 == 0 && (n15 == 0 && Bool.true))
 (k [(D.val (Go.Value.bool true))])
 (k [(D.val (Go.Value.bool false))]))
 (k [(D.val (Go.Value.bool false))])))
 (k [(D.val (Go.Value.bool false))]))
 (k [(D.val (Go.Value.bool false))])))
 (bcase (n16 != 0)
 (bcase (n13 == 0)
 (bcase (n16 == 0)
 (k [(D.val (Go.Value.bool true))])
 (bcase (n16 == 8)
 (bcase (if Bool.false = Bool.true then !(n14 == 0 && (n15 == 0 && Bool.true)) else n14 == 0 && (n15 == 0 && Bool.true))
 (k [(D.val (Go.Value.bool true))])
 (k [(D.val (Go.Value.bool false))]))
 (k [(D.val (Go.Value.bool false))])))
 (bcase (n13 == 8)
 (bcase (if Bool.false = Bool.true then !(n11 == 0 && (n12 == 0 && Bool.true)) else n11 == 0 && (n12 == 0 && Bool.true))
 (bcase (n16 == 0)
 (k [(D.val (Go.Value.bool true))])
 (bcase (n16 == 8)
 (bcase (if Bool.false = Bool.true then !(n14 == 0 && (n15 == 0 && Bool.true)) else n14 == 0 && (n15 == 0 && Bool.true))
 (k [(D.val (Go.Value.bool true))])
 (k [(D.val (Go.Value.bool false))]))
 (k [(D.val (Go.Value.bool false))])))
 (k [(D.val (Go.Value.bool false))]))
 (k [(D.val (Go.Value.bool false))])))
 (((Says C 30 [(D.agg [(D.val (Go.Value.int Go.IntKind.i64 (n11))), (D.val (Go.Value.int Go.IntKind.i64 (n12)))])] [(D.val (Go.Value.bool true))]) ∧
 (((Says C 31 [(D.agg [(D.val (Go.Value.int Go.IntKind.i64 (n11))), (D.val (Go.Value.int Go.IntKind.i64 (n12)))])] [(D.val (Go.Value.bool true))]) ∧
 (((Says C 30 [(D.agg [(D.val (Go.Value.int Go.IntKind.i64 (n14))), (D.val (Go.Value.int Go.IntKind.i64 (n15)))])] [(D.val (Go.Value.bool true))]) ∧
 (((Says C 31 [(D.agg [(D.val (Go.Value.int Go.IntKind.i64 (n14))), (D.val (Go.Value.int Go.IntKind.i64 (n15)))])] [(D.val (Go.Value.bool true))]) ∧
 (∃ n17 : Int,
 ((Says C 32 [(D.agg [(D.val (Go.Value.int Go.IntKind.i64 (n11))), (D.val (Go.Value.int Go.IntKind.i64 (n12)))]), (D.agg [(D.val (Go.Value.int Go.IntKind.i64 (n14))), (D.val (Go.Value.int Go.IntKind.i64 (n15)))])] [(D.val (Go.Value.int Go.IntKind.i64 (n17)))]) ∧
 (bcase (decide (n17 < 0))
 (k [(D.val (Go.Value.bool true))])
 (k [(D.val (Go.Value.bool false))]))))) ∨
 ((Says C 31 [(D.agg [(D.val (Go.Value.int Go.IntKind.i64 (n14))), (D.val (Go.Value.int Go.IntKind.i64 (n15)))])] [(D.val (Go.Value.bool false))]) ∧
 (k [(D.val (Go.Value.bool false))])))) ∨
 ((Says C 30 [(D.agg [(D.val (Go.Value.int Go.IntKind.i64 (n14))), (D.val (Go.Value.int Go.IntKind.i64 (n15)))])] [(D.val (Go.Value.bool false))]) ∧
 (k [(D.val (Go.Value.bool false))])))) ∨
 ((Says C 31 [(D.agg [(D.val (Go.Value.int Go.IntKind.i64 (n11))), (D.val (Go.Value.int Go.IntKind.i64 (n12)))])] [(D.val (Go.Value.bool false))]) ∧
 (k [(D.val (Go.Value.bool false))])))) ∨
 ((Says C 30 [(D.agg [(D.val (Go.Value.int Go.IntKind.i64 (n11))), (D.val (Go.Value.int Go.IntKind.i64 (n12)))])] [(D.val (Go.Value.bool false))]) ∧
 (k [(D.val (Go.Value.bool false))])))))))))))))))))
 False)
 (k [(D.val (Go.Value.bool false))]))
 (k [(D.val (Go.Value.bool false))]))
 (k [(D.val (Go.Value.bool false))]))
 (k [(D.val (Go.Value.bool false))]))
 (k [(D.val (Go.Value.bool false))]))
 (k [(D.val (Go.Value.bool false))]))))))))))))))))
 ((((Go.Value.int Go.IntKind.i64 (Go.IntKind.wrap Go.IntKind.i64 (x + Int.tmod z (Go.IntKind.wrap Go.IntKind.i64 (Go.IntKind.wrap Go.IntKind.i64 (y - x) + 1))))) = (Go.Value.int Go.IntKind.i64 (Go.IntKind.wrap Go.IntKind.i64 (x + Int.tmod z (Go.IntKind.wrap Go.IntKind.i64 (Go.IntKind.wrap Go.IntKind.i64 (y - x) + 1)))))) ∧
 (((Go.Value.int Go.IntKind.i64 (Go.IntKind.wrap Go.IntKind.i64 (y - x))) = (Go.Value.int Go.IntKind.i64 (Go.IntKind.wrap Go.IntKind.i64 (y - x)))) ∧
 (((Go.Value.int Go.IntKind.i64 (x)) = (Go.Value.int Go.IntKind.i64 (x))) ∧
 (((Go.Value.pointer (Option.some (Go.Addr.mk 1001 0 Option.none))) = (Go.Value.pointer (Option.some (Go.Addr.mk 1001 0 Option.none)))) ∧
 (((Go.Value.int Go.IntKind.i64 (y)) = (Go.Value.int Go.IntKind.i64 (y))) ∧
 (((Go.Value.pointer (Option.some (Go.Addr.mk 1001 1 Option.none))) = (Go.Value.pointer (Option.some (Go.Addr.mk 1001 1 Option.none)))) ∧
 (((Go.Value.pointer (Option.some (Go.Addr.mk 1002 0 Option.none))) = (Go.Value.pointer (Option.some (Go.Addr.mk 1002 0 Option.none)))) ∧
 (((Go.Value.int Go.IntKind.i64 (x)) = (Go.Value.int Go.IntKind.i64 (x))) ∧
 (((Go.Value.pointer (Option.some (Go.Addr.mk 1001 0 Option.none))) = (Go.Value.pointer (Option.some (Go.Addr.mk 1001 0 Option.none)))) ∧
 True))))))))) ∧
 (True ∧
 ((Says C 11 [D.nil] [(D.sl 0 2 [])]) ∧
 (∃ n6 : Int,
 (∃ n7 : Int,
 ((Says C 12 [(D.sl 0 2 []), (D.val (Go.Value.int Go.IntKind.i64 (Go.IntKind.wrap Go.IntKind.i64 (x + Int.tmod z (Go.IntKind.wrap Go.IntKind.i64 (Go.IntKind.wrap Go.IntKind.i64 (y - x) + 1))))))] [(D.val (Go.Value.int Go.IntKind.i64 (n6))), (D.val (Go.Value.int Go.IntKind.i64 (n7)))]) ∧
 ((Says C 11 [D.nil] [(D.sl 0 2 [])]) ∧
 (∃ n8 : Int,
 (∃ n9 : Int,
 (∃ n10 : Int,
 ((Says C 13 [(D.sl 0 2 []), (D.agg [(D.val (Go.Value.int Go.IntKind.i64 (0 : Int))), (D.val (Go.Value.int Go.IntKind.i64 (20000 : Int)))])] [(D.agg [(D.val (Go.Value.int Go.IntKind.i64 (n8))), (D.val (Go.Value.int Go.IntKind.i64 (n9)))]), (D.val (Go.Value.int Go.IntKind.i64 (n10)))]) ∧
 (bcase (n5 != 0)
 (k [(D.val (Go.Value.bool false))])
 (bcase (n7 != 0)
 (k [(D.val (Go.Value.bool false))])
 (bcase (n10 != 0)
 (k [(D.val (Go.Value.bool false))])
 (bcase (decide (n3 ≤ n6))
 (bcase (decide (n6 ≤ n4))
 (bcase (decide (n8 ≤ n3))
 (bcase (decide (n3 ≤ n4))
 (bcase (decide (n3 ≤ n4))
 (bcase (decide (n4 ≤ n9))
 (bcase (Go.IntKind.wrap Go.IntKind.i64 (e + 1) != 0)
 (bcase (decide (Int.tmod u (Go.IntKind.wrap Go.IntKind.i64 (e + 1)) < 0))
 (bcase (Go.IntKind.wrap Go.IntKind.i64 (Int.tmod u (Go.IntKind.wrap Go.IntKind.i64 (e + 1)) + Go.IntKind.wrap Go.IntKind.i64 (e + 1)) == e)
 (k [(D.val (Go.Value.bool true))])
 ((Says C 20 [(D.agg [D.nil, (D.val (Go.Value.int Go.IntKind.i64 (a))), (D.val (Go.Value.int Go.IntKind.i64 (b))), (D.val (Go.Value.int Go.IntKind.i64 (c))), (D.val (Go.Value.int Go.IntKind.i64 (d))), (D.val (Go.Value.int Go.IntKind.i64 (e)))])] [(D.agg [(D.sl 0 2 []), (D.val (Go.Value.int Go.IntKind.i64 (a))), (D.val (Go.Value.int Go.IntKind.i64 (b))), (D.val (Go.Value.int Go.IntKind.i64 (c))), (D.val (Go.Value.int Go.IntKind.i64 (d))), (D.val (Go.Value.int Go.IntKind.i64 (e)))])]) ∧
 (∃ n11 : Int,
 (∃ n12 : Int,
 (∃ n13 : Int,
 ((Says C 22 [(D.agg [(D.sl 0 2 []), (D.val (Go.Value.int Go.IntKind.i64 (a))), (D.val (Go.Value.int Go.IntKind.i64 (b))), (D.val (Go.Value.int Go.IntKind.i64 (c))), (D.val (Go.Value.int Go.IntKind.i64 (d))), (D.val (Go.Value.int Go.IntKind.i64 (e)))]), (D.agg [(D.val (Go.Value.int Go.IntKind.i64 (0 : Int))), (D.val (Go.Value.int Go.IntKind.i64 (Go.IntKind.wrap Go.IntKind.i64 (Int.tmod u (Go.IntKind.wrap Go.IntKind.i64 (e + 1)) + Go.IntKind.wrap Go.IntKind.i64 (e + 1)))))]), (D.val (Go.Value.int Go.IntKind.i64 (Go.IntKind.wrap Go.IntKind.i64 (x + Int.tmod z (Go.IntKind.wrap Go.IntKind.i64 (Go.IntKind.wrap Go.IntKind.i64 (y - x) + 1))))))] [(D.agg [(D.val (Go.Value.int Go.IntKind.i64 (n11))), (D.val (Go.Value.int Go.IntKind.i64 (n12)))]), (D.val (Go.Value.int Go.IntKind.i64 (n13)))]) ∧
 ((Says C 20 [(D.agg [D.nil, (D.val (Go.Value.int Go.IntKind.i64 (a))), (D.val (Go.Value.int Go.IntKind.i64 (b))), (D.val (Go.Value.int Go.IntKind.i64 (c))), (D.val (Go.Value.int Go.IntKind.i64 (d))), (D.val (Go.Value.int Go.IntKind.i64 (e)))])] [(D.agg [(D.sl 0 2 []), (D.val (Go.Value.int Go.IntKind.i64 (a))), (D.val (Go.Value.int Go.IntKind.i64 (b))), (D.val (Go.Value.int Go.IntKind.i64 (c))), (D.val (Go.Value.int Go.IntKind.i64 (d))), (D.val (Go.Value.int Go.IntKind.i64 (e)))])]) ∧
 (∃ n14 : Int,
 (∃ n15 : Int,
 (∃ n16 : Int,
 ((Says C 22 [(D.agg [(D.sl 0 2 []), (D.val (Go.Value.int Go.IntKind.i64 (a))), (D.val (Go.Value.int Go.IntKind.i64 (b))), (D.val (Go.Value.int Go.IntKind.i64 (c))), (D.val (Go.Value.int Go.IntKind.i64 (d))), (D.val (Go.Value.int Go.IntKind.i64 (e)))]), (D.agg [(D.val (Go.Value.int Go.IntKind.i64 (0 : Int))), (D.val (Go.Value.int Go.IntKind.i64 (Go.IntKind.wrap Go.IntKind.i64 (Go.IntKind.wrap Go.IntKind.i64 (Int.tmod u (Go.IntKind.wrap Go.IntKind.i64 (e + 1)) + Go.IntKind.wrap Go.IntKind.i64 (e + 1)) + 1))))]), (D.val (Go.Value.int Go.IntKind.i64 (Go.IntKind.wrap Go.IntKind.i64 (x + Int.tmod z (Go.IntKind.wrap Go.IntKind.i64 (Go.IntKind.wrap Go.IntKind.i64 (y - x) + 1))))))] [(D.agg [(D.val (Go.Value.int Go.IntKind.i64 (n14))), (D.val (Go.Value.int Go.IntKind.i64 (n15)))]), (D.val (Go.Value.int Go.IntKind.i64 (n16)))]) ∧
 (bcase (n13 != 0)
 (bcase (n13 == 0)
 (bcase (n16 == 0)
 (k [(D.val (Go.Value.bool true))])
 (bcase (n16 == 8)
 (bcase (if Bool.false = Bool.true then !(n14 == 0 && (n15 == 0 && Bool.true)) else n14 == 0 && (n15 == 0 && Bool.true))
 (k [(D.val (Go.Value.bool true))])
 (k [(D.val (Go.Value.bool false))]))
 (k [(D.val (Go.Value.bool false))])))
 (bcase (n13 == 8)
 (bcase (if Bool.false = Bool.true then !(n11 == 0 && (n12 == 0 && Bool.true)) else n11 == 0 && (n12 == 0 && Bool.true))
 (bcase (n16 == 0)
 (k [(D.val (Go.Value.bool true))])
 (bcase (n16 == 8)
 (bcase (if Bool.false = Bool.true then !(n14 == 0 && (n15 == 0 && Bool.true)) else n14 == 0 && (n15 == 0 && Bool.true))
 (k [(D.val (Go.Value.bool true))])
 (k [(D.val (Go.Value.bool false))]))
 (k [(D.val (Go.Value.bool false))])))
 (k [(D.val (Go.Value.bool false))]))
 (k [(D.val (Go.Value.bool false))])))
 (bcase (n16 != 0)
 (bcase (n13 == 0)
 (bcase (n16 == 0)
 (k [(D.val (Go.Value.bool true))])
 (bcase (n16 == 8)
 (bcase (if Bool.false = Bool.true then !(n14 == 0 && (n15 == 0 && Bool.true)) else n14 == 0 && (n15 == 0 && Bool.true))
 (k [(D.val (Go.Value.bool true))])
 (k [(D.val (Go.Value.bool false))]))
 (k [(D.val (Go.Value.bool false))])))
 (bcase (n13 == 8)
 (bcase (if Bool.false = Bool.true then !(n11 == 0 && (n12 == 0 && Bool.true)) else n11 == 0 && (n12 == 0 && Bool.true))
 (bcase (n16 == 0)
 (k [(D.val (Go.Value.bool true))])
 (bcase (n16 == 8)
 (bcase (if Bool.false = Bool.true then !(n14 == 0 && (n15 == 0 && Bool.true)) else n14 == 0 && (n15 == 0 && Bool.true))
 (k [(D.val (Go.Value.bool true))])
 (k [(D.val (Go.Value.bool false))]))
 (k [(D.val (Go.Value.bool false))])))
 (k [(D.val (Go.Value.bool false))]))
 (k [(D.val (Go.Value.bool false))])))
 (((Says C 30 [(D.agg [(D.val (Go.Value.int Go.IntKind.i64 (n11))), (D.val (Go.Value.int Go.IntKind.i64 (n12)))])] [(D.val (Go.Value.bool true))]) ∧
 (((Says C 31 [(D.agg [(D.val (Go.Value.int Go.IntKind.i64 (n11))), (D.val (Go.Value.int Go.IntKind.i64 (n12)))])] [(D.val (Go.Value.bool true))]) ∧
 (((Says C 30 [(D.agg [(D.val (Go.Value.int Go.IntKind.i64 (n14))), (D.val (Go.Value.int Go.IntKind.i64 (n15)))])] [(D.val (Go.Value.bool true))]) ∧
 (((Says C 31 [(D.agg [(D.val (Go.Value.int Go.IntKind.i64 (n14))), (D.val (Go.Value.int Go.IntKind.i64 (n15)))])] [(D.val (Go.Value.bool true))]) ∧
 (∃ n17 : Int,
 ((Says C 32 [(D.agg [(D.val (Go.Value.int Go.IntKind.i64 (n11))), (D.val (Go.Value.int Go.IntKind.i64 (n12)))]), (D.agg [(D.val (Go.Value.int Go.IntKind.i64 (n14))), (D.val (Go.Value.int Go.IntKind.i64 (n15)))])] [(D.val (Go.Value.int Go.IntKind.i64 (n17)))]) ∧
 (bcase (decide (n17 < 0))
 (k [(D.val (Go.Value.bool true))])
 (k [(D.val (Go.Value.bool false))]))))) ∨
 ((Says C 31 [(D.agg [(D.val (Go.Value.int Go.IntKind.i64 (n14))), (D.val (Go.Value.int Go.IntKind.i64 (n15)))])] [(D.val (Go.Value.bool false))]) ∧
 (k [(D.val (Go.Value.bool false))])))) ∨
 ((Says C 30 [(D.agg [(D.val (Go.Value.int Go.IntKind.i64 (n14))), (D.val (Go.Value.int Go.IntKind.i64 (n15)))])] [(D.val (Go.Value.bool false))]) ∧
 (k [(D.val (Go.Value.bool false))])))) ∨
 ((Says C 31 [(D.agg [(D.val (Go.Value.int Go.IntKind.i64 (n11))), (D.val (Go.Value.int Go.IntKind.i64 (n12)))])] [(D.val (Go.Value.bool false))]) ∧
 (k [(D.val (Go.Value.bool false))])))) ∨
 ((Says C 30 [(D.agg [(D.val (Go.Value.int Go.IntKind.i64 (n11))), (D.val (Go.Value.int Go.IntKind.i64 (n12)))])] [(D.val (Go.Value.bool false))]) ∧
 (k [(D.val (Go.Value.bool false))]))))))))))))))))
 (bcase (Int.tmod u (Go.IntKind.wrap Go.IntKind.i64 (e + 1)) == e)
 (k [(D.val (Go.Value.bool true))])
 ((Says C 20 [(D.agg [D.nil, (D.val (Go.Value.int Go.IntKind.i64 (a))), (D.val (Go.Value.int Go.IntKind.i64 (b))), (D.val (Go.Value.int Go.IntKind.i64 (c))), (D.val (Go.Value.int Go.IntKind.i64 (d))), (D.val (Go.Value.int Go.IntKind.i64 (e)))])] [(D.agg [(D.sl 0 2 []), (D.val (Go.Value.int Go.IntKind.i64 (a))), (D.val (Go.Value.int Go.IntKind.i64 (b))), (D.val (Go.Value.int Go.IntKind.i64 (c))), (D.val (Go.Value.int Go.IntKind.i64 (d))), (D.val (Go.Value.int Go.IntKind.i64 (e)))])]) ∧
 (∃ n11 : Int,
 (∃ n12 : Int,
 (∃ n13 : Int,
 ((Says C 22 [(D.agg [(D.sl 0 2 []), (D.val (Go.Value.int Go.IntKind.i64 (a))), (D.val (Go.Value.int Go.IntKind.i64 (b))), (D.val (Go.Value.int Go.IntKind.i64 (c))), (D.val (Go.Value.int Go.IntKind.i64 (d))), (D.val (Go.Value.int Go.IntKind.i64 (e)))]), (D.agg [(D.val (Go.Value.int Go.IntKind.i64 (0 : Int))), (D.val (Go.Value.int Go.IntKind.i64 (Int.tmod u (Go.IntKind.wrap Go.IntKind.i64 (e + 1)))))]), (D.val (Go.Value.int Go.IntKind.i64 (Go.IntKind.wrap Go.IntKind.i64 (x + Int.tmod z (Go.IntKind.wrap Go.IntKind.i64 (Go.IntKind.wrap Go.IntKind.i64 (y - x) + 1))))))] [(D.agg [(D.val (Go.Value.int Go.IntKind.i64 (n11))), (D.val (Go.Value.int Go.IntKind.i64 (n12)))]), (D.val (Go.Value.int Go.IntKind.i64 (n13)))]) ∧
 ((Says C 20 [(D.agg [D.nil, (D.val (Go.Value.int Go.IntKind.i64 (a))), (D.val (Go.Value.int Go.IntKind.i64 (b))), (D.val (Go.Value.int Go.IntKind.i64 (c))), (D.val (Go.Value.int Go.IntKind.i64 (d))), (D.val (Go.Value.int Go.IntKind.i64 (e)))])] [(D.agg [(D.sl 0 2 []), (D.val (Go.Value.int Go.IntKind.i64 (a))), (D.val (Go.Value.int Go.IntKind.i64 (b))), (D.val (Go.Value.int Go.IntKind.i64 (c))), (D.val (Go.Value.int Go.IntKind.i64 (d))), (D.val (Go.Value.int Go.IntKind.i64 (e)))])]) ∧
 (∃ n14 : Int,
 (∃ n15 : Int,
 (∃ n16 : Int,
 ((Says C 22 [(D.agg [(D.sl 0 2 []), (D.val (Go.Value.int Go.IntKind.i64 (a))), (D.val (Go.Value.int Go.IntKind.i64 (b))), (D.val (Go.Value.int Go.IntKind.i64 (c))), (D.val (Go.Value.int Go.IntKind.i64 (d))), (D.val (Go.Value.int Go.IntKind.i64 (e)))]), (D.agg [(D.val (Go.Value.int Go.IntKind.i64 (0 : Int))), (D.val (Go.Value.int Go.IntKind.i64 (Go.IntKind.wrap Go.IntKind.i64 (Int.tmod u (Go.IntKind.wrap Go.IntKind.i64 (e + 1)) + 1))))]), (D.val (Go.Value.int Go.IntKind.i64 (Go.IntKind.wrap Go.IntKind.i64 (x + Int.tmod z (Go.IntKind.wrap Go.IntKind.i64 (Go.IntKind.wrap Go.IntKind.i64 (y - x) + 1))))))] [(D.agg [(D.val (Go.Value.int Go.IntKind.i64 (n14))), (D.val (Go.Value.int Go.IntKind.i64 (n15)))]), (D.val (Go.Value.int Go.IntKind.i64 (n16)))]) ∧
 (bcase (n13 != 0)
 (bcase (n13 == 0)
 (bcase (n16 == 0)
 (k [(D.val (Go.Value.bool true))])
 (bcase (n16 == 8)
 (bcase (if Bool.false = Bool.true then !(n14 == 0 && (n15 == 0 && Bool.true)) else n14 == 0 && (n15 == 0 && Bool.true))
 (k [(D.val (Go.Value.bool true))])
 (k [(D.val (Go.Value.bool false))]))
 (k [(D.val (Go.Value.bool false))])))
 (bcase (n13 == 8)
 (bcase (if Bool.false = Bool.true then !(n11 == 0 && (n12 == 0 && Bool.true)) else n11 == 0 && (n12 == 0 && Bool.true))
 (bcase (n16 == 0)
 (k [(D.val (Go.Value.bool true))])
 (bcase (n16 == 8)
 (bcase (if Bool.false = Bool.true then !(n14 == 0 && (n15 == 0 && Bool.true)) else n14 == 0 && (n15 == 0 && Bool.true))
 (k [(D.val (Go.Value.bool true))])
 (k [(D.val (Go.Value.bool false))]))
 (k [(D.val (Go.Value.bool false))])))
 (k [(D.val (Go.Value.bool false))]))
 (k [(D.val (Go.Value.bool false))])))
 (bcase (n16 != 0)
 (bcase (n13 == 0)
 (bcase (n16 == 0)
 (k [(D.val (Go.Value.bool true))])
 (bcase (n16 == 8)
 (bcase (if Bool.false = Bool.true then !(n14 == 0 && (n15 == 0 && Bool.true)) else n14 == 0 && (n15 == 0 && Bool.true))
 (k [(D.val (Go.Value.bool true))])
 (k [(D.val (Go.Value.bool false))]))
 (k [(D.val (Go.Value.bool false))])))
 (bcase (n13 == 8)
 (bcase (if Bool.false = Bool.true then !(n11 == 0 && (n12 == 0 && Bool.true)) else n11 == 0 && (n12 == 0 && Bool.true))
 (bcase (n16 == 0)
 (k [(D.val (Go.Value.bool true))])
 (bcase (n16 == 8)
 (bcase (if Bool.false = Bool.true then !(n14 == 0 && (n15 == 0 && Bool.true)) else n14 == 0 && (n15 == 0 && Bool.true))
 (k [(D.val (Go.Value.bool true))])
 (k [(D.val (Go.Value.bool false))]))
 (k [(D.val (Go.Value.bool false))])))
 (k [(D.val (Go.Value.bool false))]))
 (k [(D.val (Go.Value.bool false))])))
 (((Says C 30 [(D.agg [(D.val (Go.Value.int Go.IntKind.i64 (n11))), (D.val (Go.Value.int Go.IntKind.i64 (n12)))])] [(D.val (Go.Value.bool true))]) ∧
 (((Says C 31 [(D.agg [(D.val (Go.Value.int Go.IntKind.i64 (n11))), (D.val (Go.Value.int Go.IntKind.i64 (n12)))])] [(D.val (Go.Value.bool true))]) ∧
 (((Says C 30 [(D.agg [(D.val (Go.Value.int Go.IntKind.i64 (n14))), (D.val (Go.Value.int Go.IntKind.i64 (n15)))])] [(D.val (Go.Value.bool true))]) ∧
 (((Says C 31 [(D.agg [(D.val (Go.Value.int Go.IntKind.i64 (n14))), (D.val (Go.Value.int Go.IntKind.i64 (n15)))])] [(D.val (Go.Value.bool true))]) ∧
 (∃ n17 : Int,
 ((Says C 32 [(D.agg [(D.val (Go.Value.int Go.IntKind.i64 (n11))), (D.val (Go.Value.int Go.IntKind.i64 (n12)))]), (D.agg [(D.val (Go.Value.int Go.IntKind.i64 (n14))), (D.val (Go.Value.int Go.IntKind.i64 (n15)))])] [(D.val (Go.Value.int Go.IntKind.i64 (n17)))]) ∧
 (bcase (decide (n17 < 0))
 (k [(D.val (Go.Value.bool true))])
 (k [(D.val (Go.Value.bool false))]))))) ∨
 ((Says C 31 [(D.agg [(D.val (Go.Value.int Go.IntKind.i64 (n14))), (D.val (Go.Value.int Go.IntKind.i64 (n15)))])] [(D.val (Go.Value.bool false))]) ∧
 (k [(D.val (Go.Value.bool false))])))) ∨
 ((Says C 30 [(D.agg [(D.val (Go.Value.int Go.IntKind.i64 (n14))), (D.val (Go.Value.int Go.IntKind.i64 (n15)))])] [(D.val (Go.Value.bool false))]) ∧
 (k [(D.val (Go.Value.bool false))])))) ∨
 ((Says C 31 [(D.agg [(D.val (Go.Value.int Go.IntKind.i64 (n11))), (D.val (Go.Value.int Go.IntKind.i64 (n12)))])] [(D.val (Go.Value.bool false))]) ∧
 (k [(D.val (Go.Value.bool false))])))) ∨
 ((Says C 30 [(D.agg [(D.val (Go.Value.int Go.IntKind.i64 (n11))), (D.val (Go.Value.int Go.IntKind.i64 (n12)))])] [(D.val (Go.Value.bool false))]) ∧
 (k [(D.val (Go.Value.bool false))])))))))))))))))))
 False)
 (k [(D.val (Go.Value.bool false))]))
 (k [(D.val (Go.Value.bool false))]))
 (k [(D.val (Go.Value.bool false))]))
 (k [(D.val (Go.Value.bool false))]))
 (k [(D.val (Go.Value.bool false))]))
 (k [(D.val (Go.Value.bool false))])))))))))))))))))
 False)))))))))))))
 (k [(D.val (Go.Value.bool true))]))
 (k [(D.val (Go.Value.bool true))]))
 (k [(D.val (Go.Value.bool true))]))
 (k [(D.val (Go.Value.bool true))]))))))) ∨
 ((Says C 9 [] [(D.val (Go.Value.bool false))]) ∧
 (k [(D.val (Go.Value.bool false))]))) := by kernel_rfl
def g23n (C : Ct) (L : AtLoop) (a b c d e : Int) (k : List D → Prop) : Prop := wpFn Try.prog (hM C) L 0 23 #[vR (.slice none 0 0) a b c d e] (heapOf []) (dataK k)
theorem g23n_text (C : Ct) (L : AtLoop) (a : Int) (b : Int) (c : Int) (d : Int) (e : Int) (k : List D → Prop) : g23n C L a b c d e k =
 (∃ n1 : Int,
 (∃ n2 : Int,
 ((Says C 14 [D.nil] [(D.val (Go.Value.int Go.IntKind.i64 (n1))), (D.val (Go.Value.int Go.IntKind.i64 (n2)))]) ∧
 (bcase (n2 != 0)
 (k [(D.val (Go.Value.int Go.IntKind.i64 (n1))), (D.val (Go.Value.int Go.IntKind.i64 (n2)))])
 (((Says C 30 [(D.agg [(D.val (Go.Value.int Go.IntKind.i64 (a))), (D.val (Go.Value.int Go.IntKind.i64 (b)))])] [(D.val (Go.Value.bool true))]) ∧
 (((Says C 30 [(D.agg [(D.val (Go.Value.int Go.IntKind.i64 (c))), (D.val (Go.Value.int Go.IntKind.i64 (d)))])] [(D.val (Go.Value.bool true))]) ∧
 (bcase (decide (1 ≤ a))
 (bcase (decide (a ≤ 900))
 (bcase (decide (b ≤ 900))
 (bcase (decide (1 ≤ c))
 (bcase (decide (c ≤ 900))
 (bcase (decide (d ≤ 900))
 (bcase (decide (0 ≤ e))
 (bcase (decide (e ≤ 900))
 (k [(D.val (Go.Value.int Go.IntKind.i64 (0 : Int))), (D.val (Go.Value.int Go.IntKind.i64 (0 : Int)))])
 (k [(D.val (Go.Value.int Go.IntKind.i64 (0 : Int))), (D.val (Go.Value.int Go.IntKind.i64 (2 : Int)))]))
 (k [(D.val (Go.Value.int Go.IntKind.i64 (0 : Int))), (D.val (Go.Value.int Go.IntKind.i64 (2 : Int)))]))
 (k [(D.val (Go.Value.int Go.IntKind.i64 (0 : Int))), (D.val (Go.Value.int Go.IntKind.i64 (2 : Int)))]))
 (k [(D.val (Go.Value.int Go.IntKind.i64 (0 : Int))), (D.val (Go.Value.int Go.IntKind.i64 (2 : Int)))]))
 (k [(D.val (Go.Value.int Go.IntKind.i64 (0 : Int))), (D.val (Go.Value.int Go.IntKind.i64 (2 : Int)))]))
 (k [(D.val (Go.Value.int Go.IntKind.i64 (0 : Int))), (D.val (Go.Value.int Go.IntKind.i64 (2 : Int)))]))
 (k [(D.val (Go.Value.int Go.IntKind.i64 (0 : Int))), (D.val (Go.Value.int Go.IntKind.i64 (2 : Int)))]))
 (k [(D.val (Go.Value.int Go.IntKind.i64 (0 : Int))), (D.val (Go.Value.int Go.IntKind.i64 (2 : Int)))]))) ∨
 ((Says C 30 [(D.agg [(D.val (Go.Value.int Go.IntKind.i64 (c))), (D.val (Go.Value.int Go.IntKind.i64 (d)))])] [(D.val (Go.Value.bool false))]) ∧
 (k [(D.val (Go.Value.int Go.IntKind.i64 (0 : Int))), (D.val (Go.Value.int Go.IntKind.i64 (3 : Int)))])))) ∨
 ((Says C 30 [(D.agg [(D.val (Go.Value.int Go.IntKind.i64 (a))), (D.val (Go.Value.int Go.IntKind.i64 (b)))])] [(D.val (Go.Value.bool false))]) ∧
 (k [(D.val (Go.Value.int Go.IntKind.i64 (0 : Int))), (D.val (Go.Value.int Go.IntKind.i64 (3 : Int)))]))))))) := by kernel_rfl
def g20n (C : Ct) (L : AtLoop) (a b c d e : Int) (k : List D → Prop) : Prop := wpFn Try.prog (hM C) L 0 20 #[vR (.slice none 0 0) a b c d e] (heapOf []) (dataK k)
theorem g20n_text (C : Ct) (L : AtLoop) (a : Int) (b : Int) (c : Int) (d : Int) (e : Int) (k : List D → Prop) : g20n C L a b c d e k =
 ((Says C 11 [D.nil] [(D.sl 0 2 [])]) ∧
 (((0 = 0) ∧
 (0 = 0)) ∧
 (k [(D.agg [(D.sl 0 2 []), (D.val (Go.Value.int Go.IntKind.i64 (a))), (D.val (Go.Value.int Go.IntKind.i64 (b))), (D.val (Go.Value.int Go.IntKind.i64 (c))), (D.val (Go.Value.int Go.IntKind.i64 (d))), (D.val (Go.Value.int Go.IntKind.i64 (e)))])]))) := by kernel_rfl
end Go.Proofs.M4
