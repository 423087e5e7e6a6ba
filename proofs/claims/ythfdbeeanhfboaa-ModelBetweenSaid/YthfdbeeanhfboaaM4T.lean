/- What is left to show of each function, written out; the kernel reckons it. -/
import Derived.Test.YthfdbeeanhfboaaP3
import Derived.Test.YthfdbeeanhfboaaProg
import Derived.KernelRfl
namespace Go.Proofs.M4
open Go Go.Abs Go.Proofs
set_option maxRecDepth 100000
set_option linter.unusedVariables false
abbrev Ct := FuncId → List D → List D → Prop
def copyPairs : List D → Option (List D) := fun ds => match ds with | [.nil] => some [.sl 0 2 []] | [.sl n es cs] => some [.sl n es cs] | _ => none
def copyRules : List D → Option (List D) := fun ds => match ds with | [.agg (.nil :: r)] => some [.agg (.sl 0 2 [] :: r)] | [.agg (.sl n es cs :: r)] => some [.agg (.sl n es cs :: r)] | _ => none
def preM (C : Ct) : FuncId → Option Handler := fun g => if g == 87 then some (stateH (limAll 3)) else if g == 11 then some (fixH C copyPairs) else if g == 20 then some (fixH C copyRules) else if [9, 10, 12, 13, 14, 16, 17, 19, 21, 22, 23, 25, 26, 30, 31, 32, 44, 45, 54, 55, 57, 59, 60, 61, 62, 65, 66, 69, 70, 88].contains g then some (saidH Try.prog C) else none
abbrev hM (C : Ct) : Handler := handlerX Try.prog (preM C) 8 6
abbrev Bx := Slots → Blocks → Prop
abbrev Xx := Nat → Slots → Blocks → Prop
abbrev S500 (n cap : Nat) : Value := .slice (some ⟨500, 0, none⟩) n cap
abbrev T500 (l : List Value) : Nat × AObj := (500, .sym l false 2)
abbrev Q500 (l : List Value) : Nat × AObj := (500, .sym l false 1)
abbrev vI (n : Int) : Value := .int .i64 n
abbrev vP (a b : Int) : Value := .agg #[vI a, vI b]
abbrev vR (s : Value) (a b c d e : Int) : Value := .agg #[s, vI a, vI b, vI c, vI d, vI e]
def g10 (C : Ct) (L : AtLoop) (n cap : Nat) (l : List Value) (k : List D → Prop) : Prop := wpFn Try.prog (hM C) L 0 10 #[S500 n cap] (heapOf [T500 l]) (dataK k)
theorem g10_text (C : Ct) (L : AtLoop) (n : Nat) (cap : Nat) (l : List Go.Value) (k : List D → Prop) : g10 C L n cap l k =
 (bcase ((↑n : Int) == 0)
 (k [(D.val (Go.Value.int Go.IntKind.i64 (0 : Int))), (D.val (Go.Value.int Go.IntKind.i64 (10 : Int)))])
 (bcase (decide ((↑n : Int) > 12))
 (k [(D.val (Go.Value.int Go.IntKind.i64 (0 : Int))), (D.val (Go.Value.int Go.IntKind.i64 (8 : Int)))])
 (L 0 [(Prod.mk 0 (Go.Value.slice (Option.some (Go.Addr.mk 500 0 Option.none)) (n) (cap))), (Prod.mk 14 (Go.Value.slice (Option.some (Go.Addr.mk 500 0 Option.none)) (n) (cap))), (Prod.mk 15 (Go.Value.int Go.IntKind.i64 ((↑n : Int)))), (Prod.mk 16 (Go.Value.int Go.IntKind.i64 (0 : Int)))] [(Prod.mk 500 (AObj.sym (l) false 2))]))) := by kernel_rfl
def g10n (C : Ct) (L : AtLoop) (k : List D → Prop) : Prop := wpFn Try.prog (hM C) L 0 10 #[.slice none 0 0] (heapOf []) (dataK k)
theorem g10n_text (C : Ct) (L : AtLoop) (k : List D → Prop) : g10n C L k =
 (k [(D.val (Go.Value.int Go.IntKind.i64 (0 : Int))), (D.val (Go.Value.int Go.IntKind.i64 (10 : Int)))]) := by kernel_rfl
def g14 (C : Ct) (L : AtLoop) (n cap : Nat) (l : List Value) (k : List D → Prop) : Prop := wpFn Try.prog (hM C) L 0 14 #[S500 n cap] (heapOf [T500 l]) (dataK k)
theorem g14_text (C : Ct) (L : AtLoop) (n : Nat) (cap : Nat) (l : List Go.Value) (k : List D → Prop) : g14 C L n cap l k =
 (bcase ((↑n : Int) == 0)
 (k [(D.val (Go.Value.int Go.IntKind.i64 (0 : Int))), (D.val (Go.Value.int Go.IntKind.i64 (10 : Int)))])
 (bcase (decide ((↑n : Int) > 12))
 (k [(D.val (Go.Value.int Go.IntKind.i64 (0 : Int))), (D.val (Go.Value.int Go.IntKind.i64 (8 : Int)))])
 (L 0 [(Prod.mk 0 (Go.Value.slice (Option.some (Go.Addr.mk 500 0 Option.none)) (n) (cap))), (Prod.mk 4 (Go.Value.int Go.IntKind.i64 (0 : Int)))] [(Prod.mk 500 (AObj.sym (l) false 2))]))) := by kernel_rfl
def g14n (C : Ct) (L : AtLoop) (k : List D → Prop) : Prop := wpFn Try.prog (hM C) L 0 14 #[.slice none 0 0] (heapOf []) (dataK k)
theorem g14n_text (C : Ct) (L : AtLoop) (k : List D → Prop) : g14n C L k =
 (k [(D.val (Go.Value.int Go.IntKind.i64 (0 : Int))), (D.val (Go.Value.int Go.IntKind.i64 (10 : Int)))]) := by kernel_rfl
def g11 (C : Ct) (L : AtLoop) (n cap : Nat) (l : List Value) (k : List D → Prop) : Prop := wpFn Try.prog (hM C) L 0 11 #[S500 n cap] (heapOf [T500 l]) (dataK k)
theorem g11_text (C : Ct) (L : AtLoop) (n : Nat) (cap : Nat) (l : List Go.Value) (k : List D → Prop) : g11 C L n cap l k =
 (bcase (decide (0 + n * 2 ≤ List.length l))
 (bcase (n == 0)
 (((0 = 0) ∧
 (0 = 0)) ∧
 (k [(D.sl 0 2 [])]))
 (bcase (decide (0 < 0 + n))
 (bcase (decide ((2 * (0 + n) + 768) * 16 ≤ 281474976710656))
 (bcase (decide (0 + n ≤ 1099511627776))
 ((((0 + n) = (0 + n)) ∧
 ((List.length (List.take 0 (List.drop 0 []) ++ List.take (n * 2) (List.drop 0 l))) = ((0 + n) * 2))) ∧
 (k [(D.sl (0 + n) 2 ([] ++ (List.take (n * 2) (List.drop 0 l))))]))
 False)
 False)
 False))
 False) := by kernel_rfl
def g11n (C : Ct) (L : AtLoop) (k : List D → Prop) : Prop := wpFn Try.prog (hM C) L 0 11 #[.slice none 0 0] (heapOf []) (dataK k)
theorem g11n_text (C : Ct) (L : AtLoop) (k : List D → Prop) : g11n C L k =
 (((0 = 0) ∧
 (0 = 0)) ∧
 (k [(D.sl 0 2 [])])) := by kernel_rfl
def g57 (C : Ct) (L : AtLoop) (n cap : Nat) (l : List Value) (x : Int) (k : List D → Prop) : Prop := wpFn Try.prog (hM C) L 0 57 #[S500 n cap, vI x] (heapOf [T500 l]) (dataK k)
theorem g57_text (C : Ct) (L : AtLoop) (n : Nat) (cap : Nat) (l : List Go.Value) (x : Int) (k : List D → Prop) : g57 C L n cap l x k =
 (L 0 [(Prod.mk 0 (Go.Value.slice (Option.some (Go.Addr.mk 500 0 Option.none)) (n) (cap))), (Prod.mk 1 (Go.Value.int Go.IntKind.i64 (x))), (Prod.mk 5 (Go.Value.int Go.IntKind.i64 (0 : Int)))] [(Prod.mk 500 (AObj.sym (l) false 2))]) := by kernel_rfl
def g16 (C : Ct) (L : AtLoop) (n cap : Nat) (l : List Value) (x : Int) (k : List D → Prop) : Prop := wpFn Try.prog (hM C) L 0 16 #[S500 n cap, vI x] (heapOf [T500 l]) (dataK k)
theorem g16_text (C : Ct) (L : AtLoop) (n : Nat) (cap : Nat) (l : List Go.Value) (x : Int) (k : List D → Prop) : g16 C L n cap l x k =
 (bcase (decide (0 < (↑n : Int)))
 (∃ n1 : Int,
 ((At (l) 0 1 [(Go.Value.int Go.IntKind.i64 (n1))]) ∧
 (bcase (decide (x ≤ n1))
 (bcase (decide (0 < (↑n : Int)))
 (∃ n2 : Int,
 ((At (l) 1 1 [(Go.Value.int Go.IntKind.i64 (n2))]) ∧
 (k [(D.val (Go.Value.int Go.IntKind.i64 (n2)))])))
 False)
 (L 0 [(Prod.mk 0 (Go.Value.slice (Option.some (Go.Addr.mk 500 0 Option.none)) (n) (cap))), (Prod.mk 1 (Go.Value.int Go.IntKind.i64 (x))), (Prod.mk 5 (Go.Value.int Go.IntKind.i64 (1 : Int)))] [(Prod.mk 500 (AObj.sym (l) false 2))]))))
 False) := by kernel_rfl
def g12 (C : Ct) (L : AtLoop) (n cap : Nat) (l : List Value) (x : Int) (k : List D → Prop) : Prop := wpFn Try.prog (hM C) L 0 12 #[S500 n cap, vI x] (heapOf [T500 l]) (dataK k)
theorem g12_text (C : Ct) (L : AtLoop) (n : Nat) (cap : Nat) (l : List Go.Value) (x : Int) (k : List D → Prop) : g12 C L n cap l x k =
 (bcase (decide (0 + n * 2 ≤ List.length l))
 (∃ n1 : Int,
 (∃ n2 : Int,
 ((Says C 10 [(D.sl (n) 2 (List.take (n * 2) (List.drop 0 l)))] [(D.val (Go.Value.int Go.IntKind.i64 (n1))), (D.val (Go.Value.int Go.IntKind.i64 (n2)))]) ∧
 (∃ n3 : Int,
 ((Says C 55 [(D.sl 1 1 [(Go.Value.int Go.IntKind.i64 (x))])] [(D.val (Go.Value.int Go.IntKind.i64 (n3)))]) ∧
 (∃ n4 : Int,
 ((Says C 54 [(D.sl 2 1 [(Go.Value.int Go.IntKind.i64 (n2)), (Go.Value.int Go.IntKind.i64 (n3))])] [(D.val (Go.Value.int Go.IntKind.i64 (n4)))]) ∧
 (bcase (n4 != 0)
 (k [(D.val (Go.Value.int Go.IntKind.i64 (0 : Int))), (D.val (Go.Value.int Go.IntKind.i64 (n4)))])
 (bcase (decide (0 + n * 2 ≤ List.length l))
 (∃ n5 : Int,
 ((Says C 57 [(D.sl (n) 2 (List.take (n * 2) (List.drop 0 l))), (D.val (Go.Value.int Go.IntKind.i64 (x)))] [(D.val (Go.Value.int Go.IntKind.i64 (n5)))]) ∧
 (k [(D.val (Go.Value.int Go.IntKind.i64 (n5))), (D.val (Go.Value.int Go.IntKind.i64 (0 : Int)))])))
 False)))))))))
 False) := by kernel_rfl
def g13 (C : Ct) (L : AtLoop) (n cap : Nat) (l : List Value) (x y : Int) (k : List D → Prop) : Prop := wpFn Try.prog (hM C) L 0 13 #[S500 n cap, vP x y] (heapOf [T500 l]) (dataK k)
theorem g13_text (C : Ct) (L : AtLoop) (n : Nat) (cap : Nat) (l : List Go.Value) (x : Int) (y : Int) (k : List D → Prop) : g13 C L n cap l x y k =
 (bcase (decide (0 + n * 2 ≤ List.length l))
 (∃ n1 : Int,
 (∃ n2 : Int,
 ((Says C 10 [(D.sl (n) 2 (List.take (n * 2) (List.drop 0 l)))] [(D.val (Go.Value.int Go.IntKind.i64 (n1))), (D.val (Go.Value.int Go.IntKind.i64 (n2)))]) ∧
 (((((Go.Value.slice (Option.some (Go.Addr.mk 1003 0 Option.none)) 1 1) = (Go.Value.slice (Option.some (Go.Addr.mk 1003 0 Option.none)) 1 1)) ∧
 ((Option.some (AObj.cells [(Go.Value.int Go.IntKind.i64 (x)), (Go.Value.int Go.IntKind.i64 (y))] 24 false 2)) = (Option.some (AObj.cells [(Go.Value.int Go.IntKind.i64 (x)), (Go.Value.int Go.IntKind.i64 (y))] 24 false 2)))) ∧
 (((Go.Value.agg [(Go.Value.int Go.IntKind.i64 (x)), (Go.Value.int Go.IntKind.i64 (y))].toArray) = (Go.Value.agg [(Go.Value.int Go.IntKind.i64 (x)), (Go.Value.int Go.IntKind.i64 (y))].toArray)) ∧
 ((((Go.Value.slice (Option.some (Go.Addr.mk 1002 0 Option.none)) 2 2) = (Go.Value.slice (Option.some (Go.Addr.mk 1002 0 Option.none)) 2 2)) ∧
 ((Option.some (AObj.cells [(Go.Value.int Go.IntKind.i64 (x)), (Go.Value.int Go.IntKind.i64 (y))] 3 false 1)) = (Option.some (AObj.cells [(Go.Value.int Go.IntKind.i64 (x)), (Go.Value.int Go.IntKind.i64 (y))] 3 false 1)))) ∧
 (((Go.Value.int Go.IntKind.i64 (y)) = (Go.Value.int Go.IntKind.i64 (y))) ∧
 (((Go.Value.pointer (Option.some (Go.Addr.mk 1000 1 Option.none))) = (Go.Value.pointer (Option.some (Go.Addr.mk 1000 1 Option.none)))) ∧
 (((Go.Value.int Go.IntKind.i64 (x)) = (Go.Value.int Go.IntKind.i64 (x))) ∧
 (((Go.Value.pointer (Option.some (Go.Addr.mk 1000 0 Option.none))) = (Go.Value.pointer (Option.some (Go.Addr.mk 1000 0 Option.none)))) ∧
 (((Go.Value.int Go.IntKind.i64 (n2)) = (Go.Value.int Go.IntKind.i64 (n2))) ∧
 True)))))))) ∧
 (∃ n3 : Int,
 ((Says C 55 [(D.sl 2 1 [(Go.Value.int Go.IntKind.i64 (x)), (Go.Value.int Go.IntKind.i64 (y))])] [(D.val (Go.Value.int Go.IntKind.i64 (n3)))]) ∧
 (((((Go.Value.slice (Option.some (Go.Addr.mk 1003 0 Option.none)) 1 1) = (Go.Value.slice (Option.some (Go.Addr.mk 1003 0 Option.none)) 1 1)) ∧
 ((Option.some (AObj.cells [(Go.Value.int Go.IntKind.i64 (x)), (Go.Value.int Go.IntKind.i64 (y))] 24 false 2)) = (Option.some (AObj.cells [(Go.Value.int Go.IntKind.i64 (x)), (Go.Value.int Go.IntKind.i64 (y))] 24 false 2)))) ∧
 (((Go.Value.agg [(Go.Value.int Go.IntKind.i64 (x)), (Go.Value.int Go.IntKind.i64 (y))].toArray) = (Go.Value.agg [(Go.Value.int Go.IntKind.i64 (x)), (Go.Value.int Go.IntKind.i64 (y))].toArray)) ∧
 (((Go.Value.int Go.IntKind.i64 (y)) = (Go.Value.int Go.IntKind.i64 (y))) ∧
 (((Go.Value.pointer (Option.some (Go.Addr.mk 1000 1 Option.none))) = (Go.Value.pointer (Option.some (Go.Addr.mk 1000 1 Option.none)))) ∧
 (((Go.Value.int Go.IntKind.i64 (x)) = (Go.Value.int Go.IntKind.i64 (x))) ∧
 (((Go.Value.pointer (Option.some (Go.Addr.mk 1000 0 Option.none))) = (Go.Value.pointer (Option.some (Go.Addr.mk 1000 0 Option.none)))) ∧
 (((Go.Value.int Go.IntKind.i64 (n2)) = (Go.Value.int Go.IntKind.i64 (n2))) ∧
 True))))))) ∧
 (bcase (decide (x > y))
 (((((Go.Value.slice (Option.some (Go.Addr.mk 1005 0 Option.none)) 3 3) = (Go.Value.slice (Option.some (Go.Addr.mk 1005 0 Option.none)) 3 3)) ∧
 ((Option.some (AObj.cells [(Go.Value.int Go.IntKind.i64 (n2)), (Go.Value.int Go.IntKind.i64 (n3)), (Go.Value.int Go.IntKind.i64 (9 : Int))] 26 false 1)) = (Option.some (AObj.cells [(Go.Value.int Go.IntKind.i64 (n2)), (Go.Value.int Go.IntKind.i64 (n3)), (Go.Value.int Go.IntKind.i64 (9 : Int))] 26 false 1)))) ∧
 (((Go.Value.agg [(Go.Value.int Go.IntKind.i64 (x)), (Go.Value.int Go.IntKind.i64 (y))].toArray) = (Go.Value.agg [(Go.Value.int Go.IntKind.i64 (x)), (Go.Value.int Go.IntKind.i64 (y))].toArray)) ∧
 (((Go.Value.int Go.IntKind.i64 (y)) = (Go.Value.int Go.IntKind.i64 (y))) ∧
 (((Go.Value.pointer (Option.some (Go.Addr.mk 1000 1 Option.none))) = (Go.Value.pointer (Option.some (Go.Addr.mk 1000 1 Option.none)))) ∧
 (((Go.Value.int Go.IntKind.i64 (x)) = (Go.Value.int Go.IntKind.i64 (x))) ∧
 (((Go.Value.pointer (Option.some (Go.Addr.mk 1000 0 Option.none))) = (Go.Value.pointer (Option.some (Go.Addr.mk 1000 0 Option.none)))) ∧
 (((Go.Value.int Go.IntKind.i64 (n2)) = (Go.Value.int Go.IntKind.i64 (n2))) ∧
 True))))))) ∧
 (∃ n4 : Int,
 ((Says C 54 [(D.sl 3 1 [(Go.Value.int Go.IntKind.i64 (n2)), (Go.Value.int Go.IntKind.i64 (n3)), (Go.Value.int Go.IntKind.i64 (9 : Int))])] [(D.val (Go.Value.int Go.IntKind.i64 (n4)))]) ∧
 ((((Go.Value.agg [(Go.Value.int Go.IntKind.i64 (x)), (Go.Value.int Go.IntKind.i64 (y))].toArray) = (Go.Value.agg [(Go.Value.int Go.IntKind.i64 (x)), (Go.Value.int Go.IntKind.i64 (y))].toArray)) ∧
 (((Go.Value.int Go.IntKind.i64 (y)) = (Go.Value.int Go.IntKind.i64 (y))) ∧
 (((Go.Value.pointer (Option.some (Go.Addr.mk 1000 1 Option.none))) = (Go.Value.pointer (Option.some (Go.Addr.mk 1000 1 Option.none)))) ∧
 (((Go.Value.int Go.IntKind.i64 (x)) = (Go.Value.int Go.IntKind.i64 (x))) ∧
 (((Go.Value.pointer (Option.some (Go.Addr.mk 1000 0 Option.none))) = (Go.Value.pointer (Option.some (Go.Addr.mk 1000 0 Option.none)))) ∧
 (((Go.Value.int Go.IntKind.i64 (n2)) = (Go.Value.int Go.IntKind.i64 (n2))) ∧
 True)))))) ∧
 (True ∧
 (bcase (n4 != 0)
 (k [(D.agg [(D.val (Go.Value.int Go.IntKind.i64 (0 : Int))), (D.val (Go.Value.int Go.IntKind.i64 (0 : Int)))]), (D.val (Go.Value.int Go.IntKind.i64 (n4)))])
 ((((Go.Value.int Go.IntKind.i64 (y)) = (Go.Value.int Go.IntKind.i64 (y))) ∧
 (((Go.Value.pointer (Option.some (Go.Addr.mk 1000 1 Option.none))) = (Go.Value.pointer (Option.some (Go.Addr.mk 1000 1 Option.none)))) ∧
 (((Go.Value.slice (Option.some (Go.Addr.mk 500 0 Option.none)) (n) (cap)) = (Go.Value.slice (Option.some (Go.Addr.mk 500 0 Option.none)) (n) (cap))) ∧
 (((Go.Value.int Go.IntKind.i64 (x)) = (Go.Value.int Go.IntKind.i64 (x))) ∧
 (((Go.Value.pointer (Option.some (Go.Addr.mk 1000 0 Option.none))) = (Go.Value.pointer (Option.some (Go.Addr.mk 1000 0 Option.none)))) ∧
 (((Go.Value.slice (Option.some (Go.Addr.mk 500 0 Option.none)) (n) (cap)) = (Go.Value.slice (Option.some (Go.Addr.mk 500 0 Option.none)) (n) (cap))) ∧
 True)))))) ∧
 (bcase (decide (0 + n * 2 ≤ List.length l))
 (∃ n5 : Int,
 ((Says C 57 [(D.sl (n) 2 (List.take (n * 2) (List.drop 0 l))), (D.val (Go.Value.int Go.IntKind.i64 (x)))] [(D.val (Go.Value.int Go.IntKind.i64 (n5)))]) ∧
 ((((Go.Value.int Go.IntKind.i64 (y)) = (Go.Value.int Go.IntKind.i64 (y))) ∧
 (((Go.Value.pointer (Option.some (Go.Addr.mk 1000 1 Option.none))) = (Go.Value.pointer (Option.some (Go.Addr.mk 1000 1 Option.none)))) ∧
 (((Go.Value.slice (Option.some (Go.Addr.mk 500 0 Option.none)) (n) (cap)) = (Go.Value.slice (Option.some (Go.Addr.mk 500 0 Option.none)) (n) (cap))) ∧
 (((Go.Value.pointer (Option.some (Go.Addr.mk 1000 0 Option.none))) = (Go.Value.pointer (Option.some (Go.Addr.mk 1000 0 Option.none)))) ∧
 True)))) ∧
 (bcase (decide (0 + n * 2 ≤ List.length l))
 (∃ n6 : Int,
 ((Says C 57 [(D.sl (n) 2 (List.take (n * 2) (List.drop 0 l))), (D.val (Go.Value.int Go.IntKind.i64 (y)))] [(D.val (Go.Value.int Go.IntKind.i64 (n6)))]) ∧
 (((((Go.Value.slice (Option.some (Go.Addr.mk 1006 0 Option.none)) 2 2) = (Go.Value.slice (Option.some (Go.Addr.mk 1006 0 Option.none)) 2 2)) ∧
 ((Option.some (AObj.cells [(Go.Value.int Go.IntKind.i64 (n5)), (Go.Value.int Go.IntKind.i64 (n6))] 3 false 1)) = (Option.some (AObj.cells [(Go.Value.int Go.IntKind.i64 (n5)), (Go.Value.int Go.IntKind.i64 (n6))] 3 false 1)))) ∧
 (((Go.Value.pointer (Option.some (Go.Addr.mk 1000 1 Option.none))) = (Go.Value.pointer (Option.some (Go.Addr.mk 1000 1 Option.none)))) ∧
 (((Go.Value.pointer (Option.some (Go.Addr.mk 1000 0 Option.none))) = (Go.Value.pointer (Option.some (Go.Addr.mk 1000 0 Option.none)))) ∧
 True))) ∧
 (True ∧
 (L 0 [(Prod.mk 3 (Go.Value.pointer (Option.some (Go.Addr.mk 1000 0 Option.none)))), (Prod.mk 4 (Go.Value.pointer (Option.some (Go.Addr.mk 1001 0 Option.none)))), (Prod.mk 9 (Go.Value.slice (Option.some (Go.Addr.mk 1002 0 Option.none)) 2 2)), (Prod.mk 42 (Go.Value.slice (Option.some (Go.Addr.mk 500 0 Option.none)) (n) (cap))), (Prod.mk 43 (Go.Value.int Go.IntKind.i64 ((↑n : Int)))), (Prod.mk 44 (Go.Value.int Go.IntKind.i64 (0 : Int)))] [(Prod.mk 1000 (AObj.cells [(Go.Value.int Go.IntKind.i64 (x)), (Go.Value.int Go.IntKind.i64 (y))] 24 false 1)), (Prod.mk 1001 (AObj.cells [(Go.Value.int Go.IntKind.i64 (0 : Int)), (Go.Value.int Go.IntKind.i64 (0 : Int))] 24 false 2)), (Prod.mk 1002 (AObj.cells [(Go.Value.int Go.IntKind.i64 (n5)), (Go.Value.int Go.IntKind.i64 (n6))] 3 false 1)), (Prod.mk 500 (AObj.sym (l) false 2))])))))
 False))))
 False))))))))
 (((((Go.Value.slice (Option.some (Go.Addr.mk 1005 0 Option.none)) 3 3) = (Go.Value.slice (Option.some (Go.Addr.mk 1005 0 Option.none)) 3 3)) ∧
 ((Option.some (AObj.cells [(Go.Value.int Go.IntKind.i64 (n2)), (Go.Value.int Go.IntKind.i64 (n3)), (Go.Value.int Go.IntKind.i64 (0 : Int))] 26 false 1)) = (Option.some (AObj.cells [(Go.Value.int Go.IntKind.i64 (n2)), (Go.Value.int Go.IntKind.i64 (n3)), (Go.Value.int Go.IntKind.i64 (0 : Int))] 26 false 1)))) ∧
 (((Go.Value.agg [(Go.Value.int Go.IntKind.i64 (x)), (Go.Value.int Go.IntKind.i64 (y))].toArray) = (Go.Value.agg [(Go.Value.int Go.IntKind.i64 (x)), (Go.Value.int Go.IntKind.i64 (y))].toArray)) ∧
 (((Go.Value.int Go.IntKind.i64 (y)) = (Go.Value.int Go.IntKind.i64 (y))) ∧
 (((Go.Value.pointer (Option.some (Go.Addr.mk 1000 1 Option.none))) = (Go.Value.pointer (Option.some (Go.Addr.mk 1000 1 Option.none)))) ∧
 (((Go.Value.int Go.IntKind.i64 (x)) = (Go.Value.int Go.IntKind.i64 (x))) ∧
 (((Go.Value.pointer (Option.some (Go.Addr.mk 1000 0 Option.none))) = (Go.Value.pointer (Option.some (Go.Addr.mk 1000 0 Option.none)))) ∧
 (((Go.Value.int Go.IntKind.i64 (n2)) = (Go.Value.int Go.IntKind.i64 (n2))) ∧
 True))))))) ∧
 (∃ n4 : Int,
 ((Says C 54 [(D.sl 3 1 [(Go.Value.int Go.IntKind.i64 (n2)), (Go.Value.int Go.IntKind.i64 (n3)), (Go.Value.int Go.IntKind.i64 (0 : Int))])] [(D.val (Go.Value.int Go.IntKind.i64 (n4)))]) ∧
 ((((Go.Value.agg [(Go.Value.int Go.IntKind.i64 (x)), (Go.Value.int Go.IntKind.i64 (y))].toArray) = (Go.Value.agg [(Go.Value.int Go.IntKind.i64 (x)), (Go.Value.int Go.IntKind.i64 (y))].toArray)) ∧
 (((Go.Value.int Go.IntKind.i64 (y)) = (Go.Value.int Go.IntKind.i64 (y))) ∧
 (((Go.Value.pointer (Option.some (Go.Addr.mk 1000 1 Option.none))) = (Go.Value.pointer (Option.some (Go.Addr.mk 1000 1 Option.none)))) ∧
 (((Go.Value.int Go.IntKind.i64 (x)) = (Go.Value.int Go.IntKind.i64 (x))) ∧
 (((Go.Value.pointer (Option.some (Go.Addr.mk 1000 0 Option.none))) = (Go.Value.pointer (Option.some (Go.Addr.mk 1000 0 Option.none)))) ∧
 (((Go.Value.int Go.IntKind.i64 (n2)) = (Go.Value.int Go.IntKind.i64 (n2))) ∧
 True)))))) ∧
 (True ∧
 (bcase (n4 != 0)
 (k [(D.agg [(D.val (Go.Value.int Go.IntKind.i64 (0 : Int))), (D.val (Go.Value.int Go.IntKind.i64 (0 : Int)))]), (D.val (Go.Value.int Go.IntKind.i64 (n4)))])
 ((((Go.Value.int Go.IntKind.i64 (y)) = (Go.Value.int Go.IntKind.i64 (y))) ∧
 (((Go.Value.pointer (Option.some (Go.Addr.mk 1000 1 Option.none))) = (Go.Value.pointer (Option.some (Go.Addr.mk 1000 1 Option.none)))) ∧
 (((Go.Value.slice (Option.some (Go.Addr.mk 500 0 Option.none)) (n) (cap)) = (Go.Value.slice (Option.some (Go.Addr.mk 500 0 Option.none)) (n) (cap))) ∧
 (((Go.Value.int Go.IntKind.i64 (x)) = (Go.Value.int Go.IntKind.i64 (x))) ∧
 (((Go.Value.pointer (Option.some (Go.Addr.mk 1000 0 Option.none))) = (Go.Value.pointer (Option.some (Go.Addr.mk 1000 0 Option.none)))) ∧
 (((Go.Value.slice (Option.some (Go.Addr.mk 500 0 Option.none)) (n) (cap)) = (Go.Value.slice (Option.some (Go.Addr.mk 500 0 Option.none)) (n) (cap))) ∧
 True)))))) ∧
 (bcase (decide (0 + n * 2 ≤ List.length l))
 (∃ n5 : Int,
 ((Says C 57 [(D.sl (n) 2 (List.take (n * 2) (List.drop 0 l))), (D.val (Go.Value.int Go.IntKind.i64 (x)))] [(D.val (Go.Value.int Go.IntKind.i64 (n5)))]) ∧
 ((((Go.Value.int Go.IntKind.i64 (y)) = (Go.Value.int Go.IntKind.i64 (y))) ∧
 (((Go.Value.pointer (Option.some (Go.Addr.mk 1000 1 Option.none))) = (Go.Value.pointer (Option.some (Go.Addr.mk 1000 1 Option.none)))) ∧
 (((Go.Value.slice (Option.some (Go.Addr.mk 500 0 Option.none)) (n) (cap)) = (Go.Value.slice (Option.some (Go.Addr.mk 500 0 Option.none)) (n) (cap))) ∧
 (((Go.Value.pointer (Option.some (Go.Addr.mk 1000 0 Option.none))) = (Go.Value.pointer (Option.some (Go.Addr.mk 1000 0 Option.none)))) ∧
 True)))) ∧
 (bcase (decide (0 + n * 2 ≤ List.length l))
 (∃ n6 : Int,
 ((Says C 57 [(D.sl (n) 2 (List.take (n * 2) (List.drop 0 l))), (D.val (Go.Value.int Go.IntKind.i64 (y)))] [(D.val (Go.Value.int Go.IntKind.i64 (n6)))]) ∧
 (((((Go.Value.slice (Option.some (Go.Addr.mk 1006 0 Option.none)) 2 2) = (Go.Value.slice (Option.some (Go.Addr.mk 1006 0 Option.none)) 2 2)) ∧
 ((Option.some (AObj.cells [(Go.Value.int Go.IntKind.i64 (n5)), (Go.Value.int Go.IntKind.i64 (n6))] 3 false 1)) = (Option.some (AObj.cells [(Go.Value.int Go.IntKind.i64 (n5)), (Go.Value.int Go.IntKind.i64 (n6))] 3 false 1)))) ∧
 (((Go.Value.pointer (Option.some (Go.Addr.mk 1000 1 Option.none))) = (Go.Value.pointer (Option.some (Go.Addr.mk 1000 1 Option.none)))) ∧
 (((Go.Value.pointer (Option.some (Go.Addr.mk 1000 0 Option.none))) = (Go.Value.pointer (Option.some (Go.Addr.mk 1000 0 Option.none)))) ∧
 True))) ∧
 (True ∧
 (L 0 [(Prod.mk 3 (Go.Value.pointer (Option.some (Go.Addr.mk 1000 0 Option.none)))), (Prod.mk 4 (Go.Value.pointer (Option.some (Go.Addr.mk 1001 0 Option.none)))), (Prod.mk 9 (Go.Value.slice (Option.some (Go.Addr.mk 1002 0 Option.none)) 2 2)), (Prod.mk 42 (Go.Value.slice (Option.some (Go.Addr.mk 500 0 Option.none)) (n) (cap))), (Prod.mk 43 (Go.Value.int Go.IntKind.i64 ((↑n : Int)))), (Prod.mk 44 (Go.Value.int Go.IntKind.i64 (0 : Int)))] [(Prod.mk 1000 (AObj.cells [(Go.Value.int Go.IntKind.i64 (x)), (Go.Value.int Go.IntKind.i64 (y))] 24 false 1)), (Prod.mk 1001 (AObj.cells [(Go.Value.int Go.IntKind.i64 (0 : Int)), (Go.Value.int Go.IntKind.i64 (0 : Int))] 24 false 2)), (Prod.mk 1002 (AObj.cells [(Go.Value.int Go.IntKind.i64 (n5)), (Go.Value.int Go.IntKind.i64 (n6))] 3 false 1)), (Prod.mk 500 (AObj.sym (l) false 2))])))))
 False))))
 False))))))))))))))))
 False) := by kernel_rfl
def g17 (C : Ct) (L : AtLoop) (n cap : Nat) (l : List Value) (x y : Int) (k : List D → Prop) : Prop := wpFn Try.prog (hM C) L 0 17 #[S500 n cap, vP x y] (heapOf [T500 l]) (dataK k)
theorem g17_text (C : Ct) (L : AtLoop) (n : Nat) (cap : Nat) (l : List Go.Value) (x : Int) (y : Int) (k : List D → Prop) : g17 C L n cap l x y k =
 ((((Go.Value.int Go.IntKind.i64 (y)) = (Go.Value.int Go.IntKind.i64 (y))) ∧
 (((Go.Value.pointer (Option.some (Go.Addr.mk 1000 1 Option.none))) = (Go.Value.pointer (Option.some (Go.Addr.mk 1000 1 Option.none)))) ∧
 (((Go.Value.slice (Option.some (Go.Addr.mk 500 0 Option.none)) (n) (cap)) = (Go.Value.slice (Option.some (Go.Addr.mk 500 0 Option.none)) (n) (cap))) ∧
 (((Go.Value.int Go.IntKind.i64 (x)) = (Go.Value.int Go.IntKind.i64 (x))) ∧
 (((Go.Value.pointer (Option.some (Go.Addr.mk 1000 0 Option.none))) = (Go.Value.pointer (Option.some (Go.Addr.mk 1000 0 Option.none)))) ∧
 (((Go.Value.slice (Option.some (Go.Addr.mk 500 0 Option.none)) (n) (cap)) = (Go.Value.slice (Option.some (Go.Addr.mk 500 0 Option.none)) (n) (cap))) ∧
 True)))))) ∧
 (bcase (decide (0 + n * 2 ≤ List.length l))
 (∃ n1 : Int,
 ((Says C 16 [(D.sl (n) 2 (List.take (n * 2) (List.drop 0 l))), (D.val (Go.Value.int Go.IntKind.i64 (x)))] [(D.val (Go.Value.int Go.IntKind.i64 (n1)))]) ∧
 ((((Go.Value.int Go.IntKind.i64 (y)) = (Go.Value.int Go.IntKind.i64 (y))) ∧
 (((Go.Value.pointer (Option.some (Go.Addr.mk 1000 1 Option.none))) = (Go.Value.pointer (Option.some (Go.Addr.mk 1000 1 Option.none)))) ∧
 (((Go.Value.slice (Option.some (Go.Addr.mk 500 0 Option.none)) (n) (cap)) = (Go.Value.slice (Option.some (Go.Addr.mk 500 0 Option.none)) (n) (cap))) ∧
 (((Go.Value.pointer (Option.some (Go.Addr.mk 1000 0 Option.none))) = (Go.Value.pointer (Option.some (Go.Addr.mk 1000 0 Option.none)))) ∧
 True)))) ∧
 (bcase (decide (0 + n * 2 ≤ List.length l))
 (∃ n2 : Int,
 ((Says C 16 [(D.sl (n) 2 (List.take (n * 2) (List.drop 0 l))), (D.val (Go.Value.int Go.IntKind.i64 (y)))] [(D.val (Go.Value.int Go.IntKind.i64 (n2)))]) ∧
 ((((Go.Value.pointer (Option.some (Go.Addr.mk 1000 1 Option.none))) = (Go.Value.pointer (Option.some (Go.Addr.mk 1000 1 Option.none)))) ∧
 (((Go.Value.pointer (Option.some (Go.Addr.mk 1000 0 Option.none))) = (Go.Value.pointer (Option.some (Go.Addr.mk 1000 0 Option.none)))) ∧
 True)) ∧
 ((((Go.Value.pointer (Option.some (Go.Addr.mk 1000 1 Option.none))) = (Go.Value.pointer (Option.some (Go.Addr.mk 1000 1 Option.none)))) ∧
 True) ∧
 (True ∧
 (L 0 [(Prod.mk 0 (Go.Value.slice (Option.some (Go.Addr.mk 500 0 Option.none)) (n) (cap))), (Prod.mk 3 (Go.Value.pointer (Option.some (Go.Addr.mk 1000 0 Option.none)))), (Prod.mk 4 (Go.Value.pointer (Option.some (Go.Addr.mk 1001 0 Option.none)))), (Prod.mk 7 (Go.Value.pointer (Option.some (Go.Addr.mk 1002 0 Option.none)))), (Prod.mk 8 (Go.Value.int Go.IntKind.i64 (0 : Int)))] [(Prod.mk 500 (AObj.sym (l) false 2)), (Prod.mk 1000 (AObj.cells [(Go.Value.int Go.IntKind.i64 (x)), (Go.Value.int Go.IntKind.i64 (y))] 24 false 1)), (Prod.mk 1001 (AObj.cells [(Go.Value.int Go.IntKind.i64 (0 : Int)), (Go.Value.int Go.IntKind.i64 (0 : Int))] 24 false 2)), (Prod.mk 1002 (AObj.cells [(Go.Value.int Go.IntKind.i64 (if n2 < n1 then n2 else n1)), (Go.Value.int Go.IntKind.i64 (if n2 > n1 then n2 else n1))] 24 false 2))]))))))
 False))))
 False)) := by kernel_rfl
def g54 (C : Ct) (L : AtLoop) (n cap : Nat) (l : List Value) (k : List D → Prop) : Prop := wpFn Try.prog (hM C) L 0 54 #[S500 n cap] (heapOf [Q500 l]) (dataK k)
theorem g54_text (C : Ct) (L : AtLoop) (n : Nat) (cap : Nat) (l : List Go.Value) (k : List D → Prop) : g54 C L n cap l k =
 (L 0 [(Prod.mk 5 (Go.Value.slice (Option.some (Go.Addr.mk 500 0 Option.none)) (n) (cap))), (Prod.mk 6 (Go.Value.int Go.IntKind.i64 ((↑n : Int)))), (Prod.mk 7 (Go.Value.int Go.IntKind.i64 (0 : Int)))] [(Prod.mk 500 (AObj.sym (l) false 1))]) := by kernel_rfl
def g59 (C : Ct) (L : AtLoop) (n cap : Nat) (l : List Value) (k : List D → Prop) : Prop := wpFn Try.prog (hM C) L 0 59 #[S500 n cap] (heapOf [Q500 l]) (dataK k)
theorem g59_text (C : Ct) (L : AtLoop) (n : Nat) (cap : Nat) (l : List Go.Value) (k : List D → Prop) : g59 C L n cap l k =
 (bcase (decide ((↑n : Int) < 1))
 False
 (bcase (decide (0 < (↑n : Int)))
 (∃ n1 : Int,
 ((At (l) 0 1 [(Go.Value.int Go.IntKind.i64 (n1))]) ∧
 (L 0 [(Prod.mk 0 (Go.Value.slice (Option.some (Go.Addr.mk 500 0 Option.none)) (n) (cap))), (Prod.mk 3 (Go.Value.int Go.IntKind.i64 (n1))), (Prod.mk 4 (Go.Value.int Go.IntKind.i64 (1 : Int)))] [(Prod.mk 500 (AObj.sym (l) false 1))])))
 False)) := by kernel_rfl
def g60 (C : Ct) (L : AtLoop) (n cap : Nat) (l : List Value) (k : List D → Prop) : Prop := wpFn Try.prog (hM C) L 0 60 #[S500 n cap] (heapOf [Q500 l]) (dataK k)
theorem g60_text (C : Ct) (L : AtLoop) (n : Nat) (cap : Nat) (l : List Go.Value) (k : List D → Prop) : g60 C L n cap l k =
 (bcase (decide ((↑n : Int) < 1))
 False
 (bcase (decide (0 < (↑n : Int)))
 (∃ n1 : Int,
 ((At (l) 0 1 [(Go.Value.int Go.IntKind.i64 (n1))]) ∧
 (L 0 [(Prod.mk 0 (Go.Value.slice (Option.some (Go.Addr.mk 500 0 Option.none)) (n) (cap))), (Prod.mk 3 (Go.Value.int Go.IntKind.i64 (n1))), (Prod.mk 4 (Go.Value.int Go.IntKind.i64 (1 : Int)))] [(Prod.mk 500 (AObj.sym (l) false 1))])))
 False)) := by kernel_rfl
def g55 (C : Ct) (L : AtLoop) (cap : Nat) (a : Int) (k : List D → Prop) : Prop := wpFn Try.prog (hM C) L 0 55 #[S500 1 cap] (heapOf [Q500 [vI a]]) (dataK k)
theorem g55_text (C : Ct) (L : AtLoop) (cap : Nat) (a : Int) (k : List D → Prop) : g55 C L cap a k =
 False := by kernel_rfl
def g55b (C : Ct) (L : AtLoop) (cap : Nat) (a b : Int) (k : List D → Prop) : Prop := wpFn Try.prog (hM C) L 0 55 #[S500 2 cap] (heapOf [Q500 [vI a, vI b]]) (dataK k)
theorem g55b_text (C : Ct) (L : AtLoop) (cap : Nat) (a : Int) (b : Int) (k : List D → Prop) : g55b C L cap a b k =
 False := by kernel_rfl
def g61 (C : Ct) (L : AtLoop) (n b : Int) (k : List D → Prop) : Prop := wpFn Try.prog (hM C) L 0 61 #[vI n, vI b] (heapOf []) (dataK k)
theorem g61_text (C : Ct) (L : AtLoop) (n : Int) (b : Int) (k : List D → Prop) : g61 C L n b k =
 (bcase (b != 0)
 (bcase (b != 0)
 (bcase (decide (Int.tmod n b < 0))
 (k [(D.val (Go.Value.int Go.IntKind.i64 (Go.IntKind.wrap Go.IntKind.i64 (Go.IntKind.wrap Go.IntKind.i64 (Int.tdiv n b) - 1))))])
 (k [(D.val (Go.Value.int Go.IntKind.i64 (Go.IntKind.wrap Go.IntKind.i64 (Int.tdiv n b))))]))
 False)
 False) := by kernel_rfl
def g70 (C : Ct) (L : AtLoop) (n b : Int) (k : List D → Prop) : Prop := wpFn Try.prog (hM C) L 0 70 #[vI n, vI b] (heapOf []) (dataK k)
theorem g70_text (C : Ct) (L : AtLoop) (n : Int) (b : Int) (k : List D → Prop) : g70 C L n b k =
 (L 0 [(Prod.mk 0 (Go.Value.int Go.IntKind.i64 (n))), (Prod.mk 1 (Go.Value.int Go.IntKind.i64 (b)))] []) := by kernel_rfl
def g88 (C : Ct) (L : AtLoop) (n b : Int) (k : List D → Prop) : Prop := wpFn Try.prog (hM C) L 0 88 #[vI n, vI b] (heapOf []) (dataK k)
theorem g88_text (C : Ct) (L : AtLoop) (n : Int) (b : Int) (k : List D → Prop) : g88 C L n b k =
 (bcase (b != 0)
 (L 0 [(Prod.mk 6 (Go.Value.int Go.IntKind.i64 (b))), (Prod.mk 7 (Go.Value.int Go.IntKind.i64 (if Go.IntKind.wrap Go.IntKind.i64 (0 - Int.tmod n b) > Int.tmod n b then Go.IntKind.wrap Go.IntKind.i64 (0 - Int.tmod n b) else Int.tmod n b)))] [])
 False) := by kernel_rfl
def g65 (C : Ct) (L : AtLoop) (n b : Int) (k : List D → Prop) : Prop := wpFn Try.prog (hM C) L 0 65 #[vI n, vI b] (heapOf []) (dataK k)
theorem g65_text (C : Ct) (L : AtLoop) (n : Int) (b : Int) (k : List D → Prop) : g65 C L n b k =
 (bcase (decide (b < 0))
 (∃ n1 : Int,
 ((Says C 88 [(D.val (Go.Value.int Go.IntKind.i64 (Go.IntKind.wrap Go.IntKind.i64 (0 - n)))), (D.val (Go.Value.int Go.IntKind.i64 (Go.IntKind.wrap Go.IntKind.i64 (0 - b))))] [(D.val (Go.Value.int Go.IntKind.i64 (n1)))]) ∧
 (bcase (n1 != 0)
 (bcase (n1 != 0)
 ((((Go.Value.agg [(Go.Value.int Go.IntKind.i64 (Go.IntKind.wrap Go.IntKind.i64 (Int.tdiv (Go.IntKind.wrap Go.IntKind.i64 (0 - n)) n1))), (Go.Value.int Go.IntKind.i64 (Go.IntKind.wrap Go.IntKind.i64 (Int.tdiv (Go.IntKind.wrap Go.IntKind.i64 (0 - b)) n1)))].toArray) = (Go.Value.agg [(Go.Value.int Go.IntKind.i64 (Go.IntKind.wrap Go.IntKind.i64 (Int.tdiv (Go.IntKind.wrap Go.IntKind.i64 (0 - n)) n1))), (Go.Value.int Go.IntKind.i64 (Go.IntKind.wrap Go.IntKind.i64 (Int.tdiv (Go.IntKind.wrap Go.IntKind.i64 (0 - b)) n1)))].toArray)) ∧
 ((bcase (n1 != 0)
 ((Go.Value.int Go.IntKind.i64 (Go.IntKind.wrap Go.IntKind.i64 (Int.tdiv (Go.IntKind.wrap Go.IntKind.i64 (0 - b)) n1))) = (Go.Value.int Go.IntKind.i64 (Go.IntKind.wrap Go.IntKind.i64 (Int.tdiv (Go.IntKind.wrap Go.IntKind.i64 (0 - b)) n1))))
 False) ∧
 (((Go.Value.int Go.IntKind.i64 (n1)) = (Go.Value.int Go.IntKind.i64 (n1))) ∧
 (((Go.Value.int Go.IntKind.i64 (Go.IntKind.wrap Go.IntKind.i64 (0 - b))) = (Go.Value.int Go.IntKind.i64 (Go.IntKind.wrap Go.IntKind.i64 (0 - b)))) ∧
 ((bcase (n1 != 0)
 ((Go.Value.int Go.IntKind.i64 (Go.IntKind.wrap Go.IntKind.i64 (Int.tdiv (Go.IntKind.wrap Go.IntKind.i64 (0 - n)) n1))) = (Go.Value.int Go.IntKind.i64 (Go.IntKind.wrap Go.IntKind.i64 (Int.tdiv (Go.IntKind.wrap Go.IntKind.i64 (0 - n)) n1))))
 False) ∧
 (((Go.Value.int Go.IntKind.i64 (n1)) = (Go.Value.int Go.IntKind.i64 (n1))) ∧
 (((Go.Value.int Go.IntKind.i64 (Go.IntKind.wrap Go.IntKind.i64 (0 - n))) = (Go.Value.int Go.IntKind.i64 (Go.IntKind.wrap Go.IntKind.i64 (0 - n)))) ∧
 True))))))) ∧
 (True ∧
 (k [(D.agg [(D.val (Go.Value.int Go.IntKind.i64 (Go.IntKind.wrap Go.IntKind.i64 (Int.tdiv (Go.IntKind.wrap Go.IntKind.i64 (0 - n)) n1)))), (D.val (Go.Value.int Go.IntKind.i64 (Go.IntKind.wrap Go.IntKind.i64 (Int.tdiv (Go.IntKind.wrap Go.IntKind.i64 (0 - b)) n1))))])])))
 False)
 False)))
 (∃ n1 : Int,
 ((Says C 88 [(D.val (Go.Value.int Go.IntKind.i64 (n))), (D.val (Go.Value.int Go.IntKind.i64 (b)))] [(D.val (Go.Value.int Go.IntKind.i64 (n1)))]) ∧
 (bcase (n1 != 0)
 (bcase (n1 != 0)
 ((((Go.Value.agg [(Go.Value.int Go.IntKind.i64 (Go.IntKind.wrap Go.IntKind.i64 (Int.tdiv n n1))), (Go.Value.int Go.IntKind.i64 (Go.IntKind.wrap Go.IntKind.i64 (Int.tdiv b n1)))].toArray) = (Go.Value.agg [(Go.Value.int Go.IntKind.i64 (Go.IntKind.wrap Go.IntKind.i64 (Int.tdiv n n1))), (Go.Value.int Go.IntKind.i64 (Go.IntKind.wrap Go.IntKind.i64 (Int.tdiv b n1)))].toArray)) ∧
 ((bcase (n1 != 0)
 ((Go.Value.int Go.IntKind.i64 (Go.IntKind.wrap Go.IntKind.i64 (Int.tdiv b n1))) = (Go.Value.int Go.IntKind.i64 (Go.IntKind.wrap Go.IntKind.i64 (Int.tdiv b n1))))
 False) ∧
 (((Go.Value.int Go.IntKind.i64 (n1)) = (Go.Value.int Go.IntKind.i64 (n1))) ∧
 (((Go.Value.int Go.IntKind.i64 (b)) = (Go.Value.int Go.IntKind.i64 (b))) ∧
 ((bcase (n1 != 0)
 ((Go.Value.int Go.IntKind.i64 (Go.IntKind.wrap Go.IntKind.i64 (Int.tdiv n n1))) = (Go.Value.int Go.IntKind.i64 (Go.IntKind.wrap Go.IntKind.i64 (Int.tdiv n n1))))
 False) ∧
 (((Go.Value.int Go.IntKind.i64 (n1)) = (Go.Value.int Go.IntKind.i64 (n1))) ∧
 (((Go.Value.int Go.IntKind.i64 (n)) = (Go.Value.int Go.IntKind.i64 (n))) ∧
 True))))))) ∧
 (True ∧
 (k [(D.agg [(D.val (Go.Value.int Go.IntKind.i64 (Go.IntKind.wrap Go.IntKind.i64 (Int.tdiv n n1)))), (D.val (Go.Value.int Go.IntKind.i64 (Go.IntKind.wrap Go.IntKind.i64 (Int.tdiv b n1))))])])))
 False)
 False)))) := by kernel_rfl
def g69 (C : Ct) (L : AtLoop) (n b : Int) (k : List D → Prop) : Prop := wpFn Try.prog (hM C) L 0 69 #[vI n, vI b] (heapOf []) (dataK k)
theorem g69_text (C : Ct) (L : AtLoop) (n : Int) (b : Int) (k : List D → Prop) : g69 C L n b k =
 (∃ n1 : Int,
 ((Says C 70 [(D.val (Go.Value.int Go.IntKind.i64 (n))), (D.val (Go.Value.int Go.IntKind.i64 (b)))] [(D.val (Go.Value.int Go.IntKind.i64 (n1)))]) ∧
 (bcase (decide (b < 0))
 (bcase (Go.IntKind.wrap Go.IntKind.i64 (0 - n1) != 0)
 (bcase (Go.IntKind.wrap Go.IntKind.i64 (0 - n1) != 0)
 ((((Go.Value.agg [(Go.Value.int Go.IntKind.i64 (Go.IntKind.wrap Go.IntKind.i64 (Int.tdiv n (Go.IntKind.wrap Go.IntKind.i64 (0 - n1))))), (Go.Value.int Go.IntKind.i64 (Go.IntKind.wrap Go.IntKind.i64 (Int.tdiv b (Go.IntKind.wrap Go.IntKind.i64 (0 - n1)))))].toArray) = (Go.Value.agg [(Go.Value.int Go.IntKind.i64 (Go.IntKind.wrap Go.IntKind.i64 (Int.tdiv n (Go.IntKind.wrap Go.IntKind.i64 (0 - n1))))), (Go.Value.int Go.IntKind.i64 (Go.IntKind.wrap Go.IntKind.i64 (Int.tdiv b (Go.IntKind.wrap Go.IntKind.i64 (0 - n1)))))].toArray)) ∧
 ((bcase (Go.IntKind.wrap Go.IntKind.i64 (0 - n1) != 0)
 ((Go.Value.int Go.IntKind.i64 (Go.IntKind.wrap Go.IntKind.i64 (Int.tdiv b (Go.IntKind.wrap Go.IntKind.i64 (0 - n1))))) = (Go.Value.int Go.IntKind.i64 (Go.IntKind.wrap Go.IntKind.i64 (Int.tdiv b (Go.IntKind.wrap Go.IntKind.i64 (0 - n1))))))
 False) ∧
 (((Go.Value.int Go.IntKind.i64 (Go.IntKind.wrap Go.IntKind.i64 (0 - n1))) = (Go.Value.int Go.IntKind.i64 (Go.IntKind.wrap Go.IntKind.i64 (0 - n1)))) ∧
 (((Go.Value.int Go.IntKind.i64 (b)) = (Go.Value.int Go.IntKind.i64 (b))) ∧
 ((bcase (Go.IntKind.wrap Go.IntKind.i64 (0 - n1) != 0)
 ((Go.Value.int Go.IntKind.i64 (Go.IntKind.wrap Go.IntKind.i64 (Int.tdiv n (Go.IntKind.wrap Go.IntKind.i64 (0 - n1))))) = (Go.Value.int Go.IntKind.i64 (Go.IntKind.wrap Go.IntKind.i64 (Int.tdiv n (Go.IntKind.wrap Go.IntKind.i64 (0 - n1))))))
 False) ∧
 (((Go.Value.int Go.IntKind.i64 (Go.IntKind.wrap Go.IntKind.i64 (0 - n1))) = (Go.Value.int Go.IntKind.i64 (Go.IntKind.wrap Go.IntKind.i64 (0 - n1)))) ∧
 (((Go.Value.int Go.IntKind.i64 (n)) = (Go.Value.int Go.IntKind.i64 (n))) ∧
 True))))))) ∧
 (True ∧
 (k [(D.agg [(D.val (Go.Value.int Go.IntKind.i64 (Go.IntKind.wrap Go.IntKind.i64 (Int.tdiv n (Go.IntKind.wrap Go.IntKind.i64 (0 - n1)))))), (D.val (Go.Value.int Go.IntKind.i64 (Go.IntKind.wrap Go.IntKind.i64 (Int.tdiv b (Go.IntKind.wrap Go.IntKind.i64 (0 - n1))))))])])))
 False)
 False)
 (bcase (n1 != 0)
 (bcase (n1 != 0)
 ((((Go.Value.agg [(Go.Value.int Go.IntKind.i64 (Go.IntKind.wrap Go.IntKind.i64 (Int.tdiv n n1))), (Go.Value.int Go.IntKind.i64 (Go.IntKind.wrap Go.IntKind.i64 (Int.tdiv b n1)))].toArray) = (Go.Value.agg [(Go.Value.int Go.IntKind.i64 (Go.IntKind.wrap Go.IntKind.i64 (Int.tdiv n n1))), (Go.Value.int Go.IntKind.i64 (Go.IntKind.wrap Go.IntKind.i64 (Int.tdiv b n1)))].toArray)) ∧
 ((bcase (n1 != 0)
 ((Go.Value.int Go.IntKind.i64 (Go.IntKind.wrap Go.IntKind.i64 (Int.tdiv b n1))) = (Go.Value.int Go.IntKind.i64 (Go.IntKind.wrap Go.IntKind.i64 (Int.tdiv b n1))))
 False) ∧
 (((Go.Value.int Go.IntKind.i64 (n1)) = (Go.Value.int Go.IntKind.i64 (n1))) ∧
 (((Go.Value.int Go.IntKind.i64 (b)) = (Go.Value.int Go.IntKind.i64 (b))) ∧
 ((bcase (n1 != 0)
 ((Go.Value.int Go.IntKind.i64 (Go.IntKind.wrap Go.IntKind.i64 (Int.tdiv n n1))) = (Go.Value.int Go.IntKind.i64 (Go.IntKind.wrap Go.IntKind.i64 (Int.tdiv n n1))))
 False) ∧
 (((Go.Value.int Go.IntKind.i64 (n1)) = (Go.Value.int Go.IntKind.i64 (n1))) ∧
 (((Go.Value.int Go.IntKind.i64 (n)) = (Go.Value.int Go.IntKind.i64 (n))) ∧
 True))))))) ∧
 (True ∧
 (k [(D.agg [(D.val (Go.Value.int Go.IntKind.i64 (Go.IntKind.wrap Go.IntKind.i64 (Int.tdiv n n1)))), (D.val (Go.Value.int Go.IntKind.i64 (Go.IntKind.wrap Go.IntKind.i64 (Int.tdiv b n1))))])])))
 False)
 False)))) := by kernel_rfl
def g66 (C : Ct) (L : AtLoop) (n b : Int) (k : List D → Prop) : Prop := wpFn Try.prog (hM C) L 0 66 #[vP n b] (heapOf []) (dataK k)
theorem g66_text (C : Ct) (L : AtLoop) (n : Int) (b : Int) (k : List D → Prop) : g66 C L n b k =
 (∃ n1 : Int,
 (∃ n2 : Int,
 ((Says C 65 [(D.val (Go.Value.int Go.IntKind.i64 (n))), (D.val (Go.Value.int Go.IntKind.i64 (b)))] [(D.agg [(D.val (Go.Value.int Go.IntKind.i64 (n1))), (D.val (Go.Value.int Go.IntKind.i64 (n2)))])]) ∧
 (((((Go.Value.slice (Option.some (Go.Addr.mk 1002 0 Option.none)) 2 2) = (Go.Value.slice (Option.some (Go.Addr.mk 1002 0 Option.none)) 2 2)) ∧
 ((Option.some (AObj.cells [(Go.Value.int Go.IntKind.i64 (n1)), (Go.Value.int Go.IntKind.i64 (n2))] 3 false 1)) = (Option.some (AObj.cells [(Go.Value.int Go.IntKind.i64 (n1)), (Go.Value.int Go.IntKind.i64 (n2))] 3 false 1)))) ∧
 (((Go.Value.int Go.IntKind.i64 (n2)) = (Go.Value.int Go.IntKind.i64 (n2))) ∧
 (((Go.Value.pointer (Option.some (Go.Addr.mk 1000 1 Option.none))) = (Go.Value.pointer (Option.some (Go.Addr.mk 1000 1 Option.none)))) ∧
 (((Go.Value.int Go.IntKind.i64 (n1)) = (Go.Value.int Go.IntKind.i64 (n1))) ∧
 (((Go.Value.pointer (Option.some (Go.Addr.mk 1000 0 Option.none))) = (Go.Value.pointer (Option.some (Go.Addr.mk 1000 0 Option.none)))) ∧
 True))))) ∧
 (((((Go.Value.slice (Option.some (Go.Addr.mk 1002 0 Option.none)) 2 2) = (Go.Value.slice (Option.some (Go.Addr.mk 1002 0 Option.none)) 2 2)) ∧
 ((Option.some (AObj.cells [(Go.Value.int Go.IntKind.i64 (n1)), (Go.Value.int Go.IntKind.i64 (n2))] 3 false 1)) = (Option.some (AObj.cells [(Go.Value.int Go.IntKind.i64 (n1)), (Go.Value.int Go.IntKind.i64 (n2))] 3 false 1)))) ∧
 (((Go.Value.int Go.IntKind.i64 (n2)) = (Go.Value.int Go.IntKind.i64 (n2))) ∧
 (((Go.Value.pointer (Option.some (Go.Addr.mk 1000 1 Option.none))) = (Go.Value.pointer (Option.some (Go.Addr.mk 1000 1 Option.none)))) ∧
 (((Go.Value.int Go.IntKind.i64 (n1)) = (Go.Value.int Go.IntKind.i64 (n1))) ∧
 (((Go.Value.pointer (Option.some (Go.Addr.mk 1000 0 Option.none))) = (Go.Value.pointer (Option.some (Go.Addr.mk 1000 0 Option.none)))) ∧
 True))))) ∧
 (∃ e1 : Int,
 ((Says limC 0 [(D.val (Go.Value.int Go.IntKind.i64 (-(999999999 + 1) : Int))), (D.val (Go.Value.int Go.IntKind.i64 (1000000000 : Int))), (D.sl 2 1 [(Go.Value.int Go.IntKind.i64 (n1)), (Go.Value.int Go.IntKind.i64 (n2))])] [(D.val (Go.Value.int Go.IntKind.i64 (e1)))]) ∧
 (bcase (e1 != 0)
 (((bcase (e1 != 0)
 ((Go.Value.bool true) = (Go.Value.bool true))
 ((Go.Value.bool false) = (Go.Value.bool true))) ∧
 (((Go.Value.int Go.IntKind.i64 (n2)) = (Go.Value.int Go.IntKind.i64 (n2))) ∧
 (((Go.Value.pointer (Option.some (Go.Addr.mk 1000 1 Option.none))) = (Go.Value.pointer (Option.some (Go.Addr.mk 1000 1 Option.none)))) ∧
 (((Go.Value.int Go.IntKind.i64 (n1)) = (Go.Value.int Go.IntKind.i64 (n1))) ∧
 (((Go.Value.pointer (Option.some (Go.Addr.mk 1000 0 Option.none))) = (Go.Value.pointer (Option.some (Go.Addr.mk 1000 0 Option.none)))) ∧
 True))))) ∧
 (k [(D.agg [(D.val (Go.Value.int Go.IntKind.i64 (0 : Int))), (D.val (Go.Value.int Go.IntKind.i64 (0 : Int)))]), (D.val (Go.Value.int Go.IntKind.i64 (8 : Int)))]))
 (((bcase (e1 != 0)
 ((Go.Value.bool true) = (Go.Value.bool false))
 ((Go.Value.bool false) = (Go.Value.bool false))) ∧
 (((Go.Value.int Go.IntKind.i64 (n2)) = (Go.Value.int Go.IntKind.i64 (n2))) ∧
 (((Go.Value.pointer (Option.some (Go.Addr.mk 1000 1 Option.none))) = (Go.Value.pointer (Option.some (Go.Addr.mk 1000 1 Option.none)))) ∧
 (((Go.Value.int Go.IntKind.i64 (n1)) = (Go.Value.int Go.IntKind.i64 (n1))) ∧
 (((Go.Value.pointer (Option.some (Go.Addr.mk 1000 0 Option.none))) = (Go.Value.pointer (Option.some (Go.Addr.mk 1000 0 Option.none)))) ∧
 True))))) ∧
 (k [(D.agg [(D.val (Go.Value.int Go.IntKind.i64 (n1))), (D.val (Go.Value.int Go.IntKind.i64 (n2)))]), (D.val (Go.Value.int Go.IntKind.i64 (0 : Int)))])))))))))) := by kernel_rfl
def g30 (C : Ct) (L : AtLoop) (n b : Int) (k : List D → Prop) : Prop := wpFn Try.prog (hM C) L 0 30 #[vP n b] (heapOf []) (dataK k)
theorem g30_text (C : Ct) (L : AtLoop) (n : Int) (b : Int) (k : List D → Prop) : g30 C L n b k =
 (bcase (decide (b > 0))
 (∃ n1 : Int,
 ((Says C 70 [(D.val (Go.Value.int Go.IntKind.i64 (n))), (D.val (Go.Value.int Go.IntKind.i64 (b)))] [(D.val (Go.Value.int Go.IntKind.i64 (n1)))]) ∧
 (bcase (n1 == 1)
 (k [(D.val (Go.Value.bool true))])
 (k [(D.val (Go.Value.bool false))]))))
 (k [(D.val (Go.Value.bool false))])) := by kernel_rfl
def g31 (C : Ct) (L : AtLoop) (n b : Int) (k : List D → Prop) : Prop := wpFn Try.prog (hM C) L 0 31 #[vP n b] (heapOf []) (dataK k)
theorem g31_text (C : Ct) (L : AtLoop) (n : Int) (b : Int) (k : List D → Prop) : g31 C L n b k =
 (bcase (decide (-1000000000 ≤ n))
 (bcase (decide (n ≤ 1000000000))
 (bcase (decide (1 ≤ b))
 (bcase (decide (b ≤ 1000000000))
 (k [(D.val (Go.Value.bool true))])
 (k [(D.val (Go.Value.bool false))]))
 (k [(D.val (Go.Value.bool false))]))
 (k [(D.val (Go.Value.bool false))]))
 (k [(D.val (Go.Value.bool false))])) := by kernel_rfl
def g32 (C : Ct) (L : AtLoop) (n b c d : Int) (k : List D → Prop) : Prop := wpFn Try.prog (hM C) L 0 32 #[vP n b, vP c d] (heapOf []) (dataK k)
theorem g32_text (C : Ct) (L : AtLoop) (n : Int) (b : Int) (c : Int) (d : Int) (k : List D → Prop) : g32 C L n b c d k =
 ((((Go.Value.int Go.IntKind.i64 (Go.IntKind.wrap Go.IntKind.i64 (c * b))) = (Go.Value.int Go.IntKind.i64 (Go.IntKind.wrap Go.IntKind.i64 (c * b)))) ∧
 (((Go.Value.int Go.IntKind.i64 (b)) = (Go.Value.int Go.IntKind.i64 (b))) ∧
 (((Go.Value.pointer (Option.some (Go.Addr.mk 1000 1 Option.none))) = (Go.Value.pointer (Option.some (Go.Addr.mk 1000 1 Option.none)))) ∧
 (((Go.Value.int Go.IntKind.i64 (c)) = (Go.Value.int Go.IntKind.i64 (c))) ∧
 (((Go.Value.pointer (Option.some (Go.Addr.mk 1001 0 Option.none))) = (Go.Value.pointer (Option.some (Go.Addr.mk 1001 0 Option.none)))) ∧
 (((Go.Value.int Go.IntKind.i64 (Go.IntKind.wrap Go.IntKind.i64 (n * d))) = (Go.Value.int Go.IntKind.i64 (Go.IntKind.wrap Go.IntKind.i64 (n * d)))) ∧
 (((Go.Value.int Go.IntKind.i64 (d)) = (Go.Value.int Go.IntKind.i64 (d))) ∧
 (((Go.Value.pointer (Option.some (Go.Addr.mk 1001 1 Option.none))) = (Go.Value.pointer (Option.some (Go.Addr.mk 1001 1 Option.none)))) ∧
 (((Go.Value.int Go.IntKind.i64 (n)) = (Go.Value.int Go.IntKind.i64 (n))) ∧
 (((Go.Value.pointer (Option.some (Go.Addr.mk 1000 0 Option.none))) = (Go.Value.pointer (Option.some (Go.Addr.mk 1000 0 Option.none)))) ∧
 True)))))))))) ∧
 ((((Go.Value.int Go.IntKind.i64 (Go.IntKind.wrap Go.IntKind.i64 (c * b))) = (Go.Value.int Go.IntKind.i64 (Go.IntKind.wrap Go.IntKind.i64 (c * b)))) ∧
 (((Go.Value.int Go.IntKind.i64 (b)) = (Go.Value.int Go.IntKind.i64 (b))) ∧
 (((Go.Value.pointer (Option.some (Go.Addr.mk 1000 1 Option.none))) = (Go.Value.pointer (Option.some (Go.Addr.mk 1000 1 Option.none)))) ∧
 (((Go.Value.int Go.IntKind.i64 (c)) = (Go.Value.int Go.IntKind.i64 (c))) ∧
 (((Go.Value.pointer (Option.some (Go.Addr.mk 1001 0 Option.none))) = (Go.Value.pointer (Option.some (Go.Addr.mk 1001 0 Option.none)))) ∧
 True))))) ∧
 (True ∧
 (bcase (decide (Go.IntKind.wrap Go.IntKind.i64 (n * d) < Go.IntKind.wrap Go.IntKind.i64 (c * b)))
 (k [(D.val (Go.Value.int Go.IntKind.i64 (-(0 + 1) : Int)))])
 (bcase (decide (Go.IntKind.wrap Go.IntKind.i64 (n * d) > Go.IntKind.wrap Go.IntKind.i64 (c * b)))
 (k [(D.val (Go.Value.int Go.IntKind.i64 (1 : Int)))])
 (k [(D.val (Go.Value.int Go.IntKind.i64 (0 : Int)))])))))) := by kernel_rfl
def g62 (C : Ct) (L : AtLoop) (cap : Nat) (a b c d : Int) (k : List D → Prop) : Prop := wpFn Try.prog (hM C) L 0 62 #[S500 2 cap] (heapOf [T500 [vI a, vI b, vI c, vI d]]) (dataK k)
theorem g62_text (C : Ct) (L : AtLoop) (cap : Nat) (a : Int) (b : Int) (c : Int) (d : Int) (k : List D → Prop) : g62 C L cap a b c d k =
 (L 0 [(Prod.mk 5 (Go.Value.slice (Option.some (Go.Addr.mk 500 0 Option.none)) 2 (cap))), (Prod.mk 6 (Go.Value.int Go.IntKind.i64 (2 : Int))), (Prod.mk 7 (Go.Value.int Go.IntKind.i64 (0 : Int)))] [(Prod.mk 500 (AObj.sym [(Go.Value.int Go.IntKind.i64 (a)), (Go.Value.int Go.IntKind.i64 (b)), (Go.Value.int Go.IntKind.i64 (c)), (Go.Value.int Go.IntKind.i64 (d))] false 2))]) := by kernel_rfl
def g20 (C : Ct) (L : AtLoop) (n cap : Nat) (l : List Value) (a b c d e : Int) (k : List D → Prop) : Prop := wpFn Try.prog (hM C) L 0 20 #[vR (S500 n cap) a b c d e] (heapOf [T500 l]) (dataK k)
theorem g20_text (C : Ct) (L : AtLoop) (n : Nat) (cap : Nat) (l : List Go.Value) (a : Int) (b : Int) (c : Int) (d : Int) (e : Int) (k : List D → Prop) : g20 C L n cap l a b c d e k =
 (bcase (decide (0 + n * 2 ≤ List.length l))
 ((Says C 11 [(D.sl (n) 2 (List.take (n * 2) (List.drop 0 l)))] [(D.sl (n) 2 (List.take (n * 2) (List.drop 0 l)))]) ∧
 ((((n) = (n)) ∧
 ((List.length (List.take (n * 2) (List.drop 0 l))) = (n * 2))) ∧
 (k [(D.agg [(D.sl (n) 2 (List.take (n * 2) (List.drop 0 l))), (D.val (Go.Value.int Go.IntKind.i64 (a))), (D.val (Go.Value.int Go.IntKind.i64 (b))), (D.val (Go.Value.int Go.IntKind.i64 (c))), (D.val (Go.Value.int Go.IntKind.i64 (d))), (D.val (Go.Value.int Go.IntKind.i64 (e)))])])))
 False) := by kernel_rfl
def g19 (C : Ct) (L : AtLoop) (n cap : Nat) (l : List Value) (a b c d e : Int) (k : List D → Prop) : Prop := wpFn Try.prog (hM C) L 0 19 #[vR (S500 n cap) a b c d e] (heapOf [T500 l]) (dataK k)
theorem g19_text (C : Ct) (L : AtLoop) (n : Nat) (cap : Nat) (l : List Go.Value) (a : Int) (b : Int) (c : Int) (d : Int) (e : Int) (k : List D → Prop) : g19 C L n cap l a b c d e k =
 (bcase (decide (0 + n * 2 ≤ List.length l))
 (∃ n1 : Int,
 (∃ n2 : Int,
 ((Says C 10 [(D.sl (n) 2 (List.take (n * 2) (List.drop 0 l)))] [(D.val (Go.Value.int Go.IntKind.i64 (n1))), (D.val (Go.Value.int Go.IntKind.i64 (n2)))]) ∧
 (bcase (n2 != 0)
 (k [(D.val (Go.Value.int Go.IntKind.i64 (n1))), (D.val (Go.Value.int Go.IntKind.i64 (n2)))])
 (((((Go.Value.slice (Option.some (Go.Addr.mk 1003 0 Option.none)) 1 1) = (Go.Value.slice (Option.some (Go.Addr.mk 1003 0 Option.none)) 1 1)) ∧
 ((Option.some (AObj.cells [(Go.Value.int Go.IntKind.i64 (e))] 3 false 1)) = (Option.some (AObj.cells [(Go.Value.int Go.IntKind.i64 (e))] 3 false 1)))) ∧
 (((Go.Value.int Go.IntKind.i64 (e)) = (Go.Value.int Go.IntKind.i64 (e))) ∧
 (((Go.Value.pointer (Option.some (Go.Addr.mk 1000 5 Option.none))) = (Go.Value.pointer (Option.some (Go.Addr.mk 1000 5 Option.none)))) ∧
 ((((Go.Value.slice (Option.some (Go.Addr.mk 1002 0 Option.none)) 4 4) = (Go.Value.slice (Option.some (Go.Addr.mk 1002 0 Option.none)) 4 4)) ∧
 ((Option.some (AObj.cells [(Go.Value.int Go.IntKind.i64 (a)), (Go.Value.int Go.IntKind.i64 (b)), (Go.Value.int Go.IntKind.i64 (c)), (Go.Value.int Go.IntKind.i64 (d))] 3 false 1)) = (Option.some (AObj.cells [(Go.Value.int Go.IntKind.i64 (a)), (Go.Value.int Go.IntKind.i64 (b)), (Go.Value.int Go.IntKind.i64 (c)), (Go.Value.int Go.IntKind.i64 (d))] 3 false 1)))) ∧
 (((Go.Value.int Go.IntKind.i64 (d)) = (Go.Value.int Go.IntKind.i64 (d))) ∧
 (((Go.Value.pointer (Option.some (Go.Addr.mk 1000 4 Option.none))) = (Go.Value.pointer (Option.some (Go.Addr.mk 1000 4 Option.none)))) ∧
 (((Go.Value.pointer (Option.some (Go.Addr.mk 1000 3 Option.none))) = (Go.Value.pointer (Option.some (Go.Addr.mk 1000 3 Option.none)))) ∧
 (((Go.Value.int Go.IntKind.i64 (c)) = (Go.Value.int Go.IntKind.i64 (c))) ∧
 (((Go.Value.pointer (Option.some (Go.Addr.mk 1000 3 Option.none))) = (Go.Value.pointer (Option.some (Go.Addr.mk 1000 3 Option.none)))) ∧
 (((Go.Value.pointer (Option.some (Go.Addr.mk 1000 3 Option.none))) = (Go.Value.pointer (Option.some (Go.Addr.mk 1000 3 Option.none)))) ∧
 (((Go.Value.int Go.IntKind.i64 (b)) = (Go.Value.int Go.IntKind.i64 (b))) ∧
 (((Go.Value.pointer (Option.some (Go.Addr.mk 1000 2 Option.none))) = (Go.Value.pointer (Option.some (Go.Addr.mk 1000 2 Option.none)))) ∧
 (((Go.Value.pointer (Option.some (Go.Addr.mk 1000 1 Option.none))) = (Go.Value.pointer (Option.some (Go.Addr.mk 1000 1 Option.none)))) ∧
 (((Go.Value.int Go.IntKind.i64 (a)) = (Go.Value.int Go.IntKind.i64 (a))) ∧
 (((Go.Value.pointer (Option.some (Go.Addr.mk 1000 1 Option.none))) = (Go.Value.pointer (Option.some (Go.Addr.mk 1000 1 Option.none)))) ∧
 (((Go.Value.pointer (Option.some (Go.Addr.mk 1000 1 Option.none))) = (Go.Value.pointer (Option.some (Go.Addr.mk 1000 1 Option.none)))) ∧
 ((((Go.Value.slice (Option.some (Go.Addr.mk 1001 0 Option.none)) 2 2) = (Go.Value.slice (Option.some (Go.Addr.mk 1001 0 Option.none)) 2 2)) ∧
 ((Option.some (AObj.cells [(Go.Value.int Go.IntKind.i64 (a)), (Go.Value.int Go.IntKind.i64 (b)), (Go.Value.int Go.IntKind.i64 (c)), (Go.Value.int Go.IntKind.i64 (d))] 40 false 2)) = (Option.some (AObj.cells [(Go.Value.int Go.IntKind.i64 (a)), (Go.Value.int Go.IntKind.i64 (b)), (Go.Value.int Go.IntKind.i64 (c)), (Go.Value.int Go.IntKind.i64 (d))] 40 false 2)))) ∧
 (((Go.Value.agg [(Go.Value.int Go.IntKind.i64 (c)), (Go.Value.int Go.IntKind.i64 (d))].toArray) = (Go.Value.agg [(Go.Value.int Go.IntKind.i64 (c)), (Go.Value.int Go.IntKind.i64 (d))].toArray)) ∧
 (((Go.Value.pointer (Option.some (Go.Addr.mk 1000 3 Option.none))) = (Go.Value.pointer (Option.some (Go.Addr.mk 1000 3 Option.none)))) ∧
 (((Go.Value.agg [(Go.Value.int Go.IntKind.i64 (a)), (Go.Value.int Go.IntKind.i64 (b))].toArray) = (Go.Value.agg [(Go.Value.int Go.IntKind.i64 (a)), (Go.Value.int Go.IntKind.i64 (b))].toArray)) ∧
 (((Go.Value.pointer (Option.some (Go.Addr.mk 1000 1 Option.none))) = (Go.Value.pointer (Option.some (Go.Addr.mk 1000 1 Option.none)))) ∧
 True))))))))))))))))))))) ∧
 (∃ n3 : Int,
 ((Says C 62 [(D.sl 2 2 [(Go.Value.int Go.IntKind.i64 (a)), (Go.Value.int Go.IntKind.i64 (b)), (Go.Value.int Go.IntKind.i64 (c)), (Go.Value.int Go.IntKind.i64 (d))])] [(D.val (Go.Value.int Go.IntKind.i64 (n3)))]) ∧
 (((((Go.Value.slice (Option.some (Go.Addr.mk 1003 0 Option.none)) 1 1) = (Go.Value.slice (Option.some (Go.Addr.mk 1003 0 Option.none)) 1 1)) ∧
 ((Option.some (AObj.cells [(Go.Value.int Go.IntKind.i64 (e))] 3 false 1)) = (Option.some (AObj.cells [(Go.Value.int Go.IntKind.i64 (e))] 3 false 1)))) ∧
 (((Go.Value.int Go.IntKind.i64 (e)) = (Go.Value.int Go.IntKind.i64 (e))) ∧
 (((Go.Value.pointer (Option.some (Go.Addr.mk 1000 5 Option.none))) = (Go.Value.pointer (Option.some (Go.Addr.mk 1000 5 Option.none)))) ∧
 ((((Go.Value.slice (Option.some (Go.Addr.mk 1002 0 Option.none)) 4 4) = (Go.Value.slice (Option.some (Go.Addr.mk 1002 0 Option.none)) 4 4)) ∧
 ((Option.some (AObj.cells [(Go.Value.int Go.IntKind.i64 (a)), (Go.Value.int Go.IntKind.i64 (b)), (Go.Value.int Go.IntKind.i64 (c)), (Go.Value.int Go.IntKind.i64 (d))] 3 false 1)) = (Option.some (AObj.cells [(Go.Value.int Go.IntKind.i64 (a)), (Go.Value.int Go.IntKind.i64 (b)), (Go.Value.int Go.IntKind.i64 (c)), (Go.Value.int Go.IntKind.i64 (d))] 3 false 1)))) ∧
 (((Go.Value.int Go.IntKind.i64 (d)) = (Go.Value.int Go.IntKind.i64 (d))) ∧
 (((Go.Value.pointer (Option.some (Go.Addr.mk 1000 4 Option.none))) = (Go.Value.pointer (Option.some (Go.Addr.mk 1000 4 Option.none)))) ∧
 (((Go.Value.pointer (Option.some (Go.Addr.mk 1000 3 Option.none))) = (Go.Value.pointer (Option.some (Go.Addr.mk 1000 3 Option.none)))) ∧
 (((Go.Value.int Go.IntKind.i64 (c)) = (Go.Value.int Go.IntKind.i64 (c))) ∧
 (((Go.Value.pointer (Option.some (Go.Addr.mk 1000 3 Option.none))) = (Go.Value.pointer (Option.some (Go.Addr.mk 1000 3 Option.none)))) ∧
 (((Go.Value.pointer (Option.some (Go.Addr.mk 1000 3 Option.none))) = (Go.Value.pointer (Option.some (Go.Addr.mk 1000 3 Option.none)))) ∧
 (((Go.Value.int Go.IntKind.i64 (b)) = (Go.Value.int Go.IntKind.i64 (b))) ∧
 (((Go.Value.pointer (Option.some (Go.Addr.mk 1000 2 Option.none))) = (Go.Value.pointer (Option.some (Go.Addr.mk 1000 2 Option.none)))) ∧
 (((Go.Value.pointer (Option.some (Go.Addr.mk 1000 1 Option.none))) = (Go.Value.pointer (Option.some (Go.Addr.mk 1000 1 Option.none)))) ∧
 (((Go.Value.int Go.IntKind.i64 (a)) = (Go.Value.int Go.IntKind.i64 (a))) ∧
 (((Go.Value.pointer (Option.some (Go.Addr.mk 1000 1 Option.none))) = (Go.Value.pointer (Option.some (Go.Addr.mk 1000 1 Option.none)))) ∧
 (((Go.Value.pointer (Option.some (Go.Addr.mk 1000 1 Option.none))) = (Go.Value.pointer (Option.some (Go.Addr.mk 1000 1 Option.none)))) ∧
 (((Go.Value.agg [(Go.Value.int Go.IntKind.i64 (c)), (Go.Value.int Go.IntKind.i64 (d))].toArray) = (Go.Value.agg [(Go.Value.int Go.IntKind.i64 (c)), (Go.Value.int Go.IntKind.i64 (d))].toArray)) ∧
 (((Go.Value.pointer (Option.some (Go.Addr.mk 1000 3 Option.none))) = (Go.Value.pointer (Option.some (Go.Addr.mk 1000 3 Option.none)))) ∧
 (((Go.Value.agg [(Go.Value.int Go.IntKind.i64 (a)), (Go.Value.int Go.IntKind.i64 (b))].toArray) = (Go.Value.agg [(Go.Value.int Go.IntKind.i64 (a)), (Go.Value.int Go.IntKind.i64 (b))].toArray)) ∧
 (((Go.Value.pointer (Option.some (Go.Addr.mk 1000 1 Option.none))) = (Go.Value.pointer (Option.some (Go.Addr.mk 1000 1 Option.none)))) ∧
 True)))))))))))))))))))) ∧
 (((((Go.Value.slice (Option.some (Go.Addr.mk 1003 0 Option.none)) 1 1) = (Go.Value.slice (Option.some (Go.Addr.mk 1003 0 Option.none)) 1 1)) ∧
 ((Option.some (AObj.cells [(Go.Value.int Go.IntKind.i64 (e))] 3 false 1)) = (Option.some (AObj.cells [(Go.Value.int Go.IntKind.i64 (e))] 3 false 1)))) ∧
 (((Go.Value.int Go.IntKind.i64 (e)) = (Go.Value.int Go.IntKind.i64 (e))) ∧
 (((Go.Value.pointer (Option.some (Go.Addr.mk 1000 5 Option.none))) = (Go.Value.pointer (Option.some (Go.Addr.mk 1000 5 Option.none)))) ∧
 ((((Go.Value.slice (Option.some (Go.Addr.mk 1002 0 Option.none)) 4 4) = (Go.Value.slice (Option.some (Go.Addr.mk 1002 0 Option.none)) 4 4)) ∧
 ((Option.some (AObj.cells [(Go.Value.int Go.IntKind.i64 (a)), (Go.Value.int Go.IntKind.i64 (b)), (Go.Value.int Go.IntKind.i64 (c)), (Go.Value.int Go.IntKind.i64 (d))] 3 false 1)) = (Option.some (AObj.cells [(Go.Value.int Go.IntKind.i64 (a)), (Go.Value.int Go.IntKind.i64 (b)), (Go.Value.int Go.IntKind.i64 (c)), (Go.Value.int Go.IntKind.i64 (d))] 3 false 1)))) ∧
 (((Go.Value.int Go.IntKind.i64 (d)) = (Go.Value.int Go.IntKind.i64 (d))) ∧
 (((Go.Value.pointer (Option.some (Go.Addr.mk 1000 4 Option.none))) = (Go.Value.pointer (Option.some (Go.Addr.mk 1000 4 Option.none)))) ∧
 (((Go.Value.pointer (Option.some (Go.Addr.mk 1000 3 Option.none))) = (Go.Value.pointer (Option.some (Go.Addr.mk 1000 3 Option.none)))) ∧
 (((Go.Value.int Go.IntKind.i64 (c)) = (Go.Value.int Go.IntKind.i64 (c))) ∧
 (((Go.Value.pointer (Option.some (Go.Addr.mk 1000 3 Option.none))) = (Go.Value.pointer (Option.some (Go.Addr.mk 1000 3 Option.none)))) ∧
 (((Go.Value.pointer (Option.some (Go.Addr.mk 1000 3 Option.none))) = (Go.Value.pointer (Option.some (Go.Addr.mk 1000 3 Option.none)))) ∧
 (((Go.Value.int Go.IntKind.i64 (b)) = (Go.Value.int Go.IntKind.i64 (b))) ∧
 (((Go.Value.pointer (Option.some (Go.Addr.mk 1000 2 Option.none))) = (Go.Value.pointer (Option.some (Go.Addr.mk 1000 2 Option.none)))) ∧
 (((Go.Value.pointer (Option.some (Go.Addr.mk 1000 1 Option.none))) = (Go.Value.pointer (Option.some (Go.Addr.mk 1000 1 Option.none)))) ∧
 (((Go.Value.int Go.IntKind.i64 (a)) = (Go.Value.int Go.IntKind.i64 (a))) ∧
 (((Go.Value.pointer (Option.some (Go.Addr.mk 1000 1 Option.none))) = (Go.Value.pointer (Option.some (Go.Addr.mk 1000 1 Option.none)))) ∧
 (((Go.Value.pointer (Option.some (Go.Addr.mk 1000 1 Option.none))) = (Go.Value.pointer (Option.some (Go.Addr.mk 1000 1 Option.none)))) ∧
 (((Go.Value.agg [(Go.Value.int Go.IntKind.i64 (c)), (Go.Value.int Go.IntKind.i64 (d))].toArray) = (Go.Value.agg [(Go.Value.int Go.IntKind.i64 (c)), (Go.Value.int Go.IntKind.i64 (d))].toArray)) ∧
 (((Go.Value.pointer (Option.some (Go.Addr.mk 1000 3 Option.none))) = (Go.Value.pointer (Option.some (Go.Addr.mk 1000 3 Option.none)))) ∧
 (((Go.Value.agg [(Go.Value.int Go.IntKind.i64 (a)), (Go.Value.int Go.IntKind.i64 (b))].toArray) = (Go.Value.agg [(Go.Value.int Go.IntKind.i64 (a)), (Go.Value.int Go.IntKind.i64 (b))].toArray)) ∧
 (((Go.Value.pointer (Option.some (Go.Addr.mk 1000 1 Option.none))) = (Go.Value.pointer (Option.some (Go.Addr.mk 1000 1 Option.none)))) ∧
 True)))))))))))))))))))) ∧
 (∃ e1 : Int,
 ((Says limC 0 [(D.val (Go.Value.int Go.IntKind.i64 (1 : Int))), (D.val (Go.Value.int Go.IntKind.i64 (900 : Int))), (D.sl 4 1 [(Go.Value.int Go.IntKind.i64 (a)), (Go.Value.int Go.IntKind.i64 (b)), (Go.Value.int Go.IntKind.i64 (c)), (Go.Value.int Go.IntKind.i64 (d))])] [(D.val (Go.Value.int Go.IntKind.i64 (e1)))]) ∧
 (((((Go.Value.slice (Option.some (Go.Addr.mk 1003 0 Option.none)) 1 1) = (Go.Value.slice (Option.some (Go.Addr.mk 1003 0 Option.none)) 1 1)) ∧
 ((Option.some (AObj.cells [(Go.Value.int Go.IntKind.i64 (e))] 3 false 1)) = (Option.some (AObj.cells [(Go.Value.int Go.IntKind.i64 (e))] 3 false 1)))) ∧
 (((Go.Value.int Go.IntKind.i64 (e)) = (Go.Value.int Go.IntKind.i64 (e))) ∧
 (((Go.Value.pointer (Option.some (Go.Addr.mk 1000 5 Option.none))) = (Go.Value.pointer (Option.some (Go.Addr.mk 1000 5 Option.none)))) ∧
 (((Go.Value.int Go.IntKind.i64 (d)) = (Go.Value.int Go.IntKind.i64 (d))) ∧
 (((Go.Value.pointer (Option.some (Go.Addr.mk 1000 4 Option.none))) = (Go.Value.pointer (Option.some (Go.Addr.mk 1000 4 Option.none)))) ∧
 (((Go.Value.pointer (Option.some (Go.Addr.mk 1000 3 Option.none))) = (Go.Value.pointer (Option.some (Go.Addr.mk 1000 3 Option.none)))) ∧
 (((Go.Value.int Go.IntKind.i64 (c)) = (Go.Value.int Go.IntKind.i64 (c))) ∧
 (((Go.Value.pointer (Option.some (Go.Addr.mk 1000 3 Option.none))) = (Go.Value.pointer (Option.some (Go.Addr.mk 1000 3 Option.none)))) ∧
 (((Go.Value.pointer (Option.some (Go.Addr.mk 1000 3 Option.none))) = (Go.Value.pointer (Option.some (Go.Addr.mk 1000 3 Option.none)))) ∧
 (((Go.Value.int Go.IntKind.i64 (b)) = (Go.Value.int Go.IntKind.i64 (b))) ∧
 (((Go.Value.pointer (Option.some (Go.Addr.mk 1000 2 Option.none))) = (Go.Value.pointer (Option.some (Go.Addr.mk 1000 2 Option.none)))) ∧
 (((Go.Value.pointer (Option.some (Go.Addr.mk 1000 1 Option.none))) = (Go.Value.pointer (Option.some (Go.Addr.mk 1000 1 Option.none)))) ∧
 (((Go.Value.int Go.IntKind.i64 (a)) = (Go.Value.int Go.IntKind.i64 (a))) ∧
 (((Go.Value.pointer (Option.some (Go.Addr.mk 1000 1 Option.none))) = (Go.Value.pointer (Option.some (Go.Addr.mk 1000 1 Option.none)))) ∧
 (((Go.Value.pointer (Option.some (Go.Addr.mk 1000 1 Option.none))) = (Go.Value.pointer (Option.some (Go.Addr.mk 1000 1 Option.none)))) ∧
 (((Go.Value.agg [(Go.Value.int Go.IntKind.i64 (c)), (Go.Value.int Go.IntKind.i64 (d))].toArray) = (Go.Value.agg [(Go.Value.int Go.IntKind.i64 (c)), (Go.Value.int Go.IntKind.i64 (d))].toArray)) ∧
 (((Go.Value.pointer (Option.some (Go.Addr.mk 1000 3 Option.none))) = (Go.Value.pointer (Option.some (Go.Addr.mk 1000 3 Option.none)))) ∧
 (((Go.Value.agg [(Go.Value.int Go.IntKind.i64 (a)), (Go.Value.int Go.IntKind.i64 (b))].toArray) = (Go.Value.agg [(Go.Value.int Go.IntKind.i64 (a)), (Go.Value.int Go.IntKind.i64 (b))].toArray)) ∧
 (((Go.Value.pointer (Option.some (Go.Addr.mk 1000 1 Option.none))) = (Go.Value.pointer (Option.some (Go.Addr.mk 1000 1 Option.none)))) ∧
 True))))))))))))))))))) ∧
 (((((Go.Value.slice (Option.some (Go.Addr.mk 1003 0 Option.none)) 1 1) = (Go.Value.slice (Option.some (Go.Addr.mk 1003 0 Option.none)) 1 1)) ∧
 ((Option.some (AObj.cells [(Go.Value.int Go.IntKind.i64 (e))] 3 false 1)) = (Option.some (AObj.cells [(Go.Value.int Go.IntKind.i64 (e))] 3 false 1)))) ∧
 (((Go.Value.int Go.IntKind.i64 (e)) = (Go.Value.int Go.IntKind.i64 (e))) ∧
 (((Go.Value.pointer (Option.some (Go.Addr.mk 1000 5 Option.none))) = (Go.Value.pointer (Option.some (Go.Addr.mk 1000 5 Option.none)))) ∧
 (((Go.Value.int Go.IntKind.i64 (d)) = (Go.Value.int Go.IntKind.i64 (d))) ∧
 (((Go.Value.pointer (Option.some (Go.Addr.mk 1000 4 Option.none))) = (Go.Value.pointer (Option.some (Go.Addr.mk 1000 4 Option.none)))) ∧
 (((Go.Value.pointer (Option.some (Go.Addr.mk 1000 3 Option.none))) = (Go.Value.pointer (Option.some (Go.Addr.mk 1000 3 Option.none)))) ∧
 (((Go.Value.int Go.IntKind.i64 (c)) = (Go.Value.int Go.IntKind.i64 (c))) ∧
 (((Go.Value.pointer (Option.some (Go.Addr.mk 1000 3 Option.none))) = (Go.Value.pointer (Option.some (Go.Addr.mk 1000 3 Option.none)))) ∧
 (((Go.Value.pointer (Option.some (Go.Addr.mk 1000 3 Option.none))) = (Go.Value.pointer (Option.some (Go.Addr.mk 1000 3 Option.none)))) ∧
 (((Go.Value.int Go.IntKind.i64 (b)) = (Go.Value.int Go.IntKind.i64 (b))) ∧
 (((Go.Value.pointer (Option.some (Go.Addr.mk 1000 2 Option.none))) = (Go.Value.pointer (Option.some (Go.Addr.mk 1000 2 Option.none)))) ∧
 (((Go.Value.pointer (Option.some (Go.Addr.mk 1000 1 Option.none))) = (Go.Value.pointer (Option.some (Go.Addr.mk 1000 1 Option.none)))) ∧
 (((Go.Value.int Go.IntKind.i64 (a)) = (Go.Value.int Go.IntKind.i64 (a))) ∧
 (((Go.Value.pointer (Option.some (Go.Addr.mk 1000 1 Option.none))) = (Go.Value.pointer (Option.some (Go.Addr.mk 1000 1 Option.none)))) ∧
 (((Go.Value.pointer (Option.some (Go.Addr.mk 1000 1 Option.none))) = (Go.Value.pointer (Option.some (Go.Addr.mk 1000 1 Option.none)))) ∧
 (((Go.Value.agg [(Go.Value.int Go.IntKind.i64 (c)), (Go.Value.int Go.IntKind.i64 (d))].toArray) = (Go.Value.agg [(Go.Value.int Go.IntKind.i64 (c)), (Go.Value.int Go.IntKind.i64 (d))].toArray)) ∧
 (((Go.Value.pointer (Option.some (Go.Addr.mk 1000 3 Option.none))) = (Go.Value.pointer (Option.some (Go.Addr.mk 1000 3 Option.none)))) ∧
 (((Go.Value.agg [(Go.Value.int Go.IntKind.i64 (a)), (Go.Value.int Go.IntKind.i64 (b))].toArray) = (Go.Value.agg [(Go.Value.int Go.IntKind.i64 (a)), (Go.Value.int Go.IntKind.i64 (b))].toArray)) ∧
 (((Go.Value.pointer (Option.some (Go.Addr.mk 1000 1 Option.none))) = (Go.Value.pointer (Option.some (Go.Addr.mk 1000 1 Option.none)))) ∧
 True))))))))))))))))))) ∧
 (∃ e2 : Int,
 ((Says limC 0 [(D.val (Go.Value.int Go.IntKind.i64 (0 : Int))), (D.val (Go.Value.int Go.IntKind.i64 (900 : Int))), (D.sl 1 1 [(Go.Value.int Go.IntKind.i64 (e))])] [(D.val (Go.Value.int Go.IntKind.i64 (e2)))]) ∧
 (((((Go.Value.slice (Option.some (Go.Addr.mk 1008 0 Option.none)) 3 3) = (Go.Value.slice (Option.some (Go.Addr.mk 1008 0 Option.none)) 3 3)) ∧
 ((Option.some (AObj.cells [(Go.Value.int Go.IntKind.i64 (n3)), (Go.Value.int Go.IntKind.i64 (e1)), (Go.Value.int Go.IntKind.i64 (e2))] 26 false 1)) = (Option.some (AObj.cells [(Go.Value.int Go.IntKind.i64 (n3)), (Go.Value.int Go.IntKind.i64 (e1)), (Go.Value.int Go.IntKind.i64 (e2))] 26 false 1)))) ∧
 (((Go.Value.int Go.IntKind.i64 (e)) = (Go.Value.int Go.IntKind.i64 (e))) ∧
 (((Go.Value.pointer (Option.some (Go.Addr.mk 1000 5 Option.none))) = (Go.Value.pointer (Option.some (Go.Addr.mk 1000 5 Option.none)))) ∧
 (((Go.Value.int Go.IntKind.i64 (d)) = (Go.Value.int Go.IntKind.i64 (d))) ∧
 (((Go.Value.pointer (Option.some (Go.Addr.mk 1000 4 Option.none))) = (Go.Value.pointer (Option.some (Go.Addr.mk 1000 4 Option.none)))) ∧
 (((Go.Value.pointer (Option.some (Go.Addr.mk 1000 3 Option.none))) = (Go.Value.pointer (Option.some (Go.Addr.mk 1000 3 Option.none)))) ∧
 (((Go.Value.int Go.IntKind.i64 (c)) = (Go.Value.int Go.IntKind.i64 (c))) ∧
 (((Go.Value.pointer (Option.some (Go.Addr.mk 1000 3 Option.none))) = (Go.Value.pointer (Option.some (Go.Addr.mk 1000 3 Option.none)))) ∧
 (((Go.Value.pointer (Option.some (Go.Addr.mk 1000 3 Option.none))) = (Go.Value.pointer (Option.some (Go.Addr.mk 1000 3 Option.none)))) ∧
 (((Go.Value.int Go.IntKind.i64 (b)) = (Go.Value.int Go.IntKind.i64 (b))) ∧
 (((Go.Value.pointer (Option.some (Go.Addr.mk 1000 2 Option.none))) = (Go.Value.pointer (Option.some (Go.Addr.mk 1000 2 Option.none)))) ∧
 (((Go.Value.pointer (Option.some (Go.Addr.mk 1000 1 Option.none))) = (Go.Value.pointer (Option.some (Go.Addr.mk 1000 1 Option.none)))) ∧
 (((Go.Value.int Go.IntKind.i64 (a)) = (Go.Value.int Go.IntKind.i64 (a))) ∧
 (((Go.Value.pointer (Option.some (Go.Addr.mk 1000 1 Option.none))) = (Go.Value.pointer (Option.some (Go.Addr.mk 1000 1 Option.none)))) ∧
 (((Go.Value.pointer (Option.some (Go.Addr.mk 1000 1 Option.none))) = (Go.Value.pointer (Option.some (Go.Addr.mk 1000 1 Option.none)))) ∧
 (((Go.Value.agg [(Go.Value.int Go.IntKind.i64 (c)), (Go.Value.int Go.IntKind.i64 (d))].toArray) = (Go.Value.agg [(Go.Value.int Go.IntKind.i64 (c)), (Go.Value.int Go.IntKind.i64 (d))].toArray)) ∧
 (((Go.Value.pointer (Option.some (Go.Addr.mk 1000 3 Option.none))) = (Go.Value.pointer (Option.some (Go.Addr.mk 1000 3 Option.none)))) ∧
 (((Go.Value.agg [(Go.Value.int Go.IntKind.i64 (a)), (Go.Value.int Go.IntKind.i64 (b))].toArray) = (Go.Value.agg [(Go.Value.int Go.IntKind.i64 (a)), (Go.Value.int Go.IntKind.i64 (b))].toArray)) ∧
 (((Go.Value.pointer (Option.some (Go.Addr.mk 1000 1 Option.none))) = (Go.Value.pointer (Option.some (Go.Addr.mk 1000 1 Option.none)))) ∧
 True))))))))))))))))))) ∧
 (∃ n4 : Int,
 ((Says C 54 [(D.sl 3 1 [(Go.Value.int Go.IntKind.i64 (n3)), (Go.Value.int Go.IntKind.i64 (e1)), (Go.Value.int Go.IntKind.i64 (e2))])] [(D.val (Go.Value.int Go.IntKind.i64 (n4)))]) ∧
 ((((Go.Value.int Go.IntKind.i64 (e)) = (Go.Value.int Go.IntKind.i64 (e))) ∧
 (((Go.Value.pointer (Option.some (Go.Addr.mk 1000 5 Option.none))) = (Go.Value.pointer (Option.some (Go.Addr.mk 1000 5 Option.none)))) ∧
 (((Go.Value.int Go.IntKind.i64 (d)) = (Go.Value.int Go.IntKind.i64 (d))) ∧
 (((Go.Value.pointer (Option.some (Go.Addr.mk 1000 4 Option.none))) = (Go.Value.pointer (Option.some (Go.Addr.mk 1000 4 Option.none)))) ∧
 (((Go.Value.pointer (Option.some (Go.Addr.mk 1000 3 Option.none))) = (Go.Value.pointer (Option.some (Go.Addr.mk 1000 3 Option.none)))) ∧
 (((Go.Value.int Go.IntKind.i64 (c)) = (Go.Value.int Go.IntKind.i64 (c))) ∧
 (((Go.Value.pointer (Option.some (Go.Addr.mk 1000 3 Option.none))) = (Go.Value.pointer (Option.some (Go.Addr.mk 1000 3 Option.none)))) ∧
 (((Go.Value.pointer (Option.some (Go.Addr.mk 1000 3 Option.none))) = (Go.Value.pointer (Option.some (Go.Addr.mk 1000 3 Option.none)))) ∧
 (((Go.Value.int Go.IntKind.i64 (b)) = (Go.Value.int Go.IntKind.i64 (b))) ∧
 (((Go.Value.pointer (Option.some (Go.Addr.mk 1000 2 Option.none))) = (Go.Value.pointer (Option.some (Go.Addr.mk 1000 2 Option.none)))) ∧
 (((Go.Value.pointer (Option.some (Go.Addr.mk 1000 1 Option.none))) = (Go.Value.pointer (Option.some (Go.Addr.mk 1000 1 Option.none)))) ∧
 (((Go.Value.int Go.IntKind.i64 (a)) = (Go.Value.int Go.IntKind.i64 (a))) ∧
 (((Go.Value.pointer (Option.some (Go.Addr.mk 1000 1 Option.none))) = (Go.Value.pointer (Option.some (Go.Addr.mk 1000 1 Option.none)))) ∧
 (((Go.Value.pointer (Option.some (Go.Addr.mk 1000 1 Option.none))) = (Go.Value.pointer (Option.some (Go.Addr.mk 1000 1 Option.none)))) ∧
 (((Go.Value.agg [(Go.Value.int Go.IntKind.i64 (c)), (Go.Value.int Go.IntKind.i64 (d))].toArray) = (Go.Value.agg [(Go.Value.int Go.IntKind.i64 (c)), (Go.Value.int Go.IntKind.i64 (d))].toArray)) ∧
 (((Go.Value.pointer (Option.some (Go.Addr.mk 1000 3 Option.none))) = (Go.Value.pointer (Option.some (Go.Addr.mk 1000 3 Option.none)))) ∧
 (((Go.Value.agg [(Go.Value.int Go.IntKind.i64 (a)), (Go.Value.int Go.IntKind.i64 (b))].toArray) = (Go.Value.agg [(Go.Value.int Go.IntKind.i64 (a)), (Go.Value.int Go.IntKind.i64 (b))].toArray)) ∧
 (((Go.Value.pointer (Option.some (Go.Addr.mk 1000 1 Option.none))) = (Go.Value.pointer (Option.some (Go.Addr.mk 1000 1 Option.none)))) ∧
 True)))))))))))))))))) ∧
 ((((Go.Value.int Go.IntKind.i64 (e)) = (Go.Value.int Go.IntKind.i64 (e))) ∧
 (((Go.Value.pointer (Option.some (Go.Addr.mk 1000 5 Option.none))) = (Go.Value.pointer (Option.some (Go.Addr.mk 1000 5 Option.none)))) ∧
 (((Go.Value.int Go.IntKind.i64 (d)) = (Go.Value.int Go.IntKind.i64 (d))) ∧
 (((Go.Value.pointer (Option.some (Go.Addr.mk 1000 4 Option.none))) = (Go.Value.pointer (Option.some (Go.Addr.mk 1000 4 Option.none)))) ∧
 (((Go.Value.pointer (Option.some (Go.Addr.mk 1000 3 Option.none))) = (Go.Value.pointer (Option.some (Go.Addr.mk 1000 3 Option.none)))) ∧
 (((Go.Value.int Go.IntKind.i64 (c)) = (Go.Value.int Go.IntKind.i64 (c))) ∧
 (((Go.Value.pointer (Option.some (Go.Addr.mk 1000 3 Option.none))) = (Go.Value.pointer (Option.some (Go.Addr.mk 1000 3 Option.none)))) ∧
 (((Go.Value.pointer (Option.some (Go.Addr.mk 1000 3 Option.none))) = (Go.Value.pointer (Option.some (Go.Addr.mk 1000 3 Option.none)))) ∧
 (((Go.Value.int Go.IntKind.i64 (b)) = (Go.Value.int Go.IntKind.i64 (b))) ∧
 (((Go.Value.pointer (Option.some (Go.Addr.mk 1000 2 Option.none))) = (Go.Value.pointer (Option.some (Go.Addr.mk 1000 2 Option.none)))) ∧
 (((Go.Value.pointer (Option.some (Go.Addr.mk 1000 1 Option.none))) = (Go.Value.pointer (Option.some (Go.Addr.mk 1000 1 Option.none)))) ∧
 (((Go.Value.int Go.IntKind.i64 (a)) = (Go.Value.int Go.IntKind.i64 (a))) ∧
 (((Go.Value.pointer (Option.some (Go.Addr.mk 1000 1 Option.none))) = (Go.Value.pointer (Option.some (Go.Addr.mk 1000 1 Option.none)))) ∧
 (((Go.Value.pointer (Option.some (Go.Addr.mk 1000 1 Option.none))) = (Go.Value.pointer (Option.some (Go.Addr.mk 1000 1 Option.none)))) ∧
 (((Go.Value.agg [(Go.Value.int Go.IntKind.i64 (c)), (Go.Value.int Go.IntKind.i64 (d))].toArray) = (Go.Value.agg [(Go.Value.int Go.IntKind.i64 (c)), (Go.Value.int Go.IntKind.i64 (d))].toArray)) ∧
 (((Go.Value.pointer (Option.some (Go.Addr.mk 1000 3 Option.none))) = (Go.Value.pointer (Option.some (Go.Addr.mk 1000 3 Option.none)))) ∧
 (((Go.Value.agg [(Go.Value.int Go.IntKind.i64 (a)), (Go.Value.int Go.IntKind.i64 (b))].toArray) = (Go.Value.agg [(Go.Value.int Go.IntKind.i64 (a)), (Go.Value.int Go.IntKind.i64 (b))].toArray)) ∧
 (((Go.Value.pointer (Option.some (Go.Addr.mk 1000 1 Option.none))) = (Go.Value.pointer (Option.some (Go.Addr.mk 1000 1 Option.none)))) ∧
 True)))))))))))))))))) ∧
 (True ∧
 (k [(D.val (Go.Value.int Go.IntKind.i64 (0 : Int))), (D.val (Go.Value.int Go.IntKind.i64 (n4)))]))))))))))))))))))))))
 False) := by kernel_rfl
def g23 (C : Ct) (L : AtLoop) (n cap : Nat) (l : List Value) (a b c d e : Int) (k : List D → Prop) : Prop := wpFn Try.prog (hM C) L 0 23 #[vR (S500 n cap) a b c d e] (heapOf [T500 l]) (dataK k)
theorem g23_text (C : Ct) (L : AtLoop) (n : Nat) (cap : Nat) (l : List Go.Value) (a : Int) (b : Int) (c : Int) (d : Int) (e : Int) (k : List D → Prop) : g23 C L n cap l a b c d e k =
 (bcase (decide (0 + n * 2 ≤ List.length l))
 (∃ n1 : Int,
 (∃ n2 : Int,
 ((Says C 14 [(D.sl (n) 2 (List.take (n * 2) (List.drop 0 l)))] [(D.val (Go.Value.int Go.IntKind.i64 (n1))), (D.val (Go.Value.int Go.IntKind.i64 (n2)))]) ∧
 (bcase (n2 != 0)
 (k [(D.val (Go.Value.int Go.IntKind.i64 (n1))), (D.val (Go.Value.int Go.IntKind.i64 (n2)))])
 (((Says C 30 [(D.agg [(D.val (Go.Value.int Go.IntKind.i64 (a))), (D.val (Go.Value.int Go.IntKind.i64 (b)))])] [(D.val (Go.Value.bool true))]) ∧
 (((Says C 30 [(D.agg [(D.val (Go.Value.int Go.IntKind.i64 (c))), (D.val (Go.Value.int Go.IntKind.i64 (d)))])] [(D.val (Go.Value.bool true))]) ∧
 (bcase (decide (1 ≤ a))
 (bcase (decide (a ≤ 900))
 (bcase (decide (b ≤ 900))
 (bcase (decide (1 ≤ c))
 (bcase (decide (c ≤ 900))
 (bcase (decide (d ≤ 900))
 (bcase (decide (0 ≤ e))
 (bcase (decide (e ≤ 900))
 (k [(D.val (Go.Value.int Go.IntKind.i64 (0 : Int))), (D.val (Go.Value.int Go.IntKind.i64 (0 : Int)))])
 (k [(D.val (Go.Value.int Go.IntKind.i64 (0 : Int))), (D.val (Go.Value.int Go.IntKind.i64 (2 : Int)))]))
 (k [(D.val (Go.Value.int Go.IntKind.i64 (0 : Int))), (D.val (Go.Value.int Go.IntKind.i64 (2 : Int)))]))
 (k [(D.val (Go.Value.int Go.IntKind.i64 (0 : Int))), (D.val (Go.Value.int Go.IntKind.i64 (2 : Int)))]))
 (k [(D.val (Go.Value.int Go.IntKind.i64 (0 : Int))), (D.val (Go.Value.int Go.IntKind.i64 (2 : Int)))]))
 (k [(D.val (Go.Value.int Go.IntKind.i64 (0 : Int))), (D.val (Go.Value.int Go.IntKind.i64 (2 : Int)))]))
 (k [(D.val (Go.Value.int Go.IntKind.i64 (0 : Int))), (D.val (Go.Value.int Go.IntKind.i64 (2 : Int)))]))
 (k [(D.val (Go.Value.int Go.IntKind.i64 (0 : Int))), (D.val (Go.Value.int Go.IntKind.i64 (2 : Int)))]))
 (k [(D.val (Go.Value.int Go.IntKind.i64 (0 : Int))), (D.val (Go.Value.int Go.IntKind.i64 (2 : Int)))]))) ∨
 ((Says C 30 [(D.agg [(D.val (Go.Value.int Go.IntKind.i64 (c))), (D.val (Go.Value.int Go.IntKind.i64 (d)))])] [(D.val (Go.Value.bool false))]) ∧
 (k [(D.val (Go.Value.int Go.IntKind.i64 (0 : Int))), (D.val (Go.Value.int Go.IntKind.i64 (3 : Int)))])))) ∨
 ((Says C 30 [(D.agg [(D.val (Go.Value.int Go.IntKind.i64 (a))), (D.val (Go.Value.int Go.IntKind.i64 (b)))])] [(D.val (Go.Value.bool false))]) ∧
 (k [(D.val (Go.Value.int Go.IntKind.i64 (0 : Int))), (D.val (Go.Value.int Go.IntKind.i64 (3 : Int)))])))))))
 False) := by kernel_rfl
def g21 (C : Ct) (L : AtLoop) (n cap : Nat) (l : List Value) (a b c d e v w : Int) (k : List D → Prop) : Prop := wpFn Try.prog (hM C) L 0 21 #[vR (S500 n cap) a b c d e, vP v w] (heapOf [T500 l]) (dataK k)
theorem g21_text (C : Ct) (L : AtLoop) (n : Nat) (cap : Nat) (l : List Go.Value) (a : Int) (b : Int) (c : Int) (d : Int) (e : Int) (v : Int) (w : Int) (k : List D → Prop) : g21 C L n cap l a b c d e v w k =
 (bcase (decide (0 + n * 2 ≤ List.length l))
 (∃ n1 : Int,
 (∃ n2 : Int,
 ((Says C 19 [(D.agg [(D.sl (n) 2 (List.take (n * 2) (List.drop 0 l))), (D.val (Go.Value.int Go.IntKind.i64 (a))), (D.val (Go.Value.int Go.IntKind.i64 (b))), (D.val (Go.Value.int Go.IntKind.i64 (c))), (D.val (Go.Value.int Go.IntKind.i64 (d))), (D.val (Go.Value.int Go.IntKind.i64 (e)))])] [(D.val (Go.Value.int Go.IntKind.i64 (n1))), (D.val (Go.Value.int Go.IntKind.i64 (n2)))]) ∧
 (((((Go.Value.slice (Option.some (Go.Addr.mk 1007 0 Option.none)) 1 1) = (Go.Value.slice (Option.some (Go.Addr.mk 1007 0 Option.none)) 1 1)) ∧
 ((Option.some (AObj.cells [(Go.Value.int Go.IntKind.i64 (w))] 3 false 1)) = (Option.some (AObj.cells [(Go.Value.int Go.IntKind.i64 (w))] 3 false 1)))) ∧
 (((Go.Value.int Go.IntKind.i64 (w)) = (Go.Value.int Go.IntKind.i64 (w))) ∧
 (((Go.Value.pointer (Option.some (Go.Addr.mk 1004 1 Option.none))) = (Go.Value.pointer (Option.some (Go.Addr.mk 1004 1 Option.none)))) ∧
 (((Go.Value.int Go.IntKind.i64 (e)) = (Go.Value.int Go.IntKind.i64 (e))) ∧
 (((Go.Value.pointer (Option.some (Go.Addr.mk 1003 5 Option.none))) = (Go.Value.pointer (Option.some (Go.Addr.mk 1003 5 Option.none)))) ∧
 ((((Go.Value.slice (Option.some (Go.Addr.mk 1006 0 Option.none)) 1 1) = (Go.Value.slice (Option.some (Go.Addr.mk 1006 0 Option.none)) 1 1)) ∧
 ((Option.some (AObj.cells [(Go.Value.int Go.IntKind.i64 (v))] 3 false 1)) = (Option.some (AObj.cells [(Go.Value.int Go.IntKind.i64 (v))] 3 false 1)))) ∧
 (((Go.Value.int Go.IntKind.i64 (v)) = (Go.Value.int Go.IntKind.i64 (v))) ∧
 (((Go.Value.pointer (Option.some (Go.Addr.mk 1004 0 Option.none))) = (Go.Value.pointer (Option.some (Go.Addr.mk 1004 0 Option.none)))) ∧
 (((Go.Value.int Go.IntKind.i64 (n2)) = (Go.Value.int Go.IntKind.i64 (n2))) ∧
 True))))))))) ∧
 (((((Go.Value.slice (Option.some (Go.Addr.mk 1007 0 Option.none)) 1 1) = (Go.Value.slice (Option.some (Go.Addr.mk 1007 0 Option.none)) 1 1)) ∧
 ((Option.some (AObj.cells [(Go.Value.int Go.IntKind.i64 (w))] 3 false 1)) = (Option.some (AObj.cells [(Go.Value.int Go.IntKind.i64 (w))] 3 false 1)))) ∧
 (((Go.Value.int Go.IntKind.i64 (w)) = (Go.Value.int Go.IntKind.i64 (w))) ∧
 (((Go.Value.pointer (Option.some (Go.Addr.mk 1004 1 Option.none))) = (Go.Value.pointer (Option.some (Go.Addr.mk 1004 1 Option.none)))) ∧
 (((Go.Value.int Go.IntKind.i64 (e)) = (Go.Value.int Go.IntKind.i64 (e))) ∧
 (((Go.Value.pointer (Option.some (Go.Addr.mk 1003 5 Option.none))) = (Go.Value.pointer (Option.some (Go.Addr.mk 1003 5 Option.none)))) ∧
 ((((Go.Value.slice (Option.some (Go.Addr.mk 1006 0 Option.none)) 1 1) = (Go.Value.slice (Option.some (Go.Addr.mk 1006 0 Option.none)) 1 1)) ∧
 ((Option.some (AObj.cells [(Go.Value.int Go.IntKind.i64 (v))] 3 false 1)) = (Option.some (AObj.cells [(Go.Value.int Go.IntKind.i64 (v))] 3 false 1)))) ∧
 (((Go.Value.int Go.IntKind.i64 (v)) = (Go.Value.int Go.IntKind.i64 (v))) ∧
 (((Go.Value.pointer (Option.some (Go.Addr.mk 1004 0 Option.none))) = (Go.Value.pointer (Option.some (Go.Addr.mk 1004 0 Option.none)))) ∧
 (((Go.Value.int Go.IntKind.i64 (n2)) = (Go.Value.int Go.IntKind.i64 (n2))) ∧
 True))))))))) ∧
 (∃ e1 : Int,
 ((Says limC 0 [(D.val (Go.Value.int Go.IntKind.i64 (0 : Int))), (D.val (Go.Value.int Go.IntKind.i64 (1000000 : Int))), (D.sl 1 1 [(Go.Value.int Go.IntKind.i64 (v))])] [(D.val (Go.Value.int Go.IntKind.i64 (e1)))]) ∧
 (((((Go.Value.slice (Option.some (Go.Addr.mk 1007 0 Option.none)) 1 1) = (Go.Value.slice (Option.some (Go.Addr.mk 1007 0 Option.none)) 1 1)) ∧
 ((Option.some (AObj.cells [(Go.Value.int Go.IntKind.i64 (w))] 3 false 1)) = (Option.some (AObj.cells [(Go.Value.int Go.IntKind.i64 (w))] 3 false 1)))) ∧
 (((Go.Value.int Go.IntKind.i64 (w)) = (Go.Value.int Go.IntKind.i64 (w))) ∧
 (((Go.Value.pointer (Option.some (Go.Addr.mk 1004 1 Option.none))) = (Go.Value.pointer (Option.some (Go.Addr.mk 1004 1 Option.none)))) ∧
 (((Go.Value.int Go.IntKind.i64 (e)) = (Go.Value.int Go.IntKind.i64 (e))) ∧
 (((Go.Value.pointer (Option.some (Go.Addr.mk 1003 5 Option.none))) = (Go.Value.pointer (Option.some (Go.Addr.mk 1003 5 Option.none)))) ∧
 (((Go.Value.int Go.IntKind.i64 (v)) = (Go.Value.int Go.IntKind.i64 (v))) ∧
 (((Go.Value.pointer (Option.some (Go.Addr.mk 1004 0 Option.none))) = (Go.Value.pointer (Option.some (Go.Addr.mk 1004 0 Option.none)))) ∧
 (((Go.Value.int Go.IntKind.i64 (n2)) = (Go.Value.int Go.IntKind.i64 (n2))) ∧
 True)))))))) ∧
 (((((Go.Value.slice (Option.some (Go.Addr.mk 1007 0 Option.none)) 1 1) = (Go.Value.slice (Option.some (Go.Addr.mk 1007 0 Option.none)) 1 1)) ∧
 ((Option.some (AObj.cells [(Go.Value.int Go.IntKind.i64 (w))] 3 false 1)) = (Option.some (AObj.cells [(Go.Value.int Go.IntKind.i64 (w))] 3 false 1)))) ∧
 (((Go.Value.int Go.IntKind.i64 (w)) = (Go.Value.int Go.IntKind.i64 (w))) ∧
 (((Go.Value.pointer (Option.some (Go.Addr.mk 1004 1 Option.none))) = (Go.Value.pointer (Option.some (Go.Addr.mk 1004 1 Option.none)))) ∧
 (((Go.Value.pointer (Option.some (Go.Addr.mk 1003 5 Option.none))) = (Go.Value.pointer (Option.some (Go.Addr.mk 1003 5 Option.none)))) ∧
 (((Go.Value.int Go.IntKind.i64 (v)) = (Go.Value.int Go.IntKind.i64 (v))) ∧
 (((Go.Value.pointer (Option.some (Go.Addr.mk 1004 0 Option.none))) = (Go.Value.pointer (Option.some (Go.Addr.mk 1004 0 Option.none)))) ∧
 (((Go.Value.int Go.IntKind.i64 (n2)) = (Go.Value.int Go.IntKind.i64 (n2))) ∧
 True))))))) ∧
 (∃ e2 : Int,
 ((Says limC 0 [(D.val (Go.Value.int Go.IntKind.i64 (0 : Int))), (D.val (Go.Value.int Go.IntKind.i64 (e))), (D.sl 1 1 [(Go.Value.int Go.IntKind.i64 (w))])] [(D.val (Go.Value.int Go.IntKind.i64 (e2)))]) ∧
 (((((Go.Value.slice (Option.some (Go.Addr.mk 1012 0 Option.none)) 3 3) = (Go.Value.slice (Option.some (Go.Addr.mk 1012 0 Option.none)) 3 3)) ∧
 ((Option.some (AObj.cells [(Go.Value.int Go.IntKind.i64 (n2)), (Go.Value.int Go.IntKind.i64 (e1)), (Go.Value.int Go.IntKind.i64 (e2))] 26 false 1)) = (Option.some (AObj.cells [(Go.Value.int Go.IntKind.i64 (n2)), (Go.Value.int Go.IntKind.i64 (e1)), (Go.Value.int Go.IntKind.i64 (e2))] 26 false 1)))) ∧
 (((Go.Value.int Go.IntKind.i64 (w)) = (Go.Value.int Go.IntKind.i64 (w))) ∧
 (((Go.Value.pointer (Option.some (Go.Addr.mk 1004 1 Option.none))) = (Go.Value.pointer (Option.some (Go.Addr.mk 1004 1 Option.none)))) ∧
 (((Go.Value.pointer (Option.some (Go.Addr.mk 1003 5 Option.none))) = (Go.Value.pointer (Option.some (Go.Addr.mk 1003 5 Option.none)))) ∧
 (((Go.Value.int Go.IntKind.i64 (v)) = (Go.Value.int Go.IntKind.i64 (v))) ∧
 (((Go.Value.pointer (Option.some (Go.Addr.mk 1004 0 Option.none))) = (Go.Value.pointer (Option.some (Go.Addr.mk 1004 0 Option.none)))) ∧
 (((Go.Value.int Go.IntKind.i64 (n2)) = (Go.Value.int Go.IntKind.i64 (n2))) ∧
 True))))))) ∧
 (∃ n3 : Int,
 ((Says C 54 [(D.sl 3 1 [(Go.Value.int Go.IntKind.i64 (n2)), (Go.Value.int Go.IntKind.i64 (e1)), (Go.Value.int Go.IntKind.i64 (e2))])] [(D.val (Go.Value.int Go.IntKind.i64 (n3)))]) ∧
 ((((Go.Value.int Go.IntKind.i64 (w)) = (Go.Value.int Go.IntKind.i64 (w))) ∧
 (((Go.Value.pointer (Option.some (Go.Addr.mk 1004 1 Option.none))) = (Go.Value.pointer (Option.some (Go.Addr.mk 1004 1 Option.none)))) ∧
 (((Go.Value.pointer (Option.some (Go.Addr.mk 1003 5 Option.none))) = (Go.Value.pointer (Option.some (Go.Addr.mk 1003 5 Option.none)))) ∧
 (((Go.Value.int Go.IntKind.i64 (v)) = (Go.Value.int Go.IntKind.i64 (v))) ∧
 (((Go.Value.pointer (Option.some (Go.Addr.mk 1004 0 Option.none))) = (Go.Value.pointer (Option.some (Go.Addr.mk 1004 0 Option.none)))) ∧
 (((Go.Value.int Go.IntKind.i64 (n2)) = (Go.Value.int Go.IntKind.i64 (n2))) ∧
 True)))))) ∧
 (True ∧
 (bcase (n3 != 0)
 (bcase (n3 != 0)
 (k [(D.agg [(D.val (Go.Value.int Go.IntKind.i64 (0 : Int))), (D.val (Go.Value.int Go.IntKind.i64 (0 : Int)))]), (D.val (Go.Value.int Go.IntKind.i64 (n3)))])
 (∃ n4 : Int,
 (∃ n5 : Int,
 ((Says C 65 [(D.val (Go.Value.int Go.IntKind.i64 (Go.IntKind.wrap Go.IntKind.i64 (Go.IntKind.wrap Go.IntKind.i64 (0 * 0) + Go.IntKind.wrap Go.IntKind.i64 (Go.IntKind.wrap Go.IntKind.i64 (w * 0) * 0))))), (D.val (Go.Value.int Go.IntKind.i64 (0 : Int)))] [(D.agg [(D.val (Go.Value.int Go.IntKind.i64 (n4))), (D.val (Go.Value.int Go.IntKind.i64 (n5)))])]) ∧
 (k [(D.agg [(D.val (Go.Value.int Go.IntKind.i64 (n4))), (D.val (Go.Value.int Go.IntKind.i64 (n5)))]), (D.val (Go.Value.int Go.IntKind.i64 (0 : Int)))])))))
 (∃ n4 : Int,
 (∃ n5 : Int,
 ((Says C 65 [(D.val (Go.Value.int Go.IntKind.i64 (Go.IntKind.wrap Go.IntKind.i64 (Go.IntKind.wrap Go.IntKind.i64 (a * d) + Go.IntKind.wrap Go.IntKind.i64 (Go.IntKind.wrap Go.IntKind.i64 (w * c) * b))))), (D.val (Go.Value.int Go.IntKind.i64 (Go.IntKind.wrap Go.IntKind.i64 (b * d))))] [(D.agg [(D.val (Go.Value.int Go.IntKind.i64 (n4))), (D.val (Go.Value.int Go.IntKind.i64 (n5)))])]) ∧
 (k [(D.agg [(D.val (Go.Value.int Go.IntKind.i64 (n4))), (D.val (Go.Value.int Go.IntKind.i64 (n5)))]), (D.val (Go.Value.int Go.IntKind.i64 (0 : Int)))])))))))))))))))))))))
 False) := by kernel_rfl
def g22 (C : Ct) (L : AtLoop) (n cap : Nat) (l : List Value) (a b c d e v w x : Int) (k : List D → Prop) : Prop := wpFn Try.prog (hM C) L 0 22 #[vR (S500 n cap) a b c d e, vP v w, vI x] (heapOf [T500 l]) (dataK k)
theorem g22_text (C : Ct) (L : AtLoop) (n : Nat) (cap : Nat) (l : List Go.Value) (a : Int) (b : Int) (c : Int) (d : Int) (e : Int) (v : Int) (w : Int) (x : Int) (k : List D → Prop) : g22 C L n cap l a b c d e v w x k =
 (bcase (decide (0 + n * 2 ≤ List.length l))
 (∃ n1 : Int,
 (∃ n2 : Int,
 ((Says C 19 [(D.agg [(D.sl (n) 2 (List.take (n * 2) (List.drop 0 l))), (D.val (Go.Value.int Go.IntKind.i64 (a))), (D.val (Go.Value.int Go.IntKind.i64 (b))), (D.val (Go.Value.int Go.IntKind.i64 (c))), (D.val (Go.Value.int Go.IntKind.i64 (d))), (D.val (Go.Value.int Go.IntKind.i64 (e)))])] [(D.val (Go.Value.int Go.IntKind.i64 (n1))), (D.val (Go.Value.int Go.IntKind.i64 (n2)))]) ∧
 (((((Go.Value.slice (Option.some (Go.Addr.mk 1007 0 Option.none)) 1 1) = (Go.Value.slice (Option.some (Go.Addr.mk 1007 0 Option.none)) 1 1)) ∧
 ((Option.some (AObj.cells [(Go.Value.int Go.IntKind.i64 (w))] 3 false 1)) = (Option.some (AObj.cells [(Go.Value.int Go.IntKind.i64 (w))] 3 false 1)))) ∧
 (((Go.Value.int Go.IntKind.i64 (w)) = (Go.Value.int Go.IntKind.i64 (w))) ∧
 (((Go.Value.pointer (Option.some (Go.Addr.mk 1004 1 Option.none))) = (Go.Value.pointer (Option.some (Go.Addr.mk 1004 1 Option.none)))) ∧
 (((Go.Value.int Go.IntKind.i64 (e)) = (Go.Value.int Go.IntKind.i64 (e))) ∧
 (((Go.Value.pointer (Option.some (Go.Addr.mk 1003 5 Option.none))) = (Go.Value.pointer (Option.some (Go.Addr.mk 1003 5 Option.none)))) ∧
 ((((Go.Value.slice (Option.some (Go.Addr.mk 1006 0 Option.none)) 1 1) = (Go.Value.slice (Option.some (Go.Addr.mk 1006 0 Option.none)) 1 1)) ∧
 ((Option.some (AObj.cells [(Go.Value.int Go.IntKind.i64 (v))] 3 false 1)) = (Option.some (AObj.cells [(Go.Value.int Go.IntKind.i64 (v))] 3 false 1)))) ∧
 (((Go.Value.int Go.IntKind.i64 (v)) = (Go.Value.int Go.IntKind.i64 (v))) ∧
 (((Go.Value.pointer (Option.some (Go.Addr.mk 1004 0 Option.none))) = (Go.Value.pointer (Option.some (Go.Addr.mk 1004 0 Option.none)))) ∧
 (((Go.Value.int Go.IntKind.i64 (n2)) = (Go.Value.int Go.IntKind.i64 (n2))) ∧
 True))))))))) ∧
 (((((Go.Value.slice (Option.some (Go.Addr.mk 1007 0 Option.none)) 1 1) = (Go.Value.slice (Option.some (Go.Addr.mk 1007 0 Option.none)) 1 1)) ∧
 ((Option.some (AObj.cells [(Go.Value.int Go.IntKind.i64 (w))] 3 false 1)) = (Option.some (AObj.cells [(Go.Value.int Go.IntKind.i64 (w))] 3 false 1)))) ∧
 (((Go.Value.int Go.IntKind.i64 (w)) = (Go.Value.int Go.IntKind.i64 (w))) ∧
 (((Go.Value.pointer (Option.some (Go.Addr.mk 1004 1 Option.none))) = (Go.Value.pointer (Option.some (Go.Addr.mk 1004 1 Option.none)))) ∧
 (((Go.Value.int Go.IntKind.i64 (e)) = (Go.Value.int Go.IntKind.i64 (e))) ∧
 (((Go.Value.pointer (Option.some (Go.Addr.mk 1003 5 Option.none))) = (Go.Value.pointer (Option.some (Go.Addr.mk 1003 5 Option.none)))) ∧
 ((((Go.Value.slice (Option.some (Go.Addr.mk 1006 0 Option.none)) 1 1) = (Go.Value.slice (Option.some (Go.Addr.mk 1006 0 Option.none)) 1 1)) ∧
 ((Option.some (AObj.cells [(Go.Value.int Go.IntKind.i64 (v))] 3 false 1)) = (Option.some (AObj.cells [(Go.Value.int Go.IntKind.i64 (v))] 3 false 1)))) ∧
 (((Go.Value.int Go.IntKind.i64 (v)) = (Go.Value.int Go.IntKind.i64 (v))) ∧
 (((Go.Value.pointer (Option.some (Go.Addr.mk 1004 0 Option.none))) = (Go.Value.pointer (Option.some (Go.Addr.mk 1004 0 Option.none)))) ∧
 (((Go.Value.int Go.IntKind.i64 (n2)) = (Go.Value.int Go.IntKind.i64 (n2))) ∧
 True))))))))) ∧
 (∃ e1 : Int,
 ((Says limC 0 [(D.val (Go.Value.int Go.IntKind.i64 (0 : Int))), (D.val (Go.Value.int Go.IntKind.i64 (1000000 : Int))), (D.sl 1 1 [(Go.Value.int Go.IntKind.i64 (v))])] [(D.val (Go.Value.int Go.IntKind.i64 (e1)))]) ∧
 (((((Go.Value.slice (Option.some (Go.Addr.mk 1007 0 Option.none)) 1 1) = (Go.Value.slice (Option.some (Go.Addr.mk 1007 0 Option.none)) 1 1)) ∧
 ((Option.some (AObj.cells [(Go.Value.int Go.IntKind.i64 (w))] 3 false 1)) = (Option.some (AObj.cells [(Go.Value.int Go.IntKind.i64 (w))] 3 false 1)))) ∧
 (((Go.Value.int Go.IntKind.i64 (w)) = (Go.Value.int Go.IntKind.i64 (w))) ∧
 (((Go.Value.pointer (Option.some (Go.Addr.mk 1004 1 Option.none))) = (Go.Value.pointer (Option.some (Go.Addr.mk 1004 1 Option.none)))) ∧
 (((Go.Value.int Go.IntKind.i64 (e)) = (Go.Value.int Go.IntKind.i64 (e))) ∧
 (((Go.Value.pointer (Option.some (Go.Addr.mk 1003 5 Option.none))) = (Go.Value.pointer (Option.some (Go.Addr.mk 1003 5 Option.none)))) ∧
 (((Go.Value.int Go.IntKind.i64 (v)) = (Go.Value.int Go.IntKind.i64 (v))) ∧
 (((Go.Value.pointer (Option.some (Go.Addr.mk 1004 0 Option.none))) = (Go.Value.pointer (Option.some (Go.Addr.mk 1004 0 Option.none)))) ∧
 (((Go.Value.int Go.IntKind.i64 (n2)) = (Go.Value.int Go.IntKind.i64 (n2))) ∧
 True)))))))) ∧
 (((((Go.Value.slice (Option.some (Go.Addr.mk 1007 0 Option.none)) 1 1) = (Go.Value.slice (Option.some (Go.Addr.mk 1007 0 Option.none)) 1 1)) ∧
 ((Option.some (AObj.cells [(Go.Value.int Go.IntKind.i64 (w))] 3 false 1)) = (Option.some (AObj.cells [(Go.Value.int Go.IntKind.i64 (w))] 3 false 1)))) ∧
 (((Go.Value.int Go.IntKind.i64 (w)) = (Go.Value.int Go.IntKind.i64 (w))) ∧
 (((Go.Value.pointer (Option.some (Go.Addr.mk 1004 1 Option.none))) = (Go.Value.pointer (Option.some (Go.Addr.mk 1004 1 Option.none)))) ∧
 (((Go.Value.pointer (Option.some (Go.Addr.mk 1003 5 Option.none))) = (Go.Value.pointer (Option.some (Go.Addr.mk 1003 5 Option.none)))) ∧
 (((Go.Value.int Go.IntKind.i64 (v)) = (Go.Value.int Go.IntKind.i64 (v))) ∧
 (((Go.Value.pointer (Option.some (Go.Addr.mk 1004 0 Option.none))) = (Go.Value.pointer (Option.some (Go.Addr.mk 1004 0 Option.none)))) ∧
 (((Go.Value.int Go.IntKind.i64 (n2)) = (Go.Value.int Go.IntKind.i64 (n2))) ∧
 True))))))) ∧
 (∃ e2 : Int,
 ((Says limC 0 [(D.val (Go.Value.int Go.IntKind.i64 (0 : Int))), (D.val (Go.Value.int Go.IntKind.i64 (e))), (D.sl 1 1 [(Go.Value.int Go.IntKind.i64 (w))])] [(D.val (Go.Value.int Go.IntKind.i64 (e2)))]) ∧
 (((((Go.Value.slice (Option.some (Go.Addr.mk 1012 0 Option.none)) 3 3) = (Go.Value.slice (Option.some (Go.Addr.mk 1012 0 Option.none)) 3 3)) ∧
 ((Option.some (AObj.cells [(Go.Value.int Go.IntKind.i64 (n2)), (Go.Value.int Go.IntKind.i64 (e1)), (Go.Value.int Go.IntKind.i64 (e2))] 26 false 1)) = (Option.some (AObj.cells [(Go.Value.int Go.IntKind.i64 (n2)), (Go.Value.int Go.IntKind.i64 (e1)), (Go.Value.int Go.IntKind.i64 (e2))] 26 false 1)))) ∧
 (((Go.Value.int Go.IntKind.i64 (w)) = (Go.Value.int Go.IntKind.i64 (w))) ∧
 (((Go.Value.pointer (Option.some (Go.Addr.mk 1004 1 Option.none))) = (Go.Value.pointer (Option.some (Go.Addr.mk 1004 1 Option.none)))) ∧
 (((Go.Value.pointer (Option.some (Go.Addr.mk 1003 5 Option.none))) = (Go.Value.pointer (Option.some (Go.Addr.mk 1003 5 Option.none)))) ∧
 (((Go.Value.int Go.IntKind.i64 (v)) = (Go.Value.int Go.IntKind.i64 (v))) ∧
 (((Go.Value.pointer (Option.some (Go.Addr.mk 1004 0 Option.none))) = (Go.Value.pointer (Option.some (Go.Addr.mk 1004 0 Option.none)))) ∧
 (((Go.Value.int Go.IntKind.i64 (n2)) = (Go.Value.int Go.IntKind.i64 (n2))) ∧
 True))))))) ∧
 (∃ n3 : Int,
 ((Says C 54 [(D.sl 3 1 [(Go.Value.int Go.IntKind.i64 (n2)), (Go.Value.int Go.IntKind.i64 (e1)), (Go.Value.int Go.IntKind.i64 (e2))])] [(D.val (Go.Value.int Go.IntKind.i64 (n3)))]) ∧
 ((((Go.Value.int Go.IntKind.i64 (w)) = (Go.Value.int Go.IntKind.i64 (w))) ∧
 (((Go.Value.pointer (Option.some (Go.Addr.mk 1004 1 Option.none))) = (Go.Value.pointer (Option.some (Go.Addr.mk 1004 1 Option.none)))) ∧
 (((Go.Value.pointer (Option.some (Go.Addr.mk 1003 5 Option.none))) = (Go.Value.pointer (Option.some (Go.Addr.mk 1003 5 Option.none)))) ∧
 (((Go.Value.int Go.IntKind.i64 (v)) = (Go.Value.int Go.IntKind.i64 (v))) ∧
 (((Go.Value.pointer (Option.some (Go.Addr.mk 1004 0 Option.none))) = (Go.Value.pointer (Option.some (Go.Addr.mk 1004 0 Option.none)))) ∧
 (((Go.Value.int Go.IntKind.i64 (n2)) = (Go.Value.int Go.IntKind.i64 (n2))) ∧
 True)))))) ∧
 (True ∧
 (bcase (n3 != 0)
 (∃ n4 : Int,
 ((Says C 55 [(D.sl 1 1 [(Go.Value.int Go.IntKind.i64 (x))])] [(D.val (Go.Value.int Go.IntKind.i64 (n4)))]) ∧
 (∃ n5 : Int,
 ((Says C 54 [(D.sl 2 1 [(Go.Value.int Go.IntKind.i64 (n3)), (Go.Value.int Go.IntKind.i64 (n4))])] [(D.val (Go.Value.int Go.IntKind.i64 (n5)))]) ∧
 (bcase (n5 != 0)
 (k [(D.agg [(D.val (Go.Value.int Go.IntKind.i64 (0 : Int))), (D.val (Go.Value.int Go.IntKind.i64 (0 : Int)))]), (D.val (Go.Value.int Go.IntKind.i64 (n5)))])
 ((((Go.Value.int Go.IntKind.i64 (x)) = (Go.Value.int Go.IntKind.i64 (x))) ∧
 (((Go.Value.slice Option.none 0 0) = (Go.Value.slice Option.none 0 0)) ∧
 (((Go.Value.pointer (Option.some (Go.Addr.mk 1013 0 Option.none))) = (Go.Value.pointer (Option.some (Go.Addr.mk 1013 0 Option.none)))) ∧
 (((Go.Value.pointer (Option.some (Go.Addr.mk 1013 0 Option.none))) = (Go.Value.pointer (Option.some (Go.Addr.mk 1013 0 Option.none)))) ∧
 (((Go.Value.int Go.IntKind.i64 (Go.IntKind.wrap Go.IntKind.i64 (Go.IntKind.wrap Go.IntKind.i64 (0 * 0) + Go.IntKind.wrap Go.IntKind.i64 (Go.IntKind.wrap Go.IntKind.i64 (w * 0) * 0)))) = (Go.Value.int Go.IntKind.i64 (Go.IntKind.wrap Go.IntKind.i64 (Go.IntKind.wrap Go.IntKind.i64 (0 * 0) + Go.IntKind.wrap Go.IntKind.i64 (Go.IntKind.wrap Go.IntKind.i64 (w * 0) * 0))))) ∧
 (((Go.Value.pointer (Option.some (Go.Addr.mk 1018 0 Option.none))) = (Go.Value.pointer (Option.some (Go.Addr.mk 1018 0 Option.none)))) ∧
 True)))))) ∧
 (∃ n6 : Int,
 ((Says C 57 [D.nil, (D.val (Go.Value.int Go.IntKind.i64 (x)))] [(D.val (Go.Value.int Go.IntKind.i64 (n6)))]) ∧
 ((((Go.Value.pointer (Option.some (Go.Addr.mk 1018 0 Option.none))) = (Go.Value.pointer (Option.some (Go.Addr.mk 1018 0 Option.none)))) ∧
 (((Go.Value.int Go.IntKind.i64 (Go.IntKind.wrap Go.IntKind.i64 (Go.IntKind.wrap Go.IntKind.i64 (Go.IntKind.wrap Go.IntKind.i64 (0 * 0) + Go.IntKind.wrap Go.IntKind.i64 (Go.IntKind.wrap Go.IntKind.i64 (w * 0) * 0)) * n6))) = (Go.Value.int Go.IntKind.i64 (Go.IntKind.wrap Go.IntKind.i64 (Go.IntKind.wrap Go.IntKind.i64 (Go.IntKind.wrap Go.IntKind.i64 (0 * 0) + Go.IntKind.wrap Go.IntKind.i64 (Go.IntKind.wrap Go.IntKind.i64 (w * 0) * 0)) * n6)))) ∧
 (((Go.Value.pointer (Option.some (Go.Addr.mk 1013 0 Option.none))) = (Go.Value.pointer (Option.some (Go.Addr.mk 1013 0 Option.none)))) ∧
 (((Go.Value.pointer (Option.some (Go.Addr.mk 1013 0 Option.none))) = (Go.Value.pointer (Option.some (Go.Addr.mk 1013 0 Option.none)))) ∧
 (((Go.Value.int Go.IntKind.i64 (Go.IntKind.wrap Go.IntKind.i64 (Go.IntKind.wrap Go.IntKind.i64 (0 * 0) + Go.IntKind.wrap Go.IntKind.i64 (Go.IntKind.wrap Go.IntKind.i64 (w * 0) * 0)))) = (Go.Value.int Go.IntKind.i64 (Go.IntKind.wrap Go.IntKind.i64 (Go.IntKind.wrap Go.IntKind.i64 (0 * 0) + Go.IntKind.wrap Go.IntKind.i64 (Go.IntKind.wrap Go.IntKind.i64 (w * 0) * 0))))) ∧
 (((Go.Value.pointer (Option.some (Go.Addr.mk 1018 0 Option.none))) = (Go.Value.pointer (Option.some (Go.Addr.mk 1018 0 Option.none)))) ∧
 True)))))) ∧
 (True ∧
 (∃ n7 : Int,
 (∃ n8 : Int,
 (∃ n9 : Int,
 ((Says C 66 [(D.agg [(D.val (Go.Value.int Go.IntKind.i64 (Go.IntKind.wrap Go.IntKind.i64 (Go.IntKind.wrap Go.IntKind.i64 (Go.IntKind.wrap Go.IntKind.i64 (0 * 0) + Go.IntKind.wrap Go.IntKind.i64 (Go.IntKind.wrap Go.IntKind.i64 (w * 0) * 0)) * n6)))), (D.val (Go.Value.int Go.IntKind.i64 (0 : Int)))])] [(D.agg [(D.val (Go.Value.int Go.IntKind.i64 (n7))), (D.val (Go.Value.int Go.IntKind.i64 (n8)))]), (D.val (Go.Value.int Go.IntKind.i64 (n9)))]) ∧
 (k [(D.agg [(D.val (Go.Value.int Go.IntKind.i64 (n7))), (D.val (Go.Value.int Go.IntKind.i64 (n8)))]), (D.val (Go.Value.int Go.IntKind.i64 (n9)))])))))))))))))))
 (∃ n4 : Int,
 ((Says C 55 [(D.sl 1 1 [(Go.Value.int Go.IntKind.i64 (x))])] [(D.val (Go.Value.int Go.IntKind.i64 (n4)))]) ∧
 (∃ n5 : Int,
 ((Says C 54 [(D.sl 2 1 [(Go.Value.int Go.IntKind.i64 (0 : Int)), (Go.Value.int Go.IntKind.i64 (n4))])] [(D.val (Go.Value.int Go.IntKind.i64 (n5)))]) ∧
 (bcase (n5 != 0)
 (k [(D.agg [(D.val (Go.Value.int Go.IntKind.i64 (0 : Int))), (D.val (Go.Value.int Go.IntKind.i64 (0 : Int)))]), (D.val (Go.Value.int Go.IntKind.i64 (n5)))])
 ((((Go.Value.int Go.IntKind.i64 (x)) = (Go.Value.int Go.IntKind.i64 (x))) ∧
 (((Go.Value.slice (Option.some (Go.Addr.mk 500 0 Option.none)) (n) (cap)) = (Go.Value.slice (Option.some (Go.Addr.mk 500 0 Option.none)) (n) (cap))) ∧
 (((Go.Value.pointer (Option.some (Go.Addr.mk 1013 0 Option.none))) = (Go.Value.pointer (Option.some (Go.Addr.mk 1013 0 Option.none)))) ∧
 (((Go.Value.pointer (Option.some (Go.Addr.mk 1013 0 Option.none))) = (Go.Value.pointer (Option.some (Go.Addr.mk 1013 0 Option.none)))) ∧
 (((Go.Value.int Go.IntKind.i64 (Go.IntKind.wrap Go.IntKind.i64 (Go.IntKind.wrap Go.IntKind.i64 (a * d) + Go.IntKind.wrap Go.IntKind.i64 (Go.IntKind.wrap Go.IntKind.i64 (w * c) * b)))) = (Go.Value.int Go.IntKind.i64 (Go.IntKind.wrap Go.IntKind.i64 (Go.IntKind.wrap Go.IntKind.i64 (a * d) + Go.IntKind.wrap Go.IntKind.i64 (Go.IntKind.wrap Go.IntKind.i64 (w * c) * b))))) ∧
 (((Go.Value.pointer (Option.some (Go.Addr.mk 1018 0 Option.none))) = (Go.Value.pointer (Option.some (Go.Addr.mk 1018 0 Option.none)))) ∧
 True)))))) ∧
 (bcase (decide (0 + n * 2 ≤ List.length l))
 (∃ n6 : Int,
 ((Says C 57 [(D.sl (n) 2 (List.take (n * 2) (List.drop 0 l))), (D.val (Go.Value.int Go.IntKind.i64 (x)))] [(D.val (Go.Value.int Go.IntKind.i64 (n6)))]) ∧
 ((((Go.Value.pointer (Option.some (Go.Addr.mk 1018 0 Option.none))) = (Go.Value.pointer (Option.some (Go.Addr.mk 1018 0 Option.none)))) ∧
 (((Go.Value.int Go.IntKind.i64 (Go.IntKind.wrap Go.IntKind.i64 (Go.IntKind.wrap Go.IntKind.i64 (Go.IntKind.wrap Go.IntKind.i64 (a * d) + Go.IntKind.wrap Go.IntKind.i64 (Go.IntKind.wrap Go.IntKind.i64 (w * c) * b)) * n6))) = (Go.Value.int Go.IntKind.i64 (Go.IntKind.wrap Go.IntKind.i64 (Go.IntKind.wrap Go.IntKind.i64 (Go.IntKind.wrap Go.IntKind.i64 (a * d) + Go.IntKind.wrap Go.IntKind.i64 (Go.IntKind.wrap Go.IntKind.i64 (w * c) * b)) * n6)))) ∧
 (((Go.Value.pointer (Option.some (Go.Addr.mk 1013 0 Option.none))) = (Go.Value.pointer (Option.some (Go.Addr.mk 1013 0 Option.none)))) ∧
 (((Go.Value.pointer (Option.some (Go.Addr.mk 1013 0 Option.none))) = (Go.Value.pointer (Option.some (Go.Addr.mk 1013 0 Option.none)))) ∧
 (((Go.Value.int Go.IntKind.i64 (Go.IntKind.wrap Go.IntKind.i64 (Go.IntKind.wrap Go.IntKind.i64 (a * d) + Go.IntKind.wrap Go.IntKind.i64 (Go.IntKind.wrap Go.IntKind.i64 (w * c) * b)))) = (Go.Value.int Go.IntKind.i64 (Go.IntKind.wrap Go.IntKind.i64 (Go.IntKind.wrap Go.IntKind.i64 (a * d) + Go.IntKind.wrap Go.IntKind.i64 (Go.IntKind.wrap Go.IntKind.i64 (w * c) * b))))) ∧
 (((Go.Value.pointer (Option.some (Go.Addr.mk 1018 0 Option.none))) = (Go.Value.pointer (Option.some (Go.Addr.mk 1018 0 Option.none)))) ∧
 True)))))) ∧
 (True ∧
 (∃ n7 : Int,
 (∃ n8 : Int,
 (∃ n9 : Int,
 ((Says C 66 [(D.agg [(D.val (Go.Value.int Go.IntKind.i64 (Go.IntKind.wrap Go.IntKind.i64 (Go.IntKind.wrap Go.IntKind.i64 (Go.IntKind.wrap Go.IntKind.i64 (a * d) + Go.IntKind.wrap Go.IntKind.i64 (Go.IntKind.wrap Go.IntKind.i64 (w * c) * b)) * n6)))), (D.val (Go.Value.int Go.IntKind.i64 (Go.IntKind.wrap Go.IntKind.i64 (b * d))))])] [(D.agg [(D.val (Go.Value.int Go.IntKind.i64 (n7))), (D.val (Go.Value.int Go.IntKind.i64 (n8)))]), (D.val (Go.Value.int Go.IntKind.i64 (n9)))]) ∧
 (k [(D.agg [(D.val (Go.Value.int Go.IntKind.i64 (n7))), (D.val (Go.Value.int Go.IntKind.i64 (n8)))]), (D.val (Go.Value.int Go.IntKind.i64 (n9)))])))))))))
 False))))))))))))))))))))))))
 False) := by kernel_rfl
def g25 (C : Ct) (L : AtLoop) (n cap : Nat) (l : List Value) (a b c d e v w : Int) (k : List D → Prop) : Prop := wpFn Try.prog (hM C) L 0 25 #[vR (S500 n cap) a b c d e, vP v w] (heapOf [T500 l]) (dataK k)
theorem g25_text (C : Ct) (L : AtLoop) (n : Nat) (cap : Nat) (l : List Go.Value) (a : Int) (b : Int) (c : Int) (d : Int) (e : Int) (v : Int) (w : Int) (k : List D → Prop) : g25 C L n cap l a b c d e v w k =
 ((((Go.Value.int Go.IntKind.i64 (Go.IntKind.wrap Go.IntKind.i64 (b * d))) = (Go.Value.int Go.IntKind.i64 (Go.IntKind.wrap Go.IntKind.i64 (b * d)))) ∧
 (((Go.Value.int Go.IntKind.i64 (d)) = (Go.Value.int Go.IntKind.i64 (d))) ∧
 (((Go.Value.pointer (Option.some (Go.Addr.mk 1003 4 Option.none))) = (Go.Value.pointer (Option.some (Go.Addr.mk 1003 4 Option.none)))) ∧
 (((Go.Value.pointer (Option.some (Go.Addr.mk 1003 3 Option.none))) = (Go.Value.pointer (Option.some (Go.Addr.mk 1003 3 Option.none)))) ∧
 (((Go.Value.int Go.IntKind.i64 (b)) = (Go.Value.int Go.IntKind.i64 (b))) ∧
 (((Go.Value.pointer (Option.some (Go.Addr.mk 1003 2 Option.none))) = (Go.Value.pointer (Option.some (Go.Addr.mk 1003 2 Option.none)))) ∧
 (((Go.Value.pointer (Option.some (Go.Addr.mk 1003 1 Option.none))) = (Go.Value.pointer (Option.some (Go.Addr.mk 1003 1 Option.none)))) ∧
 (((Go.Value.int Go.IntKind.i64 (Go.IntKind.wrap Go.IntKind.i64 (Go.IntKind.wrap Go.IntKind.i64 (a * d) + Go.IntKind.wrap Go.IntKind.i64 (Go.IntKind.wrap Go.IntKind.i64 (w * c) * b)))) = (Go.Value.int Go.IntKind.i64 (Go.IntKind.wrap Go.IntKind.i64 (Go.IntKind.wrap Go.IntKind.i64 (a * d) + Go.IntKind.wrap Go.IntKind.i64 (Go.IntKind.wrap Go.IntKind.i64 (w * c) * b))))) ∧
 (((Go.Value.int Go.IntKind.i64 (Go.IntKind.wrap Go.IntKind.i64 (Go.IntKind.wrap Go.IntKind.i64 (w * c) * b))) = (Go.Value.int Go.IntKind.i64 (Go.IntKind.wrap Go.IntKind.i64 (Go.IntKind.wrap Go.IntKind.i64 (w * c) * b)))) ∧
 (((Go.Value.int Go.IntKind.i64 (b)) = (Go.Value.int Go.IntKind.i64 (b))) ∧
 (((Go.Value.pointer (Option.some (Go.Addr.mk 1003 2 Option.none))) = (Go.Value.pointer (Option.some (Go.Addr.mk 1003 2 Option.none)))) ∧
 (((Go.Value.pointer (Option.some (Go.Addr.mk 1003 1 Option.none))) = (Go.Value.pointer (Option.some (Go.Addr.mk 1003 1 Option.none)))) ∧
 (((Go.Value.int Go.IntKind.i64 (Go.IntKind.wrap Go.IntKind.i64 (w * c))) = (Go.Value.int Go.IntKind.i64 (Go.IntKind.wrap Go.IntKind.i64 (w * c)))) ∧
 (((Go.Value.int Go.IntKind.i64 (c)) = (Go.Value.int Go.IntKind.i64 (c))) ∧
 (((Go.Value.pointer (Option.some (Go.Addr.mk 1003 3 Option.none))) = (Go.Value.pointer (Option.some (Go.Addr.mk 1003 3 Option.none)))) ∧
 (((Go.Value.pointer (Option.some (Go.Addr.mk 1003 3 Option.none))) = (Go.Value.pointer (Option.some (Go.Addr.mk 1003 3 Option.none)))) ∧
 (((Go.Value.int Go.IntKind.i64 (w)) = (Go.Value.int Go.IntKind.i64 (w))) ∧
 (((Go.Value.int Go.IntKind.i64 (Go.IntKind.wrap Go.IntKind.i64 (a * d))) = (Go.Value.int Go.IntKind.i64 (Go.IntKind.wrap Go.IntKind.i64 (a * d)))) ∧
 (((Go.Value.int Go.IntKind.i64 (d)) = (Go.Value.int Go.IntKind.i64 (d))) ∧
 (((Go.Value.pointer (Option.some (Go.Addr.mk 1003 4 Option.none))) = (Go.Value.pointer (Option.some (Go.Addr.mk 1003 4 Option.none)))) ∧
 (((Go.Value.pointer (Option.some (Go.Addr.mk 1003 3 Option.none))) = (Go.Value.pointer (Option.some (Go.Addr.mk 1003 3 Option.none)))) ∧
 (((Go.Value.int Go.IntKind.i64 (a)) = (Go.Value.int Go.IntKind.i64 (a))) ∧
 (((Go.Value.pointer (Option.some (Go.Addr.mk 1003 1 Option.none))) = (Go.Value.pointer (Option.some (Go.Addr.mk 1003 1 Option.none)))) ∧
 (((Go.Value.pointer (Option.some (Go.Addr.mk 1003 1 Option.none))) = (Go.Value.pointer (Option.some (Go.Addr.mk 1003 1 Option.none)))) ∧
 True)))))))))))))))))))))))) ∧
 ((((Go.Value.int Go.IntKind.i64 (Go.IntKind.wrap Go.IntKind.i64 (b * d))) = (Go.Value.int Go.IntKind.i64 (Go.IntKind.wrap Go.IntKind.i64 (b * d)))) ∧
 (((Go.Value.int Go.IntKind.i64 (d)) = (Go.Value.int Go.IntKind.i64 (d))) ∧
 (((Go.Value.pointer (Option.some (Go.Addr.mk 1003 4 Option.none))) = (Go.Value.pointer (Option.some (Go.Addr.mk 1003 4 Option.none)))) ∧
 (((Go.Value.pointer (Option.some (Go.Addr.mk 1003 3 Option.none))) = (Go.Value.pointer (Option.some (Go.Addr.mk 1003 3 Option.none)))) ∧
 (((Go.Value.int Go.IntKind.i64 (b)) = (Go.Value.int Go.IntKind.i64 (b))) ∧
 (((Go.Value.pointer (Option.some (Go.Addr.mk 1003 2 Option.none))) = (Go.Value.pointer (Option.some (Go.Addr.mk 1003 2 Option.none)))) ∧
 (((Go.Value.pointer (Option.some (Go.Addr.mk 1003 1 Option.none))) = (Go.Value.pointer (Option.some (Go.Addr.mk 1003 1 Option.none)))) ∧
 True))))))) ∧
 (True ∧
 (∃ n1 : Int,
 (∃ n2 : Int,
 ((Says C 69 [(D.val (Go.Value.int Go.IntKind.i64 (Go.IntKind.wrap Go.IntKind.i64 (Go.IntKind.wrap Go.IntKind.i64 (a * d) + Go.IntKind.wrap Go.IntKind.i64 (Go.IntKind.wrap Go.IntKind.i64 (w * c) * b))))), (D.val (Go.Value.int Go.IntKind.i64 (Go.IntKind.wrap Go.IntKind.i64 (b * d))))] [(D.agg [(D.val (Go.Value.int Go.IntKind.i64 (n1))), (D.val (Go.Value.int Go.IntKind.i64 (n2)))])]) ∧
 (k [(D.agg [(D.val (Go.Value.int Go.IntKind.i64 (n1))), (D.val (Go.Value.int Go.IntKind.i64 (n2)))])]))))))) := by kernel_rfl
def g26 (C : Ct) (L : AtLoop) (n cap : Nat) (l : List Value) (a b c d e v w x : Int) (k : List D → Prop) : Prop := wpFn Try.prog (hM C) L 0 26 #[vR (S500 n cap) a b c d e, vP v w, vI x] (heapOf [T500 l]) (dataK k)
theorem g26_text (C : Ct) (L : AtLoop) (n : Nat) (cap : Nat) (l : List Go.Value) (a : Int) (b : Int) (c : Int) (d : Int) (e : Int) (v : Int) (w : Int) (x : Int) (k : List D → Prop) : g26 C L n cap l a b c d e v w x k =
 ((((Go.Value.int Go.IntKind.i64 (Go.IntKind.wrap Go.IntKind.i64 (b * d))) = (Go.Value.int Go.IntKind.i64 (Go.IntKind.wrap Go.IntKind.i64 (b * d)))) ∧
 (((Go.Value.int Go.IntKind.i64 (d)) = (Go.Value.int Go.IntKind.i64 (d))) ∧
 (((Go.Value.pointer (Option.some (Go.Addr.mk 1003 4 Option.none))) = (Go.Value.pointer (Option.some (Go.Addr.mk 1003 4 Option.none)))) ∧
 (((Go.Value.pointer (Option.some (Go.Addr.mk 1003 3 Option.none))) = (Go.Value.pointer (Option.some (Go.Addr.mk 1003 3 Option.none)))) ∧
 (((Go.Value.int Go.IntKind.i64 (b)) = (Go.Value.int Go.IntKind.i64 (b))) ∧
 (((Go.Value.pointer (Option.some (Go.Addr.mk 1003 2 Option.none))) = (Go.Value.pointer (Option.some (Go.Addr.mk 1003 2 Option.none)))) ∧
 (((Go.Value.pointer (Option.some (Go.Addr.mk 1003 1 Option.none))) = (Go.Value.pointer (Option.some (Go.Addr.mk 1003 1 Option.none)))) ∧
 (((Go.Value.int Go.IntKind.i64 (Go.IntKind.wrap Go.IntKind.i64 (Go.IntKind.wrap Go.IntKind.i64 (a * d) + Go.IntKind.wrap Go.IntKind.i64 (Go.IntKind.wrap Go.IntKind.i64 (w * c) * b)))) = (Go.Value.int Go.IntKind.i64 (Go.IntKind.wrap Go.IntKind.i64 (Go.IntKind.wrap Go.IntKind.i64 (a * d) + Go.IntKind.wrap Go.IntKind.i64 (Go.IntKind.wrap Go.IntKind.i64 (w * c) * b))))) ∧
 (((Go.Value.int Go.IntKind.i64 (Go.IntKind.wrap Go.IntKind.i64 (Go.IntKind.wrap Go.IntKind.i64 (w * c) * b))) = (Go.Value.int Go.IntKind.i64 (Go.IntKind.wrap Go.IntKind.i64 (Go.IntKind.wrap Go.IntKind.i64 (w * c) * b)))) ∧
 (((Go.Value.int Go.IntKind.i64 (b)) = (Go.Value.int Go.IntKind.i64 (b))) ∧
 (((Go.Value.pointer (Option.some (Go.Addr.mk 1003 2 Option.none))) = (Go.Value.pointer (Option.some (Go.Addr.mk 1003 2 Option.none)))) ∧
 (((Go.Value.pointer (Option.some (Go.Addr.mk 1003 1 Option.none))) = (Go.Value.pointer (Option.some (Go.Addr.mk 1003 1 Option.none)))) ∧
 (((Go.Value.int Go.IntKind.i64 (Go.IntKind.wrap Go.IntKind.i64 (w * c))) = (Go.Value.int Go.IntKind.i64 (Go.IntKind.wrap Go.IntKind.i64 (w * c)))) ∧
 (((Go.Value.int Go.IntKind.i64 (c)) = (Go.Value.int Go.IntKind.i64 (c))) ∧
 (((Go.Value.pointer (Option.some (Go.Addr.mk 1003 3 Option.none))) = (Go.Value.pointer (Option.some (Go.Addr.mk 1003 3 Option.none)))) ∧
 (((Go.Value.pointer (Option.some (Go.Addr.mk 1003 3 Option.none))) = (Go.Value.pointer (Option.some (Go.Addr.mk 1003 3 Option.none)))) ∧
 (((Go.Value.int Go.IntKind.i64 (w)) = (Go.Value.int Go.IntKind.i64 (w))) ∧
 (((Go.Value.int Go.IntKind.i64 (Go.IntKind.wrap Go.IntKind.i64 (a * d))) = (Go.Value.int Go.IntKind.i64 (Go.IntKind.wrap Go.IntKind.i64 (a * d)))) ∧
 (((Go.Value.int Go.IntKind.i64 (d)) = (Go.Value.int Go.IntKind.i64 (d))) ∧
 (((Go.Value.pointer (Option.some (Go.Addr.mk 1003 4 Option.none))) = (Go.Value.pointer (Option.some (Go.Addr.mk 1003 4 Option.none)))) ∧
 (((Go.Value.pointer (Option.some (Go.Addr.mk 1003 3 Option.none))) = (Go.Value.pointer (Option.some (Go.Addr.mk 1003 3 Option.none)))) ∧
 (((Go.Value.int Go.IntKind.i64 (a)) = (Go.Value.int Go.IntKind.i64 (a))) ∧
 (((Go.Value.pointer (Option.some (Go.Addr.mk 1003 1 Option.none))) = (Go.Value.pointer (Option.some (Go.Addr.mk 1003 1 Option.none)))) ∧
 (((Go.Value.pointer (Option.some (Go.Addr.mk 1003 1 Option.none))) = (Go.Value.pointer (Option.some (Go.Addr.mk 1003 1 Option.none)))) ∧
 True)))))))))))))))))))))))) ∧
 ((((Go.Value.int Go.IntKind.i64 (Go.IntKind.wrap Go.IntKind.i64 (b * d))) = (Go.Value.int Go.IntKind.i64 (Go.IntKind.wrap Go.IntKind.i64 (b * d)))) ∧
 (((Go.Value.int Go.IntKind.i64 (d)) = (Go.Value.int Go.IntKind.i64 (d))) ∧
 (((Go.Value.pointer (Option.some (Go.Addr.mk 1003 4 Option.none))) = (Go.Value.pointer (Option.some (Go.Addr.mk 1003 4 Option.none)))) ∧
 (((Go.Value.pointer (Option.some (Go.Addr.mk 1003 3 Option.none))) = (Go.Value.pointer (Option.some (Go.Addr.mk 1003 3 Option.none)))) ∧
 (((Go.Value.int Go.IntKind.i64 (b)) = (Go.Value.int Go.IntKind.i64 (b))) ∧
 (((Go.Value.pointer (Option.some (Go.Addr.mk 1003 2 Option.none))) = (Go.Value.pointer (Option.some (Go.Addr.mk 1003 2 Option.none)))) ∧
 (((Go.Value.pointer (Option.some (Go.Addr.mk 1003 1 Option.none))) = (Go.Value.pointer (Option.some (Go.Addr.mk 1003 1 Option.none)))) ∧
 True))))))) ∧
 (True ∧
 (bcase (decide (0 + n * 2 ≤ List.length l))
 (∃ n1 : Int,
 ((Says C 16 [(D.sl (n) 2 (List.take (n * 2) (List.drop 0 l))), (D.val (Go.Value.int Go.IntKind.i64 (x)))] [(D.val (Go.Value.int Go.IntKind.i64 (n1)))]) ∧
 (∃ n2 : Int,
 (∃ n3 : Int,
 ((Says C 69 [(D.val (Go.Value.int Go.IntKind.i64 (Go.IntKind.wrap Go.IntKind.i64 (n1 * Go.IntKind.wrap Go.IntKind.i64 (Go.IntKind.wrap Go.IntKind.i64 (a * d) + Go.IntKind.wrap Go.IntKind.i64 (Go.IntKind.wrap Go.IntKind.i64 (w * c) * b)))))), (D.val (Go.Value.int Go.IntKind.i64 (Go.IntKind.wrap Go.IntKind.i64 (b * d))))] [(D.agg [(D.val (Go.Value.int Go.IntKind.i64 (n2))), (D.val (Go.Value.int Go.IntKind.i64 (n3)))])]) ∧
 ((((Go.Value.agg [(Go.Value.int Go.IntKind.i64 (n2)), (Go.Value.int Go.IntKind.i64 (n3))].toArray) = (Go.Value.agg [(Go.Value.int Go.IntKind.i64 (n2)), (Go.Value.int Go.IntKind.i64 (n3))].toArray)) ∧
 (((Go.Value.agg [(Go.Value.int Go.IntKind.i64 (n2)), (Go.Value.int Go.IntKind.i64 (n3))].toArray) = (Go.Value.agg [(Go.Value.int Go.IntKind.i64 (n2)), (Go.Value.int Go.IntKind.i64 (n3))].toArray)) ∧
 True)) ∧
 (((Says C 31 [(D.agg [(D.val (Go.Value.int Go.IntKind.i64 (n2))), (D.val (Go.Value.int Go.IntKind.i64 (n3)))])] [(D.val (Go.Value.bool true))]) ∧
 ((((Go.Value.agg [(Go.Value.int Go.IntKind.i64 (n2)), (Go.Value.int Go.IntKind.i64 (n3))].toArray) = (Go.Value.agg [(Go.Value.int Go.IntKind.i64 (n2)), (Go.Value.int Go.IntKind.i64 (n3))].toArray)) ∧
 True) ∧
 (True ∧
 (True ∧
 (k [(D.agg [(D.val (Go.Value.int Go.IntKind.i64 (n2))), (D.val (Go.Value.int Go.IntKind.i64 (n3)))]), (D.val (Go.Value.bool true))]))))) ∨
 ((Says C 31 [(D.agg [(D.val (Go.Value.int Go.IntKind.i64 (n2))), (D.val (Go.Value.int Go.IntKind.i64 (n3)))])] [(D.val (Go.Value.bool false))]) ∧
 ((((Go.Value.agg [(Go.Value.int Go.IntKind.i64 (n2)), (Go.Value.int Go.IntKind.i64 (n3))].toArray) = (Go.Value.agg [(Go.Value.int Go.IntKind.i64 (n2)), (Go.Value.int Go.IntKind.i64 (n3))].toArray)) ∧
 True) ∧
 (True ∧
 (True ∧
 (k [(D.agg [(D.val (Go.Value.int Go.IntKind.i64 (n2))), (D.val (Go.Value.int Go.IntKind.i64 (n3)))]), (D.val (Go.Value.bool false))]))))))))))))
 False)))) := by kernel_rfl
def g44 (C : Ct) (L : AtLoop) (n cap : Nat) (l : List Value) (a b c d e v w x y : Int) (k : List D → Prop) : Prop := wpFn Try.prog (hM C) L 0 44 #[vR (S500 n cap) a b c d e, vP v w, vI x, vI y] (heapOf [T500 l]) (dataK k)
theorem g44_text (C : Ct) (L : AtLoop) (n : Nat) (cap : Nat) (l : List Go.Value) (a : Int) (b : Int) (c : Int) (d : Int) (e : Int) (v : Int) (w : Int) (x : Int) (y : Int) (k : List D → Prop) : g44 C L n cap l a b c d e v w x y k =
 (bcase (decide (0 + n * 2 ≤ List.length l))
 (∃ n1 : Int,
 (∃ n2 : Int,
 ((Says C 19 [(D.agg [(D.sl (n) 2 (List.take (n * 2) (List.drop 0 l))), (D.val (Go.Value.int Go.IntKind.i64 (a))), (D.val (Go.Value.int Go.IntKind.i64 (b))), (D.val (Go.Value.int Go.IntKind.i64 (c))), (D.val (Go.Value.int Go.IntKind.i64 (d))), (D.val (Go.Value.int Go.IntKind.i64 (e)))])] [(D.val (Go.Value.int Go.IntKind.i64 (n1))), (D.val (Go.Value.int Go.IntKind.i64 (n2)))]) ∧
 (((((Go.Value.slice (Option.some (Go.Addr.mk 1007 0 Option.none)) 1 1) = (Go.Value.slice (Option.some (Go.Addr.mk 1007 0 Option.none)) 1 1)) ∧
 ((Option.some (AObj.cells [(Go.Value.int Go.IntKind.i64 (w))] 3 false 1)) = (Option.some (AObj.cells [(Go.Value.int Go.IntKind.i64 (w))] 3 false 1)))) ∧
 (((Go.Value.int Go.IntKind.i64 (w)) = (Go.Value.int Go.IntKind.i64 (w))) ∧
 (((Go.Value.pointer (Option.some (Go.Addr.mk 1004 1 Option.none))) = (Go.Value.pointer (Option.some (Go.Addr.mk 1004 1 Option.none)))) ∧
 (((Go.Value.int Go.IntKind.i64 (e)) = (Go.Value.int Go.IntKind.i64 (e))) ∧
 (((Go.Value.pointer (Option.some (Go.Addr.mk 1003 5 Option.none))) = (Go.Value.pointer (Option.some (Go.Addr.mk 1003 5 Option.none)))) ∧
 ((((Go.Value.slice (Option.some (Go.Addr.mk 1006 0 Option.none)) 1 1) = (Go.Value.slice (Option.some (Go.Addr.mk 1006 0 Option.none)) 1 1)) ∧
 ((Option.some (AObj.cells [(Go.Value.int Go.IntKind.i64 (v))] 3 false 1)) = (Option.some (AObj.cells [(Go.Value.int Go.IntKind.i64 (v))] 3 false 1)))) ∧
 (((Go.Value.int Go.IntKind.i64 (v)) = (Go.Value.int Go.IntKind.i64 (v))) ∧
 (((Go.Value.pointer (Option.some (Go.Addr.mk 1004 0 Option.none))) = (Go.Value.pointer (Option.some (Go.Addr.mk 1004 0 Option.none)))) ∧
 (((Go.Value.int Go.IntKind.i64 (n2)) = (Go.Value.int Go.IntKind.i64 (n2))) ∧
 True))))))))) ∧
 (((((Go.Value.slice (Option.some (Go.Addr.mk 1007 0 Option.none)) 1 1) = (Go.Value.slice (Option.some (Go.Addr.mk 1007 0 Option.none)) 1 1)) ∧
 ((Option.some (AObj.cells [(Go.Value.int Go.IntKind.i64 (w))] 3 false 1)) = (Option.some (AObj.cells [(Go.Value.int Go.IntKind.i64 (w))] 3 false 1)))) ∧
 (((Go.Value.int Go.IntKind.i64 (w)) = (Go.Value.int Go.IntKind.i64 (w))) ∧
 (((Go.Value.pointer (Option.some (Go.Addr.mk 1004 1 Option.none))) = (Go.Value.pointer (Option.some (Go.Addr.mk 1004 1 Option.none)))) ∧
 (((Go.Value.int Go.IntKind.i64 (e)) = (Go.Value.int Go.IntKind.i64 (e))) ∧
 (((Go.Value.pointer (Option.some (Go.Addr.mk 1003 5 Option.none))) = (Go.Value.pointer (Option.some (Go.Addr.mk 1003 5 Option.none)))) ∧
 ((((Go.Value.slice (Option.some (Go.Addr.mk 1006 0 Option.none)) 1 1) = (Go.Value.slice (Option.some (Go.Addr.mk 1006 0 Option.none)) 1 1)) ∧
 ((Option.some (AObj.cells [(Go.Value.int Go.IntKind.i64 (v))] 3 false 1)) = (Option.some (AObj.cells [(Go.Value.int Go.IntKind.i64 (v))] 3 false 1)))) ∧
 (((Go.Value.int Go.IntKind.i64 (v)) = (Go.Value.int Go.IntKind.i64 (v))) ∧
 (((Go.Value.pointer (Option.some (Go.Addr.mk 1004 0 Option.none))) = (Go.Value.pointer (Option.some (Go.Addr.mk 1004 0 Option.none)))) ∧
 (((Go.Value.int Go.IntKind.i64 (n2)) = (Go.Value.int Go.IntKind.i64 (n2))) ∧
 True))))))))) ∧
 (∃ e1 : Int,
 ((Says limC 0 [(D.val (Go.Value.int Go.IntKind.i64 (0 : Int))), (D.val (Go.Value.int Go.IntKind.i64 (1000000 : Int))), (D.sl 1 1 [(Go.Value.int Go.IntKind.i64 (v))])] [(D.val (Go.Value.int Go.IntKind.i64 (e1)))]) ∧
 (((((Go.Value.slice (Option.some (Go.Addr.mk 1007 0 Option.none)) 1 1) = (Go.Value.slice (Option.some (Go.Addr.mk 1007 0 Option.none)) 1 1)) ∧
 ((Option.some (AObj.cells [(Go.Value.int Go.IntKind.i64 (w))] 3 false 1)) = (Option.some (AObj.cells [(Go.Value.int Go.IntKind.i64 (w))] 3 false 1)))) ∧
 (((Go.Value.int Go.IntKind.i64 (w)) = (Go.Value.int Go.IntKind.i64 (w))) ∧
 (((Go.Value.pointer (Option.some (Go.Addr.mk 1004 1 Option.none))) = (Go.Value.pointer (Option.some (Go.Addr.mk 1004 1 Option.none)))) ∧
 (((Go.Value.int Go.IntKind.i64 (e)) = (Go.Value.int Go.IntKind.i64 (e))) ∧
 (((Go.Value.pointer (Option.some (Go.Addr.mk 1003 5 Option.none))) = (Go.Value.pointer (Option.some (Go.Addr.mk 1003 5 Option.none)))) ∧
 (((Go.Value.int Go.IntKind.i64 (v)) = (Go.Value.int Go.IntKind.i64 (v))) ∧
 (((Go.Value.pointer (Option.some (Go.Addr.mk 1004 0 Option.none))) = (Go.Value.pointer (Option.some (Go.Addr.mk 1004 0 Option.none)))) ∧
 (((Go.Value.int Go.IntKind.i64 (n2)) = (Go.Value.int Go.IntKind.i64 (n2))) ∧
 True)))))))) ∧
 (((((Go.Value.slice (Option.some (Go.Addr.mk 1007 0 Option.none)) 1 1) = (Go.Value.slice (Option.some (Go.Addr.mk 1007 0 Option.none)) 1 1)) ∧
 ((Option.some (AObj.cells [(Go.Value.int Go.IntKind.i64 (w))] 3 false 1)) = (Option.some (AObj.cells [(Go.Value.int Go.IntKind.i64 (w))] 3 false 1)))) ∧
 (((Go.Value.int Go.IntKind.i64 (w)) = (Go.Value.int Go.IntKind.i64 (w))) ∧
 (((Go.Value.pointer (Option.some (Go.Addr.mk 1004 1 Option.none))) = (Go.Value.pointer (Option.some (Go.Addr.mk 1004 1 Option.none)))) ∧
 (((Go.Value.pointer (Option.some (Go.Addr.mk 1003 5 Option.none))) = (Go.Value.pointer (Option.some (Go.Addr.mk 1003 5 Option.none)))) ∧
 (((Go.Value.int Go.IntKind.i64 (v)) = (Go.Value.int Go.IntKind.i64 (v))) ∧
 (((Go.Value.pointer (Option.some (Go.Addr.mk 1004 0 Option.none))) = (Go.Value.pointer (Option.some (Go.Addr.mk 1004 0 Option.none)))) ∧
 (((Go.Value.int Go.IntKind.i64 (n2)) = (Go.Value.int Go.IntKind.i64 (n2))) ∧
 True))))))) ∧
 (∃ e2 : Int,
 ((Says limC 0 [(D.val (Go.Value.int Go.IntKind.i64 (0 : Int))), (D.val (Go.Value.int Go.IntKind.i64 (e))), (D.sl 1 1 [(Go.Value.int Go.IntKind.i64 (w))])] [(D.val (Go.Value.int Go.IntKind.i64 (e2)))]) ∧
 (((((Go.Value.slice (Option.some (Go.Addr.mk 1012 0 Option.none)) 3 3) = (Go.Value.slice (Option.some (Go.Addr.mk 1012 0 Option.none)) 3 3)) ∧
 ((Option.some (AObj.cells [(Go.Value.int Go.IntKind.i64 (n2)), (Go.Value.int Go.IntKind.i64 (e1)), (Go.Value.int Go.IntKind.i64 (e2))] 26 false 1)) = (Option.some (AObj.cells [(Go.Value.int Go.IntKind.i64 (n2)), (Go.Value.int Go.IntKind.i64 (e1)), (Go.Value.int Go.IntKind.i64 (e2))] 26 false 1)))) ∧
 (((Go.Value.int Go.IntKind.i64 (w)) = (Go.Value.int Go.IntKind.i64 (w))) ∧
 (((Go.Value.pointer (Option.some (Go.Addr.mk 1004 1 Option.none))) = (Go.Value.pointer (Option.some (Go.Addr.mk 1004 1 Option.none)))) ∧
 (((Go.Value.pointer (Option.some (Go.Addr.mk 1003 5 Option.none))) = (Go.Value.pointer (Option.some (Go.Addr.mk 1003 5 Option.none)))) ∧
 (((Go.Value.int Go.IntKind.i64 (v)) = (Go.Value.int Go.IntKind.i64 (v))) ∧
 (((Go.Value.pointer (Option.some (Go.Addr.mk 1004 0 Option.none))) = (Go.Value.pointer (Option.some (Go.Addr.mk 1004 0 Option.none)))) ∧
 (((Go.Value.int Go.IntKind.i64 (n2)) = (Go.Value.int Go.IntKind.i64 (n2))) ∧
 True))))))) ∧
 (∃ n3 : Int,
 ((Says C 54 [(D.sl 3 1 [(Go.Value.int Go.IntKind.i64 (n2)), (Go.Value.int Go.IntKind.i64 (e1)), (Go.Value.int Go.IntKind.i64 (e2))])] [(D.val (Go.Value.int Go.IntKind.i64 (n3)))]) ∧
 ((((Go.Value.int Go.IntKind.i64 (w)) = (Go.Value.int Go.IntKind.i64 (w))) ∧
 (((Go.Value.pointer (Option.some (Go.Addr.mk 1004 1 Option.none))) = (Go.Value.pointer (Option.some (Go.Addr.mk 1004 1 Option.none)))) ∧
 (((Go.Value.pointer (Option.some (Go.Addr.mk 1003 5 Option.none))) = (Go.Value.pointer (Option.some (Go.Addr.mk 1003 5 Option.none)))) ∧
 (((Go.Value.int Go.IntKind.i64 (v)) = (Go.Value.int Go.IntKind.i64 (v))) ∧
 (((Go.Value.pointer (Option.some (Go.Addr.mk 1004 0 Option.none))) = (Go.Value.pointer (Option.some (Go.Addr.mk 1004 0 Option.none)))) ∧
 (((Go.Value.int Go.IntKind.i64 (n2)) = (Go.Value.int Go.IntKind.i64 (n2))) ∧
 True)))))) ∧
 (True ∧
 (bcase (n3 != 0)
 ((((Go.Value.agg [(Go.Value.int Go.IntKind.i64 (v)), (Go.Value.int Go.IntKind.i64 (w))].toArray) = (Go.Value.agg [(Go.Value.int Go.IntKind.i64 (v)), (Go.Value.int Go.IntKind.i64 (w))].toArray)) ∧
 ((((Go.Value.slice (Option.some (Go.Addr.mk 1015 0 Option.none)) 1 1) = (Go.Value.slice (Option.some (Go.Addr.mk 1015 0 Option.none)) 1 1)) ∧
 ((Option.some (AObj.cells [(Go.Value.int Go.IntKind.i64 (y))] 3 false 1)) = (Option.some (AObj.cells [(Go.Value.int Go.IntKind.i64 (y))] 3 false 1)))) ∧
 (((Go.Value.int Go.IntKind.i64 (y)) = (Go.Value.int Go.IntKind.i64 (y))) ∧
 ((((Go.Value.slice (Option.some (Go.Addr.mk 1014 0 Option.none)) 1 1) = (Go.Value.slice (Option.some (Go.Addr.mk 1014 0 Option.none)) 1 1)) ∧
 ((Option.some (AObj.cells [(Go.Value.int Go.IntKind.i64 (x))] 3 false 1)) = (Option.some (AObj.cells [(Go.Value.int Go.IntKind.i64 (x))] 3 false 1)))) ∧
 (((Go.Value.int Go.IntKind.i64 (x)) = (Go.Value.int Go.IntKind.i64 (x))) ∧
 (((Go.Value.int Go.IntKind.i64 (e)) = (Go.Value.int Go.IntKind.i64 (e))) ∧
 (((Go.Value.pointer (Option.some (Go.Addr.mk 1000 5 Option.none))) = (Go.Value.pointer (Option.some (Go.Addr.mk 1000 5 Option.none)))) ∧
 (((Go.Value.int Go.IntKind.i64 (n3)) = (Go.Value.int Go.IntKind.i64 (n3))) ∧
 True)))))))) ∧
 ((((Go.Value.agg [(Go.Value.int Go.IntKind.i64 (v)), (Go.Value.int Go.IntKind.i64 (w))].toArray) = (Go.Value.agg [(Go.Value.int Go.IntKind.i64 (v)), (Go.Value.int Go.IntKind.i64 (w))].toArray)) ∧
 ((((Go.Value.slice (Option.some (Go.Addr.mk 1015 0 Option.none)) 1 1) = (Go.Value.slice (Option.some (Go.Addr.mk 1015 0 Option.none)) 1 1)) ∧
 ((Option.some (AObj.cells [(Go.Value.int Go.IntKind.i64 (y))] 3 false 1)) = (Option.some (AObj.cells [(Go.Value.int Go.IntKind.i64 (y))] 3 false 1)))) ∧
 (((Go.Value.int Go.IntKind.i64 (y)) = (Go.Value.int Go.IntKind.i64 (y))) ∧
 ((((Go.Value.slice (Option.some (Go.Addr.mk 1014 0 Option.none)) 1 1) = (Go.Value.slice (Option.some (Go.Addr.mk 1014 0 Option.none)) 1 1)) ∧
 ((Option.some (AObj.cells [(Go.Value.int Go.IntKind.i64 (x))] 3 false 1)) = (Option.some (AObj.cells [(Go.Value.int Go.IntKind.i64 (x))] 3 false 1)))) ∧
 (((Go.Value.int Go.IntKind.i64 (x)) = (Go.Value.int Go.IntKind.i64 (x))) ∧
 (((Go.Value.pointer (Option.some (Go.Addr.mk 1000 5 Option.none))) = (Go.Value.pointer (Option.some (Go.Addr.mk 1000 5 Option.none)))) ∧
 (((Go.Value.int Go.IntKind.i64 (n3)) = (Go.Value.int Go.IntKind.i64 (n3))) ∧
 True))))))) ∧
 (∃ e3 : Int,
 ((Says limC 0 [(D.val (Go.Value.int Go.IntKind.i64 (0 : Int))), (D.val (Go.Value.int Go.IntKind.i64 (e))), (D.sl 1 1 [(Go.Value.int Go.IntKind.i64 (x))])] [(D.val (Go.Value.int Go.IntKind.i64 (e3)))]) ∧
 ((((Go.Value.agg [(Go.Value.int Go.IntKind.i64 (v)), (Go.Value.int Go.IntKind.i64 (w))].toArray) = (Go.Value.agg [(Go.Value.int Go.IntKind.i64 (v)), (Go.Value.int Go.IntKind.i64 (w))].toArray)) ∧
 ((((Go.Value.slice (Option.some (Go.Addr.mk 1015 0 Option.none)) 1 1) = (Go.Value.slice (Option.some (Go.Addr.mk 1015 0 Option.none)) 1 1)) ∧
 ((Option.some (AObj.cells [(Go.Value.int Go.IntKind.i64 (y))] 3 false 1)) = (Option.some (AObj.cells [(Go.Value.int Go.IntKind.i64 (y))] 3 false 1)))) ∧
 (((Go.Value.int Go.IntKind.i64 (y)) = (Go.Value.int Go.IntKind.i64 (y))) ∧
 (((Go.Value.int Go.IntKind.i64 (x)) = (Go.Value.int Go.IntKind.i64 (x))) ∧
 (((Go.Value.pointer (Option.some (Go.Addr.mk 1000 5 Option.none))) = (Go.Value.pointer (Option.some (Go.Addr.mk 1000 5 Option.none)))) ∧
 (((Go.Value.int Go.IntKind.i64 (n3)) = (Go.Value.int Go.IntKind.i64 (n3))) ∧
 True)))))) ∧
 ((((Go.Value.agg [(Go.Value.int Go.IntKind.i64 (v)), (Go.Value.int Go.IntKind.i64 (w))].toArray) = (Go.Value.agg [(Go.Value.int Go.IntKind.i64 (v)), (Go.Value.int Go.IntKind.i64 (w))].toArray)) ∧
 ((((Go.Value.slice (Option.some (Go.Addr.mk 1015 0 Option.none)) 1 1) = (Go.Value.slice (Option.some (Go.Addr.mk 1015 0 Option.none)) 1 1)) ∧
 ((Option.some (AObj.cells [(Go.Value.int Go.IntKind.i64 (y))] 3 false 1)) = (Option.some (AObj.cells [(Go.Value.int Go.IntKind.i64 (y))] 3 false 1)))) ∧
 (((Go.Value.int Go.IntKind.i64 (y)) = (Go.Value.int Go.IntKind.i64 (y))) ∧
 (((Go.Value.int Go.IntKind.i64 (x)) = (Go.Value.int Go.IntKind.i64 (x))) ∧
 (((Go.Value.pointer (Option.some (Go.Addr.mk 1000 5 Option.none))) = (Go.Value.pointer (Option.some (Go.Addr.mk 1000 5 Option.none)))) ∧
 (((Go.Value.int Go.IntKind.i64 (n3)) = (Go.Value.int Go.IntKind.i64 (n3))) ∧
 True)))))) ∧
 (∃ e4 : Int,
 ((Says limC 0 [(D.val (Go.Value.int Go.IntKind.i64 (0 : Int))), (D.val (Go.Value.int Go.IntKind.i64 (900 : Int))), (D.sl 1 1 [(Go.Value.int Go.IntKind.i64 (y))])] [(D.val (Go.Value.int Go.IntKind.i64 (e4)))]) ∧
 ((((Go.Value.agg [(Go.Value.int Go.IntKind.i64 (v)), (Go.Value.int Go.IntKind.i64 (w))].toArray) = (Go.Value.agg [(Go.Value.int Go.IntKind.i64 (v)), (Go.Value.int Go.IntKind.i64 (w))].toArray)) ∧
 (((Go.Value.int Go.IntKind.i64 (y)) = (Go.Value.int Go.IntKind.i64 (y))) ∧
 (((Go.Value.int Go.IntKind.i64 (x)) = (Go.Value.int Go.IntKind.i64 (x))) ∧
 (((Go.Value.pointer (Option.some (Go.Addr.mk 1000 5 Option.none))) = (Go.Value.pointer (Option.some (Go.Addr.mk 1000 5 Option.none)))) ∧
 (((Go.Value.int Go.IntKind.i64 (n3)) = (Go.Value.int Go.IntKind.i64 (n3))) ∧
 True))))) ∧
 (bcase (decide (Go.IntKind.wrap Go.IntKind.i64 (v + 1) > 1000000))
 (((((Go.Value.slice (Option.some (Go.Addr.mk 1021 0 Option.none)) 4 4) = (Go.Value.slice (Option.some (Go.Addr.mk 1021 0 Option.none)) 4 4)) ∧
 ((Option.some (AObj.cells [(Go.Value.int Go.IntKind.i64 (n3)), (Go.Value.int Go.IntKind.i64 (e3)), (Go.Value.int Go.IntKind.i64 (e4)), (Go.Value.int Go.IntKind.i64 (8 : Int))] 26 false 1)) = (Option.some (AObj.cells [(Go.Value.int Go.IntKind.i64 (n3)), (Go.Value.int Go.IntKind.i64 (e3)), (Go.Value.int Go.IntKind.i64 (e4)), (Go.Value.int Go.IntKind.i64 (8 : Int))] 26 false 1)))) ∧
 (((Go.Value.int Go.IntKind.i64 (y)) = (Go.Value.int Go.IntKind.i64 (y))) ∧
 (((Go.Value.int Go.IntKind.i64 (x)) = (Go.Value.int Go.IntKind.i64 (x))) ∧
 (((Go.Value.pointer (Option.some (Go.Addr.mk 1000 5 Option.none))) = (Go.Value.pointer (Option.some (Go.Addr.mk 1000 5 Option.none)))) ∧
 (((Go.Value.int Go.IntKind.i64 (n3)) = (Go.Value.int Go.IntKind.i64 (n3))) ∧
 True))))) ∧
 (∃ n4 : Int,
 ((Says C 54 [(D.sl 4 1 [(Go.Value.int Go.IntKind.i64 (n3)), (Go.Value.int Go.IntKind.i64 (e3)), (Go.Value.int Go.IntKind.i64 (e4)), (Go.Value.int Go.IntKind.i64 (8 : Int))])] [(D.val (Go.Value.int Go.IntKind.i64 (n4)))]) ∧
 ((((Go.Value.int Go.IntKind.i64 (y)) = (Go.Value.int Go.IntKind.i64 (y))) ∧
 (((Go.Value.int Go.IntKind.i64 (x)) = (Go.Value.int Go.IntKind.i64 (x))) ∧
 (((Go.Value.pointer (Option.some (Go.Addr.mk 1000 5 Option.none))) = (Go.Value.pointer (Option.some (Go.Addr.mk 1000 5 Option.none)))) ∧
 (((Go.Value.int Go.IntKind.i64 (n3)) = (Go.Value.int Go.IntKind.i64 (n3))) ∧
 True)))) ∧
 (True ∧
 (bcase (n4 != 0)
 (k [(D.agg [(D.val (Go.Value.int Go.IntKind.i64 (0 : Int))), (D.val (Go.Value.int Go.IntKind.i64 (0 : Int)))]), (D.val (Go.Value.int Go.IntKind.i64 (n4)))])
 (k [(D.agg [(D.val (Go.Value.int Go.IntKind.i64 (Go.IntKind.wrap Go.IntKind.i64 (v + 1)))), (D.val (Go.Value.int Go.IntKind.i64 (Go.IntKind.wrap Go.IntKind.i64 (w + if (if Go.IntKind.wrap Go.IntKind.i64 (x - w) < y then Go.IntKind.wrap Go.IntKind.i64 (x - w) else y) > Go.IntKind.wrap Go.IntKind.i64 (0 - y) then if Go.IntKind.wrap Go.IntKind.i64 (x - w) < y then Go.IntKind.wrap Go.IntKind.i64 (x - w) else y else Go.IntKind.wrap Go.IntKind.i64 (0 - y)))))]), (D.val (Go.Value.int Go.IntKind.i64 (0 : Int)))])))))))
 (((((Go.Value.slice (Option.some (Go.Addr.mk 1021 0 Option.none)) 4 4) = (Go.Value.slice (Option.some (Go.Addr.mk 1021 0 Option.none)) 4 4)) ∧
 ((Option.some (AObj.cells [(Go.Value.int Go.IntKind.i64 (n3)), (Go.Value.int Go.IntKind.i64 (e3)), (Go.Value.int Go.IntKind.i64 (e4)), (Go.Value.int Go.IntKind.i64 (0 : Int))] 26 false 1)) = (Option.some (AObj.cells [(Go.Value.int Go.IntKind.i64 (n3)), (Go.Value.int Go.IntKind.i64 (e3)), (Go.Value.int Go.IntKind.i64 (e4)), (Go.Value.int Go.IntKind.i64 (0 : Int))] 26 false 1)))) ∧
 (((Go.Value.int Go.IntKind.i64 (y)) = (Go.Value.int Go.IntKind.i64 (y))) ∧
 (((Go.Value.int Go.IntKind.i64 (x)) = (Go.Value.int Go.IntKind.i64 (x))) ∧
 (((Go.Value.pointer (Option.some (Go.Addr.mk 1000 5 Option.none))) = (Go.Value.pointer (Option.some (Go.Addr.mk 1000 5 Option.none)))) ∧
 (((Go.Value.int Go.IntKind.i64 (n3)) = (Go.Value.int Go.IntKind.i64 (n3))) ∧
 True))))) ∧
 (∃ n4 : Int,
 ((Says C 54 [(D.sl 4 1 [(Go.Value.int Go.IntKind.i64 (n3)), (Go.Value.int Go.IntKind.i64 (e3)), (Go.Value.int Go.IntKind.i64 (e4)), (Go.Value.int Go.IntKind.i64 (0 : Int))])] [(D.val (Go.Value.int Go.IntKind.i64 (n4)))]) ∧
 ((((Go.Value.int Go.IntKind.i64 (y)) = (Go.Value.int Go.IntKind.i64 (y))) ∧
 (((Go.Value.int Go.IntKind.i64 (x)) = (Go.Value.int Go.IntKind.i64 (x))) ∧
 (((Go.Value.pointer (Option.some (Go.Addr.mk 1000 5 Option.none))) = (Go.Value.pointer (Option.some (Go.Addr.mk 1000 5 Option.none)))) ∧
 (((Go.Value.int Go.IntKind.i64 (n3)) = (Go.Value.int Go.IntKind.i64 (n3))) ∧
 True)))) ∧
 (True ∧
 (bcase (n4 != 0)
 (k [(D.agg [(D.val (Go.Value.int Go.IntKind.i64 (0 : Int))), (D.val (Go.Value.int Go.IntKind.i64 (0 : Int)))]), (D.val (Go.Value.int Go.IntKind.i64 (n4)))])
 (k [(D.agg [(D.val (Go.Value.int Go.IntKind.i64 (Go.IntKind.wrap Go.IntKind.i64 (v + 1)))), (D.val (Go.Value.int Go.IntKind.i64 (Go.IntKind.wrap Go.IntKind.i64 (w + if (if Go.IntKind.wrap Go.IntKind.i64 (x - w) < y then Go.IntKind.wrap Go.IntKind.i64 (x - w) else y) > Go.IntKind.wrap Go.IntKind.i64 (0 - y) then if Go.IntKind.wrap Go.IntKind.i64 (x - w) < y then Go.IntKind.wrap Go.IntKind.i64 (x - w) else y else Go.IntKind.wrap Go.IntKind.i64 (0 - y)))))]), (D.val (Go.Value.int Go.IntKind.i64 (0 : Int)))])))))))))))))))))
 ((((Go.Value.agg [(Go.Value.int Go.IntKind.i64 (v)), (Go.Value.int Go.IntKind.i64 (w))].toArray) = (Go.Value.agg [(Go.Value.int Go.IntKind.i64 (v)), (Go.Value.int Go.IntKind.i64 (w))].toArray)) ∧
 ((((Go.Value.slice (Option.some (Go.Addr.mk 1015 0 Option.none)) 1 1) = (Go.Value.slice (Option.some (Go.Addr.mk 1015 0 Option.none)) 1 1)) ∧
 ((Option.some (AObj.cells [(Go.Value.int Go.IntKind.i64 (y))] 3 false 1)) = (Option.some (AObj.cells [(Go.Value.int Go.IntKind.i64 (y))] 3 false 1)))) ∧
 (((Go.Value.int Go.IntKind.i64 (y)) = (Go.Value.int Go.IntKind.i64 (y))) ∧
 ((((Go.Value.slice (Option.some (Go.Addr.mk 1014 0 Option.none)) 1 1) = (Go.Value.slice (Option.some (Go.Addr.mk 1014 0 Option.none)) 1 1)) ∧
 ((Option.some (AObj.cells [(Go.Value.int Go.IntKind.i64 (x))] 3 false 1)) = (Option.some (AObj.cells [(Go.Value.int Go.IntKind.i64 (x))] 3 false 1)))) ∧
 (((Go.Value.int Go.IntKind.i64 (x)) = (Go.Value.int Go.IntKind.i64 (x))) ∧
 (((Go.Value.int Go.IntKind.i64 (e)) = (Go.Value.int Go.IntKind.i64 (e))) ∧
 (((Go.Value.pointer (Option.some (Go.Addr.mk 1000 5 Option.none))) = (Go.Value.pointer (Option.some (Go.Addr.mk 1000 5 Option.none)))) ∧
 (((Go.Value.int Go.IntKind.i64 (0 : Int)) = (Go.Value.int Go.IntKind.i64 (0 : Int))) ∧
 True)))))))) ∧
 ((((Go.Value.agg [(Go.Value.int Go.IntKind.i64 (v)), (Go.Value.int Go.IntKind.i64 (w))].toArray) = (Go.Value.agg [(Go.Value.int Go.IntKind.i64 (v)), (Go.Value.int Go.IntKind.i64 (w))].toArray)) ∧
 ((((Go.Value.slice (Option.some (Go.Addr.mk 1015 0 Option.none)) 1 1) = (Go.Value.slice (Option.some (Go.Addr.mk 1015 0 Option.none)) 1 1)) ∧
 ((Option.some (AObj.cells [(Go.Value.int Go.IntKind.i64 (y))] 3 false 1)) = (Option.some (AObj.cells [(Go.Value.int Go.IntKind.i64 (y))] 3 false 1)))) ∧
 (((Go.Value.int Go.IntKind.i64 (y)) = (Go.Value.int Go.IntKind.i64 (y))) ∧
 ((((Go.Value.slice (Option.some (Go.Addr.mk 1014 0 Option.none)) 1 1) = (Go.Value.slice (Option.some (Go.Addr.mk 1014 0 Option.none)) 1 1)) ∧
 ((Option.some (AObj.cells [(Go.Value.int Go.IntKind.i64 (x))] 3 false 1)) = (Option.some (AObj.cells [(Go.Value.int Go.IntKind.i64 (x))] 3 false 1)))) ∧
 (((Go.Value.int Go.IntKind.i64 (x)) = (Go.Value.int Go.IntKind.i64 (x))) ∧
 (((Go.Value.pointer (Option.some (Go.Addr.mk 1000 5 Option.none))) = (Go.Value.pointer (Option.some (Go.Addr.mk 1000 5 Option.none)))) ∧
 (((Go.Value.int Go.IntKind.i64 (0 : Int)) = (Go.Value.int Go.IntKind.i64 (0 : Int))) ∧
 True))))))) ∧
 (∃ e3 : Int,
 ((Says limC 0 [(D.val (Go.Value.int Go.IntKind.i64 (0 : Int))), (D.val (Go.Value.int Go.IntKind.i64 (e))), (D.sl 1 1 [(Go.Value.int Go.IntKind.i64 (x))])] [(D.val (Go.Value.int Go.IntKind.i64 (e3)))]) ∧
 ((((Go.Value.agg [(Go.Value.int Go.IntKind.i64 (v)), (Go.Value.int Go.IntKind.i64 (w))].toArray) = (Go.Value.agg [(Go.Value.int Go.IntKind.i64 (v)), (Go.Value.int Go.IntKind.i64 (w))].toArray)) ∧
 ((((Go.Value.slice (Option.some (Go.Addr.mk 1015 0 Option.none)) 1 1) = (Go.Value.slice (Option.some (Go.Addr.mk 1015 0 Option.none)) 1 1)) ∧
 ((Option.some (AObj.cells [(Go.Value.int Go.IntKind.i64 (y))] 3 false 1)) = (Option.some (AObj.cells [(Go.Value.int Go.IntKind.i64 (y))] 3 false 1)))) ∧
 (((Go.Value.int Go.IntKind.i64 (y)) = (Go.Value.int Go.IntKind.i64 (y))) ∧
 (((Go.Value.int Go.IntKind.i64 (x)) = (Go.Value.int Go.IntKind.i64 (x))) ∧
 (((Go.Value.pointer (Option.some (Go.Addr.mk 1000 5 Option.none))) = (Go.Value.pointer (Option.some (Go.Addr.mk 1000 5 Option.none)))) ∧
 (((Go.Value.int Go.IntKind.i64 (0 : Int)) = (Go.Value.int Go.IntKind.i64 (0 : Int))) ∧
 True)))))) ∧
 ((((Go.Value.agg [(Go.Value.int Go.IntKind.i64 (v)), (Go.Value.int Go.IntKind.i64 (w))].toArray) = (Go.Value.agg [(Go.Value.int Go.IntKind.i64 (v)), (Go.Value.int Go.IntKind.i64 (w))].toArray)) ∧
 ((((Go.Value.slice (Option.some (Go.Addr.mk 1015 0 Option.none)) 1 1) = (Go.Value.slice (Option.some (Go.Addr.mk 1015 0 Option.none)) 1 1)) ∧
 ((Option.some (AObj.cells [(Go.Value.int Go.IntKind.i64 (y))] 3 false 1)) = (Option.some (AObj.cells [(Go.Value.int Go.IntKind.i64 (y))] 3 false 1)))) ∧
 (((Go.Value.int Go.IntKind.i64 (y)) = (Go.Value.int Go.IntKind.i64 (y))) ∧
 (((Go.Value.int Go.IntKind.i64 (x)) = (Go.Value.int Go.IntKind.i64 (x))) ∧
 (((Go.Value.pointer (Option.some (Go.Addr.mk 1000 5 Option.none))) = (Go.Value.pointer (Option.some (Go.Addr.mk 1000 5 Option.none)))) ∧
 (((Go.Value.int Go.IntKind.i64 (0 : Int)) = (Go.Value.int Go.IntKind.i64 (0 : Int))) ∧
 True)))))) ∧
 (∃ e4 : Int,
 ((Says limC 0 [(D.val (Go.Value.int Go.IntKind.i64 (0 : Int))), (D.val (Go.Value.int Go.IntKind.i64 (900 : Int))), (D.sl 1 1 [(Go.Value.int Go.IntKind.i64 (y))])] [(D.val (Go.Value.int Go.IntKind.i64 (e4)))]) ∧
 ((((Go.Value.agg [(Go.Value.int Go.IntKind.i64 (v)), (Go.Value.int Go.IntKind.i64 (w))].toArray) = (Go.Value.agg [(Go.Value.int Go.IntKind.i64 (v)), (Go.Value.int Go.IntKind.i64 (w))].toArray)) ∧
 (((Go.Value.int Go.IntKind.i64 (y)) = (Go.Value.int Go.IntKind.i64 (y))) ∧
 (((Go.Value.int Go.IntKind.i64 (x)) = (Go.Value.int Go.IntKind.i64 (x))) ∧
 (((Go.Value.pointer (Option.some (Go.Addr.mk 1000 5 Option.none))) = (Go.Value.pointer (Option.some (Go.Addr.mk 1000 5 Option.none)))) ∧
 (((Go.Value.int Go.IntKind.i64 (0 : Int)) = (Go.Value.int Go.IntKind.i64 (0 : Int))) ∧
 True))))) ∧
 (bcase (decide (Go.IntKind.wrap Go.IntKind.i64 (v + 1) > 1000000))
 (((((Go.Value.slice (Option.some (Go.Addr.mk 1021 0 Option.none)) 4 4) = (Go.Value.slice (Option.some (Go.Addr.mk 1021 0 Option.none)) 4 4)) ∧
 ((Option.some (AObj.cells [(Go.Value.int Go.IntKind.i64 (0 : Int)), (Go.Value.int Go.IntKind.i64 (e3)), (Go.Value.int Go.IntKind.i64 (e4)), (Go.Value.int Go.IntKind.i64 (8 : Int))] 26 false 1)) = (Option.some (AObj.cells [(Go.Value.int Go.IntKind.i64 (0 : Int)), (Go.Value.int Go.IntKind.i64 (e3)), (Go.Value.int Go.IntKind.i64 (e4)), (Go.Value.int Go.IntKind.i64 (8 : Int))] 26 false 1)))) ∧
 (((Go.Value.int Go.IntKind.i64 (y)) = (Go.Value.int Go.IntKind.i64 (y))) ∧
 (((Go.Value.int Go.IntKind.i64 (x)) = (Go.Value.int Go.IntKind.i64 (x))) ∧
 (((Go.Value.pointer (Option.some (Go.Addr.mk 1000 5 Option.none))) = (Go.Value.pointer (Option.some (Go.Addr.mk 1000 5 Option.none)))) ∧
 (((Go.Value.int Go.IntKind.i64 (0 : Int)) = (Go.Value.int Go.IntKind.i64 (0 : Int))) ∧
 True))))) ∧
 (∃ n4 : Int,
 ((Says C 54 [(D.sl 4 1 [(Go.Value.int Go.IntKind.i64 (0 : Int)), (Go.Value.int Go.IntKind.i64 (e3)), (Go.Value.int Go.IntKind.i64 (e4)), (Go.Value.int Go.IntKind.i64 (8 : Int))])] [(D.val (Go.Value.int Go.IntKind.i64 (n4)))]) ∧
 ((((Go.Value.int Go.IntKind.i64 (y)) = (Go.Value.int Go.IntKind.i64 (y))) ∧
 (((Go.Value.int Go.IntKind.i64 (x)) = (Go.Value.int Go.IntKind.i64 (x))) ∧
 (((Go.Value.pointer (Option.some (Go.Addr.mk 1000 5 Option.none))) = (Go.Value.pointer (Option.some (Go.Addr.mk 1000 5 Option.none)))) ∧
 (((Go.Value.int Go.IntKind.i64 (0 : Int)) = (Go.Value.int Go.IntKind.i64 (0 : Int))) ∧
 True)))) ∧
 (True ∧
 (bcase (n4 != 0)
 (k [(D.agg [(D.val (Go.Value.int Go.IntKind.i64 (0 : Int))), (D.val (Go.Value.int Go.IntKind.i64 (0 : Int)))]), (D.val (Go.Value.int Go.IntKind.i64 (n4)))])
 (k [(D.agg [(D.val (Go.Value.int Go.IntKind.i64 (Go.IntKind.wrap Go.IntKind.i64 (v + 1)))), (D.val (Go.Value.int Go.IntKind.i64 (Go.IntKind.wrap Go.IntKind.i64 (w + if (if Go.IntKind.wrap Go.IntKind.i64 (x - w) < y then Go.IntKind.wrap Go.IntKind.i64 (x - w) else y) > Go.IntKind.wrap Go.IntKind.i64 (0 - y) then if Go.IntKind.wrap Go.IntKind.i64 (x - w) < y then Go.IntKind.wrap Go.IntKind.i64 (x - w) else y else Go.IntKind.wrap Go.IntKind.i64 (0 - y)))))]), (D.val (Go.Value.int Go.IntKind.i64 (0 : Int)))])))))))
 (((((Go.Value.slice (Option.some (Go.Addr.mk 1021 0 Option.none)) 4 4) = (Go.Value.slice (Option.some (Go.Addr.mk 1021 0 Option.none)) 4 4)) ∧
 ((Option.some (AObj.cells [(Go.Value.int Go.IntKind.i64 (0 : Int)), (Go.Value.int Go.IntKind.i64 (e3)), (Go.Value.int Go.IntKind.i64 (e4)), (Go.Value.int Go.IntKind.i64 (0 : Int))] 26 false 1)) = (Option.some (AObj.cells [(Go.Value.int Go.IntKind.i64 (0 : Int)), (Go.Value.int Go.IntKind.i64 (e3)), (Go.Value.int Go.IntKind.i64 (e4)), (Go.Value.int Go.IntKind.i64 (0 : Int))] 26 false 1)))) ∧
 (((Go.Value.int Go.IntKind.i64 (y)) = (Go.Value.int Go.IntKind.i64 (y))) ∧
 (((Go.Value.int Go.IntKind.i64 (x)) = (Go.Value.int Go.IntKind.i64 (x))) ∧
 (((Go.Value.pointer (Option.some (Go.Addr.mk 1000 5 Option.none))) = (Go.Value.pointer (Option.some (Go.Addr.mk 1000 5 Option.none)))) ∧
 (((Go.Value.int Go.IntKind.i64 (0 : Int)) = (Go.Value.int Go.IntKind.i64 (0 : Int))) ∧
 True))))) ∧
 (∃ n4 : Int,
 ((Says C 54 [(D.sl 4 1 [(Go.Value.int Go.IntKind.i64 (0 : Int)), (Go.Value.int Go.IntKind.i64 (e3)), (Go.Value.int Go.IntKind.i64 (e4)), (Go.Value.int Go.IntKind.i64 (0 : Int))])] [(D.val (Go.Value.int Go.IntKind.i64 (n4)))]) ∧
 ((((Go.Value.int Go.IntKind.i64 (y)) = (Go.Value.int Go.IntKind.i64 (y))) ∧
 (((Go.Value.int Go.IntKind.i64 (x)) = (Go.Value.int Go.IntKind.i64 (x))) ∧
 (((Go.Value.pointer (Option.some (Go.Addr.mk 1000 5 Option.none))) = (Go.Value.pointer (Option.some (Go.Addr.mk 1000 5 Option.none)))) ∧
 (((Go.Value.int Go.IntKind.i64 (0 : Int)) = (Go.Value.int Go.IntKind.i64 (0 : Int))) ∧
 True)))) ∧
 (True ∧
 (bcase (n4 != 0)
 (k [(D.agg [(D.val (Go.Value.int Go.IntKind.i64 (0 : Int))), (D.val (Go.Value.int Go.IntKind.i64 (0 : Int)))]), (D.val (Go.Value.int Go.IntKind.i64 (n4)))])
 (k [(D.agg [(D.val (Go.Value.int Go.IntKind.i64 (Go.IntKind.wrap Go.IntKind.i64 (v + 1)))), (D.val (Go.Value.int Go.IntKind.i64 (Go.IntKind.wrap Go.IntKind.i64 (w + if (if Go.IntKind.wrap Go.IntKind.i64 (x - w) < y then Go.IntKind.wrap Go.IntKind.i64 (x - w) else y) > Go.IntKind.wrap Go.IntKind.i64 (0 - y) then if Go.IntKind.wrap Go.IntKind.i64 (x - w) < y then Go.IntKind.wrap Go.IntKind.i64 (x - w) else y else Go.IntKind.wrap Go.IntKind.i64 (0 - y)))))]), (D.val (Go.Value.int Go.IntKind.i64 (0 : Int)))]))))))))))))))))))))))))))))))))))
 False) := by kernel_rfl
def g45 (C : Ct) (L : AtLoop) (n cap : Nat) (l : List Value) (a b c d e v w x y : Int) (k : List D → Prop) : Prop := wpFn Try.prog (hM C) L 0 45 #[vR (S500 n cap) a b c d e, vP v w, vI x, vI y] (heapOf [T500 l]) (dataK k)
theorem g45_text (C : Ct) (L : AtLoop) (n : Nat) (cap : Nat) (l : List Go.Value) (a : Int) (b : Int) (c : Int) (d : Int) (e : Int) (v : Int) (w : Int) (x : Int) (y : Int) (k : List D → Prop) : g45 C L n cap l a b c d e v w x y k =
 (bcase (decide (0 ≤ x))
 (bcase (decide (x ≤ e))
 (bcase (decide (0 ≤ y))
 (bcase (decide (y ≤ 900))
 (bcase (decide (v ≥ 1000000))
 (k [(D.agg [(D.val (Go.Value.int Go.IntKind.i64 (0 : Int))), (D.val (Go.Value.int Go.IntKind.i64 (0 : Int)))]), (D.val (Go.Value.int Go.IntKind.i64 (8 : Int)))])
 (L 0 [(Prod.mk 2 (Go.Value.int Go.IntKind.i64 (x))), (Prod.mk 3 (Go.Value.int Go.IntKind.i64 (y))), (Prod.mk 5 (Go.Value.pointer (Option.some (Go.Addr.mk 1000 0 Option.none)))), (Prod.mk 8 (Go.Value.pointer (Option.some (Go.Addr.mk 1001 0 Option.none)))), (Prod.mk 10 (Go.Value.int Go.IntKind.i64 (w))), (Prod.mk 11 (Go.Value.int Go.IntKind.i64 (0 : Int)))] [(Prod.mk 1000 (AObj.cells [(Go.Value.int Go.IntKind.i64 (v)), (Go.Value.int Go.IntKind.i64 (w))] 44 false 1)), (Prod.mk 1001 (AObj.cells [(Go.Value.int Go.IntKind.i64 (0 : Int)), (Go.Value.int Go.IntKind.i64 (0 : Int))] 44 false 2))]))
 (k [(D.agg [(D.val (Go.Value.int Go.IntKind.i64 (0 : Int))), (D.val (Go.Value.int Go.IntKind.i64 (0 : Int)))]), (D.val (Go.Value.int Go.IntKind.i64 (2 : Int)))]))
 (k [(D.agg [(D.val (Go.Value.int Go.IntKind.i64 (0 : Int))), (D.val (Go.Value.int Go.IntKind.i64 (0 : Int)))]), (D.val (Go.Value.int Go.IntKind.i64 (2 : Int)))]))
 (k [(D.agg [(D.val (Go.Value.int Go.IntKind.i64 (0 : Int))), (D.val (Go.Value.int Go.IntKind.i64 (0 : Int)))]), (D.val (Go.Value.int Go.IntKind.i64 (2 : Int)))]))
 (k [(D.agg [(D.val (Go.Value.int Go.IntKind.i64 (0 : Int))), (D.val (Go.Value.int Go.IntKind.i64 (0 : Int)))]), (D.val (Go.Value.int Go.IntKind.i64 (2 : Int)))])) := by kernel_rfl
def g3 (C : Ct) (L : AtLoop) (n cap : Nat) (l : List Value) (x y z : Int) (k : List D → Prop) : Prop := wpFn Try.prog (hM C) L 0 3 #[S500 n cap, vI x, vP y z] (heapOf [T500 l]) (dataK k)
theorem g3_text (C : Ct) (L : AtLoop) (n : Nat) (cap : Nat) (l : List Go.Value) (x : Int) (y : Int) (z : Int) (k : List D → Prop) : g3 C L n cap l x y z k =
 (((Says C 9 [] [(D.val (Go.Value.bool true))]) ∧
 (bcase (decide ((↑n : Int) > 14))
 (k [(D.val (Go.Value.bool true))])
 (bcase (decide (0 + n * 2 ≤ List.length l))
 ((Says C 11 [(D.sl (n) 2 (List.take (n * 2) (List.drop 0 l)))] [(D.sl (n) 2 (List.take (n * 2) (List.drop 0 l)))]) ∧
 (bcase (decide (0 + n * 2 ≤ List.length (List.take (n * 2) (List.drop 0 l))))
 (∃ n1 : Int,
 (∃ n2 : Int,
 ((Says C 10 [(D.sl (n) 2 (List.take (n * 2) (List.drop 0 (List.take (n * 2) (List.drop 0 l)))))] [(D.val (Go.Value.int Go.IntKind.i64 (n1))), (D.val (Go.Value.int Go.IntKind.i64 (n2)))]) ∧
 (bcase (decide (0 + n * 2 ≤ List.length l))
 ((Says C 11 [(D.sl (n) 2 (List.take (n * 2) (List.drop 0 l)))] [(D.sl (n) 2 (List.take (n * 2) (List.drop 0 l)))]) ∧
 (bcase (decide (0 + n * 2 ≤ List.length (List.take (n * 2) (List.drop 0 l))))
 (∃ n3 : Int,
 (∃ n4 : Int,
 ((Says C 12 [(D.sl (n) 2 (List.take (n * 2) (List.drop 0 (List.take (n * 2) (List.drop 0 l))))), (D.val (Go.Value.int Go.IntKind.i64 (x)))] [(D.val (Go.Value.int Go.IntKind.i64 (n3))), (D.val (Go.Value.int Go.IntKind.i64 (n4)))]) ∧
 (((((Go.Value.pointer (Option.some (Go.Addr.mk 1003 0 Option.none))) = (Go.Value.pointer (Option.some (Go.Addr.mk 1003 0 Option.none)))) ∧
 ((Option.some (AObj.cells [(Go.Value.int Go.IntKind.i64 (0 : Int)), (Go.Value.int Go.IntKind.i64 (0 : Int))] 24 false 2)) = (Option.some (AObj.cells [(Go.Value.int Go.IntKind.i64 (0 : Int)), (Go.Value.int Go.IntKind.i64 (0 : Int))] 24 false 2)))) ∧
 (((Go.Value.agg [(Go.Value.int Go.IntKind.i64 (y)), (Go.Value.int Go.IntKind.i64 (z))].toArray) = (Go.Value.agg [(Go.Value.int Go.IntKind.i64 (y)), (Go.Value.int Go.IntKind.i64 (z))].toArray)) ∧
 (((Go.Value.slice (Option.some (Go.Addr.mk 500 0 Option.none)) (n) (cap)) = (Go.Value.slice (Option.some (Go.Addr.mk 500 0 Option.none)) (n) (cap))) ∧
 True))) ∧
 (bcase (decide (0 + n * 2 ≤ List.length l))
 ((Says C 11 [(D.sl (n) 2 (List.take (n * 2) (List.drop 0 l)))] [(D.sl (n) 2 (List.take (n * 2) (List.drop 0 l)))]) ∧
 (((((Go.Value.pointer (Option.some (Go.Addr.mk 1003 0 Option.none))) = (Go.Value.pointer (Option.some (Go.Addr.mk 1003 0 Option.none)))) ∧
 ((Option.some (AObj.cells [(Go.Value.int Go.IntKind.i64 (0 : Int)), (Go.Value.int Go.IntKind.i64 (0 : Int))] 24 false 2)) = (Option.some (AObj.cells [(Go.Value.int Go.IntKind.i64 (0 : Int)), (Go.Value.int Go.IntKind.i64 (0 : Int))] 24 false 2)))) ∧
 (((Go.Value.agg [(Go.Value.int Go.IntKind.i64 (y)), (Go.Value.int Go.IntKind.i64 (z))].toArray) = (Go.Value.agg [(Go.Value.int Go.IntKind.i64 (y)), (Go.Value.int Go.IntKind.i64 (z))].toArray)) ∧
 True)) ∧
 (bcase (decide (0 + n * 2 ≤ List.length (List.take (n * 2) (List.drop 0 l))))
 (∃ n5 : Int,
 (∃ n6 : Int,
 (∃ n7 : Int,
 ((Says C 13 [(D.sl (n) 2 (List.take (n * 2) (List.drop 0 (List.take (n * 2) (List.drop 0 l))))), (D.agg [(D.val (Go.Value.int Go.IntKind.i64 (y))), (D.val (Go.Value.int Go.IntKind.i64 (z)))])] [(D.agg [(D.val (Go.Value.int Go.IntKind.i64 (n5))), (D.val (Go.Value.int Go.IntKind.i64 (n6)))]), (D.val (Go.Value.int Go.IntKind.i64 (n7)))]) ∧
 ((((Go.Value.int Go.IntKind.i64 (n7)) = (Go.Value.int Go.IntKind.i64 (n7))) ∧
 (((Go.Value.agg [(Go.Value.int Go.IntKind.i64 (n5)), (Go.Value.int Go.IntKind.i64 (n6))].toArray) = (Go.Value.agg [(Go.Value.int Go.IntKind.i64 (n5)), (Go.Value.int Go.IntKind.i64 (n6))].toArray)) ∧
 (((Go.Value.tuple [(Go.Value.agg [(Go.Value.int Go.IntKind.i64 (n5)), (Go.Value.int Go.IntKind.i64 (n6))].toArray), (Go.Value.int Go.IntKind.i64 (n7))].toArray) = (Go.Value.tuple [(Go.Value.agg [(Go.Value.int Go.IntKind.i64 (n5)), (Go.Value.int Go.IntKind.i64 (n6))].toArray), (Go.Value.int Go.IntKind.i64 (n7))].toArray)) ∧
 ((((Go.Value.pointer (Option.some (Go.Addr.mk 1003 0 Option.none))) = (Go.Value.pointer (Option.some (Go.Addr.mk 1003 0 Option.none)))) ∧
 ((Option.some (AObj.cells [(Go.Value.int Go.IntKind.i64 (0 : Int)), (Go.Value.int Go.IntKind.i64 (0 : Int))] 24 false 2)) = (Option.some (AObj.cells [(Go.Value.int Go.IntKind.i64 (0 : Int)), (Go.Value.int Go.IntKind.i64 (0 : Int))] 24 false 2)))) ∧
 True)))) ∧
 ((((Go.Value.int Go.IntKind.i64 (n7)) = (Go.Value.int Go.IntKind.i64 (n7))) ∧
 True) ∧
 (True ∧
 (bcase (decide (0 + n * 2 ≤ List.length l))
 (∃ n8 : Int,
 (∃ n9 : Int,
 ((Says C 14 [(D.sl (n) 2 (List.take (n * 2) (List.drop 0 l)))] [(D.val (Go.Value.int Go.IntKind.i64 (n8))), (D.val (Go.Value.int Go.IntKind.i64 (n9)))]) ∧
 (bcase (n2 != n9)
 (k [(D.val (Go.Value.bool false))])
 (bcase (n1 != n8)
 (k [(D.val (Go.Value.bool false))])
 (bcase (n9 != 0)
 (bcase (n4 == n9)
 (bcase (n7 == n9)
 (bcase (n3 == 0)
 (bcase (if Bool.false = Bool.true then !(n5 == 0 && (n6 == 0 && Bool.true)) else n5 == 0 && (n6 == 0 && Bool.true))
 (k [(D.val (Go.Value.bool true))])
 (k [(D.val (Go.Value.bool false))]))
 (k [(D.val (Go.Value.bool false))]))
 (k [(D.val (Go.Value.bool false))]))
 (k [(D.val (Go.Value.bool false))]))
 (bcase (decide (0 ≤ x))
 (bcase (decide (x ≤ 20000))
 (bcase (n4 != 0)
 (k [(D.val (Go.Value.bool false))])
 (bcase (decide (0 + n * 2 ≤ List.length l))
 (∃ n10 : Int,
 ((Says C 16 [(D.sl (n) 2 (List.take (n * 2) (List.drop 0 l))), (D.val (Go.Value.int Go.IntKind.i64 (x)))] [(D.val (Go.Value.int Go.IntKind.i64 (n10)))]) ∧
 (bcase (n3 != n10)
 (k [(D.val (Go.Value.bool false))])
 (bcase (decide (0 ≤ y))
 (bcase (decide (y ≤ 20000))
 (bcase (decide (0 ≤ z))
 (bcase (decide (z ≤ 20000))
 (bcase (decide (y > z))
 (bcase (n7 == 9)
 (bcase (if Bool.false = Bool.true then !(n5 == 0 && (n6 == 0 && Bool.true)) else n5 == 0 && (n6 == 0 && Bool.true))
 (k [(D.val (Go.Value.bool true))])
 (k [(D.val (Go.Value.bool false))]))
 (k [(D.val (Go.Value.bool false))]))
 (bcase (n7 == 0)
 ((((Go.Value.agg [(Go.Value.int Go.IntKind.i64 (y)), (Go.Value.int Go.IntKind.i64 (z))].toArray) = (Go.Value.agg [(Go.Value.int Go.IntKind.i64 (y)), (Go.Value.int Go.IntKind.i64 (z))].toArray)) ∧
 (((Go.Value.slice (Option.some (Go.Addr.mk 500 0 Option.none)) (n) (cap)) = (Go.Value.slice (Option.some (Go.Addr.mk 500 0 Option.none)) (n) (cap))) ∧
 (((Go.Value.agg [(Go.Value.int Go.IntKind.i64 (n5)), (Go.Value.int Go.IntKind.i64 (n6))].toArray) = (Go.Value.agg [(Go.Value.int Go.IntKind.i64 (n5)), (Go.Value.int Go.IntKind.i64 (n6))].toArray)) ∧
 (((Go.Value.bool true) = (Go.Value.bool true)) ∧
 ((bcase (n7 == 0)
 ((Go.Value.bool true) = (Go.Value.bool true))
 ((Go.Value.bool false) = (Go.Value.bool true))) ∧
 (((Go.Value.int Go.IntKind.i64 (n7)) = (Go.Value.int Go.IntKind.i64 (n7))) ∧
 True)))))) ∧
 (bcase (decide (0 + n * 2 ≤ List.length l))
 (∃ n11 : Int,
 (∃ n12 : Int,
 ((Says C 17 [(D.sl (n) 2 (List.take (n * 2) (List.drop 0 l))), (D.agg [(D.val (Go.Value.int Go.IntKind.i64 (y))), (D.val (Go.Value.int Go.IntKind.i64 (z)))])] [(D.agg [(D.val (Go.Value.int Go.IntKind.i64 (n11))), (D.val (Go.Value.int Go.IntKind.i64 (n12)))])]) ∧
 (bcase (if Bool.false = Bool.true then !(n5 == n11 && (n6 == n12 && Bool.true)) else n5 == n11 && (n6 == n12 && Bool.true))
 ((((Go.Value.bool true) = (Go.Value.bool true)) ∧
 ((bcase (if Bool.false = Bool.true then !(n5 == n11 && (n6 == n12 && Bool.true)) else n5 == n11 && (n6 == n12 && Bool.true))
 ((Go.Value.bool true) = (Go.Value.bool true))
 ((Go.Value.bool false) = (Go.Value.bool true))) ∧
 (((Go.Value.agg [(Go.Value.int Go.IntKind.i64 (n5)), (Go.Value.int Go.IntKind.i64 (n6))].toArray) = (Go.Value.agg [(Go.Value.int Go.IntKind.i64 (n5)), (Go.Value.int Go.IntKind.i64 (n6))].toArray)) ∧
 ((bcase (n7 == 0)
 ((Go.Value.bool true) = (Go.Value.bool true))
 ((Go.Value.bool false) = (Go.Value.bool true))) ∧
 (((Go.Value.int Go.IntKind.i64 (n7)) = (Go.Value.int Go.IntKind.i64 (n7))) ∧
 True))))) ∧
 (True ∧
 (k [(D.val (Go.Value.bool true))])))
 ((((Go.Value.bool false) = (Go.Value.bool false)) ∧
 ((bcase (if Bool.false = Bool.true then !(n5 == n11 && (n6 == n12 && Bool.true)) else n5 == n11 && (n6 == n12 && Bool.true))
 ((Go.Value.bool true) = (Go.Value.bool false))
 ((Go.Value.bool false) = (Go.Value.bool false))) ∧
 (((Go.Value.agg [(Go.Value.int Go.IntKind.i64 (n5)), (Go.Value.int Go.IntKind.i64 (n6))].toArray) = (Go.Value.agg [(Go.Value.int Go.IntKind.i64 (n5)), (Go.Value.int Go.IntKind.i64 (n6))].toArray)) ∧
 ((bcase (n7 == 0)
 ((Go.Value.bool true) = (Go.Value.bool true))
 ((Go.Value.bool false) = (Go.Value.bool true))) ∧
 (((Go.Value.int Go.IntKind.i64 (n7)) = (Go.Value.int Go.IntKind.i64 (n7))) ∧
 True))))) ∧
 (True ∧
 (k [(D.val (Go.Value.bool false))])))))))
 False))
 ((((Go.Value.tuple [].toArray) = (Go.Value.tuple [].toArray)) ∧
 (((Go.Value.tuple [].toArray) = (Go.Value.tuple [].toArray)) ∧
 (((Go.Value.tuple [].toArray) = (Go.Value.tuple [].toArray)) ∧
 (((Go.Value.bool false) = (Go.Value.bool false)) ∧
 ((bcase (n7 == 0)
 ((Go.Value.bool true) = (Go.Value.bool false))
 ((Go.Value.bool false) = (Go.Value.bool false))) ∧
 (((Go.Value.int Go.IntKind.i64 (n7)) = (Go.Value.int Go.IntKind.i64 (n7))) ∧
 True)))))) ∧
 ((((Go.Value.bool false) = (Go.Value.bool false)) ∧
 (((Go.Value.tuple [].toArray) = (Go.Value.tuple [].toArray)) ∧
 (((Go.Value.tuple [].toArray) = (Go.Value.tuple [].toArray)) ∧
 ((bcase (n7 == 0)
 ((Go.Value.bool true) = (Go.Value.bool false))
 ((Go.Value.bool false) = (Go.Value.bool false))) ∧
 (((Go.Value.int Go.IntKind.i64 (n7)) = (Go.Value.int Go.IntKind.i64 (n7))) ∧
 True))))) ∧
 (True ∧
 (k [(D.val (Go.Value.bool false))]))))))
 (bcase (n7 == 2)
 (bcase (if Bool.false = Bool.true then !(n5 == 0 && (n6 == 0 && Bool.true)) else n5 == 0 && (n6 == 0 && Bool.true))
 (k [(D.val (Go.Value.bool true))])
 (k [(D.val (Go.Value.bool false))]))
 (k [(D.val (Go.Value.bool false))])))
 (bcase (n7 == 2)
 (bcase (if Bool.false = Bool.true then !(n5 == 0 && (n6 == 0 && Bool.true)) else n5 == 0 && (n6 == 0 && Bool.true))
 (k [(D.val (Go.Value.bool true))])
 (k [(D.val (Go.Value.bool false))]))
 (k [(D.val (Go.Value.bool false))])))
 (bcase (n7 == 2)
 (bcase (if Bool.false = Bool.true then !(n5 == 0 && (n6 == 0 && Bool.true)) else n5 == 0 && (n6 == 0 && Bool.true))
 (k [(D.val (Go.Value.bool true))])
 (k [(D.val (Go.Value.bool false))]))
 (k [(D.val (Go.Value.bool false))])))
 (bcase (n7 == 2)
 (bcase (if Bool.false = Bool.true then !(n5 == 0 && (n6 == 0 && Bool.true)) else n5 == 0 && (n6 == 0 && Bool.true))
 (k [(D.val (Go.Value.bool true))])
 (k [(D.val (Go.Value.bool false))]))
 (k [(D.val (Go.Value.bool false))]))))))
 False))
 (bcase (n4 != 2)
 (k [(D.val (Go.Value.bool false))])
 (bcase (n3 != 0)
 (k [(D.val (Go.Value.bool false))])
 (bcase (decide (0 ≤ y))
 (bcase (decide (y ≤ 20000))
 (bcase (decide (0 ≤ z))
 (bcase (decide (z ≤ 20000))
 (bcase (decide (y > z))
 (bcase (n7 == 9)
 (bcase (if Bool.false = Bool.true then !(n5 == 0 && (n6 == 0 && Bool.true)) else n5 == 0 && (n6 == 0 && Bool.true))
 (k [(D.val (Go.Value.bool true))])
 (k [(D.val (Go.Value.bool false))]))
 (k [(D.val (Go.Value.bool false))]))
 (bcase (n7 == 0)
 ((((Go.Value.agg [(Go.Value.int Go.IntKind.i64 (y)), (Go.Value.int Go.IntKind.i64 (z))].toArray) = (Go.Value.agg [(Go.Value.int Go.IntKind.i64 (y)), (Go.Value.int Go.IntKind.i64 (z))].toArray)) ∧
 (((Go.Value.slice (Option.some (Go.Addr.mk 500 0 Option.none)) (n) (cap)) = (Go.Value.slice (Option.some (Go.Addr.mk 500 0 Option.none)) (n) (cap))) ∧
 (((Go.Value.agg [(Go.Value.int Go.IntKind.i64 (n5)), (Go.Value.int Go.IntKind.i64 (n6))].toArray) = (Go.Value.agg [(Go.Value.int Go.IntKind.i64 (n5)), (Go.Value.int Go.IntKind.i64 (n6))].toArray)) ∧
 (((Go.Value.bool true) = (Go.Value.bool true)) ∧
 ((bcase (n7 == 0)
 ((Go.Value.bool true) = (Go.Value.bool true))
 ((Go.Value.bool false) = (Go.Value.bool true))) ∧
 (((Go.Value.int Go.IntKind.i64 (n7)) = (Go.Value.int Go.IntKind.i64 (n7))) ∧
 True)))))) ∧
 (bcase (decide (0 + n * 2 ≤ List.length l))
 (∃ n10 : Int,
 (∃ n11 : Int,
 ((Says C 17 [(D.sl (n) 2 (List.take (n * 2) (List.drop 0 l))), (D.agg [(D.val (Go.Value.int Go.IntKind.i64 (y))), (D.val (Go.Value.int Go.IntKind.i64 (z)))])] [(D.agg [(D.val (Go.Value.int Go.IntKind.i64 (n10))), (D.val (Go.Value.int Go.IntKind.i64 (n11)))])]) ∧
 (bcase (if Bool.false = Bool.true then !(n5 == n10 && (n6 == n11 && Bool.true)) else n5 == n10 && (n6 == n11 && Bool.true))
 ((((Go.Value.bool true) = (Go.Value.bool true)) ∧
 ((bcase (if Bool.false = Bool.true then !(n5 == n10 && (n6 == n11 && Bool.true)) else n5 == n10 && (n6 == n11 && Bool.true))
 ((Go.Value.bool true) = (Go.Value.bool true))
 ((Go.Value.bool false) = (Go.Value.bool true))) ∧
 (((Go.Value.agg [(Go.Value.int Go.IntKind.i64 (n5)), (Go.Value.int Go.IntKind.i64 (n6))].toArray) = (Go.Value.agg [(Go.Value.int Go.IntKind.i64 (n5)), (Go.Value.int Go.IntKind.i64 (n6))].toArray)) ∧
 ((bcase (n7 == 0)
 ((Go.Value.bool true) = (Go.Value.bool true))
 ((Go.Value.bool false) = (Go.Value.bool true))) ∧
 (((Go.Value.int Go.IntKind.i64 (n7)) = (Go.Value.int Go.IntKind.i64 (n7))) ∧
 True))))) ∧
 (True ∧
 (k [(D.val (Go.Value.bool true))])))
 ((((Go.Value.bool false) = (Go.Value.bool false)) ∧
 ((bcase (if Bool.false = Bool.true then !(n5 == n10 && (n6 == n11 && Bool.true)) else n5 == n10 && (n6 == n11 && Bool.true))
 ((Go.Value.bool true) = (Go.Value.bool false))
 ((Go.Value.bool false) = (Go.Value.bool false))) ∧
 (((Go.Value.agg [(Go.Value.int Go.IntKind.i64 (n5)), (Go.Value.int Go.IntKind.i64 (n6))].toArray) = (Go.Value.agg [(Go.Value.int Go.IntKind.i64 (n5)), (Go.Value.int Go.IntKind.i64 (n6))].toArray)) ∧
 ((bcase (n7 == 0)
 ((Go.Value.bool true) = (Go.Value.bool true))
 ((Go.Value.bool false) = (Go.Value.bool true))) ∧
 (((Go.Value.int Go.IntKind.i64 (n7)) = (Go.Value.int Go.IntKind.i64 (n7))) ∧
 True))))) ∧
 (True ∧
 (k [(D.val (Go.Value.bool false))])))))))
 False))
 ((((Go.Value.tuple [].toArray) = (Go.Value.tuple [].toArray)) ∧
 (((Go.Value.tuple [].toArray) = (Go.Value.tuple [].toArray)) ∧
 (((Go.Value.tuple [].toArray) = (Go.Value.tuple [].toArray)) ∧
 (((Go.Value.bool false) = (Go.Value.bool false)) ∧
 ((bcase (n7 == 0)
 ((Go.Value.bool true) = (Go.Value.bool false))
 ((Go.Value.bool false) = (Go.Value.bool false))) ∧
 (((Go.Value.int Go.IntKind.i64 (n7)) = (Go.Value.int Go.IntKind.i64 (n7))) ∧
 True)))))) ∧
 ((((Go.Value.bool false) = (Go.Value.bool false)) ∧
 (((Go.Value.tuple [].toArray) = (Go.Value.tuple [].toArray)) ∧
 (((Go.Value.tuple [].toArray) = (Go.Value.tuple [].toArray)) ∧
 ((bcase (n7 == 0)
 ((Go.Value.bool true) = (Go.Value.bool false))
 ((Go.Value.bool false) = (Go.Value.bool false))) ∧
 (((Go.Value.int Go.IntKind.i64 (n7)) = (Go.Value.int Go.IntKind.i64 (n7))) ∧
 True))))) ∧
 (True ∧
 (k [(D.val (Go.Value.bool false))]))))))
 (bcase (n7 == 2)
 (bcase (if Bool.false = Bool.true then !(n5 == 0 && (n6 == 0 && Bool.true)) else n5 == 0 && (n6 == 0 && Bool.true))
 (k [(D.val (Go.Value.bool true))])
 (k [(D.val (Go.Value.bool false))]))
 (k [(D.val (Go.Value.bool false))])))
 (bcase (n7 == 2)
 (bcase (if Bool.false = Bool.true then !(n5 == 0 && (n6 == 0 && Bool.true)) else n5 == 0 && (n6 == 0 && Bool.true))
 (k [(D.val (Go.Value.bool true))])
 (k [(D.val (Go.Value.bool false))]))
 (k [(D.val (Go.Value.bool false))])))
 (bcase (n7 == 2)
 (bcase (if Bool.false = Bool.true then !(n5 == 0 && (n6 == 0 && Bool.true)) else n5 == 0 && (n6 == 0 && Bool.true))
 (k [(D.val (Go.Value.bool true))])
 (k [(D.val (Go.Value.bool false))]))
 (k [(D.val (Go.Value.bool false))])))
 (bcase (n7 == 2)
 (bcase (if Bool.false = Bool.true then !(n5 == 0 && (n6 == 0 && Bool.true)) else n5 == 0 && (n6 == 0 && Bool.true))
 (k [(D.val (Go.Value.bool true))])
 (k [(D.val (Go.Value.bool false))]))
 (k [(D.val (Go.Value.bool false))]))))))
 (bcase (n4 != 2)
 (k [(D.val (Go.Value.bool false))])
 (bcase (n3 != 0)
 (k [(D.val (Go.Value.bool false))])
 (bcase (decide (0 ≤ y))
 (bcase (decide (y ≤ 20000))
 (bcase (decide (0 ≤ z))
 (bcase (decide (z ≤ 20000))
 (bcase (decide (y > z))
 (bcase (n7 == 9)
 (bcase (if Bool.false = Bool.true then !(n5 == 0 && (n6 == 0 && Bool.true)) else n5 == 0 && (n6 == 0 && Bool.true))
 (k [(D.val (Go.Value.bool true))])
 (k [(D.val (Go.Value.bool false))]))
 (k [(D.val (Go.Value.bool false))]))
 (bcase (n7 == 0)
 ((((Go.Value.agg [(Go.Value.int Go.IntKind.i64 (y)), (Go.Value.int Go.IntKind.i64 (z))].toArray) = (Go.Value.agg [(Go.Value.int Go.IntKind.i64 (y)), (Go.Value.int Go.IntKind.i64 (z))].toArray)) ∧
 (((Go.Value.slice (Option.some (Go.Addr.mk 500 0 Option.none)) (n) (cap)) = (Go.Value.slice (Option.some (Go.Addr.mk 500 0 Option.none)) (n) (cap))) ∧
 (((Go.Value.agg [(Go.Value.int Go.IntKind.i64 (n5)), (Go.Value.int Go.IntKind.i64 (n6))].toArray) = (Go.Value.agg [(Go.Value.int Go.IntKind.i64 (n5)), (Go.Value.int Go.IntKind.i64 (n6))].toArray)) ∧
 (((Go.Value.bool true) = (Go.Value.bool true)) ∧
 ((bcase (n7 == 0)
 ((Go.Value.bool true) = (Go.Value.bool true))
 ((Go.Value.bool false) = (Go.Value.bool true))) ∧
 (((Go.Value.int Go.IntKind.i64 (n7)) = (Go.Value.int Go.IntKind.i64 (n7))) ∧
 True)))))) ∧
 (bcase (decide (0 + n * 2 ≤ List.length l))
 (∃ n10 : Int,
 (∃ n11 : Int,
 ((Says C 17 [(D.sl (n) 2 (List.take (n * 2) (List.drop 0 l))), (D.agg [(D.val (Go.Value.int Go.IntKind.i64 (y))), (D.val (Go.Value.int Go.IntKind.i64 (z)))])] [(D.agg [(D.val (Go.Value.int Go.IntKind.i64 (n10))), (D.val (Go.Value.int Go.IntKind.i64 (n11)))])]) ∧
 (bcase (if Bool.false = Bool.true then !(n5 == n10 && (n6 == n11 && Bool.true)) else n5 == n10 && (n6 == n11 && Bool.true))
 ((((Go.Value.bool true) = (Go.Value.bool true)) ∧
 ((bcase (if Bool.false = Bool.true then !(n5 == n10 && (n6 == n11 && Bool.true)) else n5 == n10 && (n6 == n11 && Bool.true))
 ((Go.Value.bool true) = (Go.Value.bool true))
 ((Go.Value.bool false) = (Go.Value.bool true))) ∧
 (((Go.Value.agg [(Go.Value.int Go.IntKind.i64 (n5)), (Go.Value.int Go.IntKind.i64 (n6))].toArray) = (Go.Value.agg [(Go.Value.int Go.IntKind.i64 (n5)), (Go.Value.int Go.IntKind.i64 (n6))].toArray)) ∧
 ((bcase (n7 == 0)
 ((Go.Value.bool true) = (Go.Value.bool true))
 ((Go.Value.bool false) = (Go.Value.bool true))) ∧
 (((Go.Value.int Go.IntKind.i64 (n7)) = (Go.Value.int Go.IntKind.i64 (n7))) ∧
 True))))) ∧
 (True ∧
 (k [(D.val (Go.Value.bool true))])))
 ((((Go.Value.bool false) = (Go.Value.bool false)) ∧
 ((bcase (if Bool.false = Bool.true then !(n5 == n10 && (n6 == n11 && Bool.true)) else n5 == n10 && (n6 == n11 && Bool.true))
 ((Go.Value.bool true) = (Go.Value.bool false))
 ((Go.Value.bool false) = (Go.Value.bool false))) ∧
 (((Go.Value.agg [(Go.Value.int Go.IntKind.i64 (n5)), (Go.Value.int Go.IntKind.i64 (n6))].toArray) = (Go.Value.agg [(Go.Value.int Go.IntKind.i64 (n5)), (Go.Value.int Go.IntKind.i64 (n6))].toArray)) ∧
 ((bcase (n7 == 0)
 ((Go.Value.bool true) = (Go.Value.bool true))
 ((Go.Value.bool false) = (Go.Value.bool true))) ∧
 (((Go.Value.int Go.IntKind.i64 (n7)) = (Go.Value.int Go.IntKind.i64 (n7))) ∧
 True))))) ∧
 (True ∧
 (k [(D.val (Go.Value.bool false))])))))))
 False))
 ((((Go.Value.tuple [].toArray) = (Go.Value.tuple [].toArray)) ∧
 (((Go.Value.tuple [].toArray) = (Go.Value.tuple [].toArray)) ∧
 (((Go.Value.tuple [].toArray) = (Go.Value.tuple [].toArray)) ∧
 (((Go.Value.bool false) = (Go.Value.bool false)) ∧
 ((bcase (n7 == 0)
 ((Go.Value.bool true) = (Go.Value.bool false))
 ((Go.Value.bool false) = (Go.Value.bool false))) ∧
 (((Go.Value.int Go.IntKind.i64 (n7)) = (Go.Value.int Go.IntKind.i64 (n7))) ∧
 True)))))) ∧
 ((((Go.Value.bool false) = (Go.Value.bool false)) ∧
 (((Go.Value.tuple [].toArray) = (Go.Value.tuple [].toArray)) ∧
 (((Go.Value.tuple [].toArray) = (Go.Value.tuple [].toArray)) ∧
 ((bcase (n7 == 0)
 ((Go.Value.bool true) = (Go.Value.bool false))
 ((Go.Value.bool false) = (Go.Value.bool false))) ∧
 (((Go.Value.int Go.IntKind.i64 (n7)) = (Go.Value.int Go.IntKind.i64 (n7))) ∧
 True))))) ∧
 (True ∧
 (k [(D.val (Go.Value.bool false))]))))))
 (bcase (n7 == 2)
 (bcase (if Bool.false = Bool.true then !(n5 == 0 && (n6 == 0 && Bool.true)) else n5 == 0 && (n6 == 0 && Bool.true))
 (k [(D.val (Go.Value.bool true))])
 (k [(D.val (Go.Value.bool false))]))
 (k [(D.val (Go.Value.bool false))])))
 (bcase (n7 == 2)
 (bcase (if Bool.false = Bool.true then !(n5 == 0 && (n6 == 0 && Bool.true)) else n5 == 0 && (n6 == 0 && Bool.true))
 (k [(D.val (Go.Value.bool true))])
 (k [(D.val (Go.Value.bool false))]))
 (k [(D.val (Go.Value.bool false))])))
 (bcase (n7 == 2)
 (bcase (if Bool.false = Bool.true then !(n5 == 0 && (n6 == 0 && Bool.true)) else n5 == 0 && (n6 == 0 && Bool.true))
 (k [(D.val (Go.Value.bool true))])
 (k [(D.val (Go.Value.bool false))]))
 (k [(D.val (Go.Value.bool false))])))
 (bcase (n7 == 2)
 (bcase (if Bool.false = Bool.true then !(n5 == 0 && (n6 == 0 && Bool.true)) else n5 == 0 && (n6 == 0 && Bool.true))
 (k [(D.val (Go.Value.bool true))])
 (k [(D.val (Go.Value.bool false))]))
 (k [(D.val (Go.Value.bool false))]))))))))))))
 False))))))))
 False)))
 False)))))
 False))
 False))))
 False))
 False))) ∨
 ((Says C 9 [] [(D.val (Go.Value.bool false))]) ∧
 (k [(D.val (Go.Value.bool false))]))) := by kernel_rfl
def g3n (C : Ct) (L : AtLoop) (x y z : Int) (k : List D → Prop) : Prop := wpFn Try.prog (hM C) L 0 3 #[.slice none 0 0, vI x, vP y z] (heapOf []) (dataK k)
theorem g3n_text (C : Ct) (L : AtLoop) (x : Int) (y : Int) (z : Int) (k : List D → Prop) : g3n C L x y z k =
 (((Says C 9 [] [(D.val (Go.Value.bool true))]) ∧
 ((Says C 11 [D.nil] [(D.sl 0 2 [])]) ∧
 (∃ n1 : Int,
 (∃ n2 : Int,
 ((Says C 10 [(D.sl 0 2 [])] [(D.val (Go.Value.int Go.IntKind.i64 (n1))), (D.val (Go.Value.int Go.IntKind.i64 (n2)))]) ∧
 ((Says C 11 [D.nil] [(D.sl 0 2 [])]) ∧
 (∃ n3 : Int,
 (∃ n4 : Int,
 ((Says C 12 [(D.sl 0 2 []), (D.val (Go.Value.int Go.IntKind.i64 (x)))] [(D.val (Go.Value.int Go.IntKind.i64 (n3))), (D.val (Go.Value.int Go.IntKind.i64 (n4)))]) ∧
 (((((Go.Value.pointer (Option.some (Go.Addr.mk 1003 0 Option.none))) = (Go.Value.pointer (Option.some (Go.Addr.mk 1003 0 Option.none)))) ∧
 ((Option.some (AObj.cells [(Go.Value.int Go.IntKind.i64 (0 : Int)), (Go.Value.int Go.IntKind.i64 (0 : Int))] 24 false 2)) = (Option.some (AObj.cells [(Go.Value.int Go.IntKind.i64 (0 : Int)), (Go.Value.int Go.IntKind.i64 (0 : Int))] 24 false 2)))) ∧
 (((Go.Value.agg [(Go.Value.int Go.IntKind.i64 (y)), (Go.Value.int Go.IntKind.i64 (z))].toArray) = (Go.Value.agg [(Go.Value.int Go.IntKind.i64 (y)), (Go.Value.int Go.IntKind.i64 (z))].toArray)) ∧
 (((Go.Value.slice Option.none 0 0) = (Go.Value.slice Option.none 0 0)) ∧
 True))) ∧
 ((Says C 11 [D.nil] [(D.sl 0 2 [])]) ∧
 (((((Go.Value.pointer (Option.some (Go.Addr.mk 1003 0 Option.none))) = (Go.Value.pointer (Option.some (Go.Addr.mk 1003 0 Option.none)))) ∧
 ((Option.some (AObj.cells [(Go.Value.int Go.IntKind.i64 (0 : Int)), (Go.Value.int Go.IntKind.i64 (0 : Int))] 24 false 2)) = (Option.some (AObj.cells [(Go.Value.int Go.IntKind.i64 (0 : Int)), (Go.Value.int Go.IntKind.i64 (0 : Int))] 24 false 2)))) ∧
 (((Go.Value.agg [(Go.Value.int Go.IntKind.i64 (y)), (Go.Value.int Go.IntKind.i64 (z))].toArray) = (Go.Value.agg [(Go.Value.int Go.IntKind.i64 (y)), (Go.Value.int Go.IntKind.i64 (z))].toArray)) ∧
 True)) ∧
 (∃ n5 : Int,
 (∃ n6 : Int,
 (∃ n7 : Int,
 ((Says C 13 [(D.sl 0 2 []), (D.agg [(D.val (Go.Value.int Go.IntKind.i64 (y))), (D.val (Go.Value.int Go.IntKind.i64 (z)))])] [(D.agg [(D.val (Go.Value.int Go.IntKind.i64 (n5))), (D.val (Go.Value.int Go.IntKind.i64 (n6)))]), (D.val (Go.Value.int Go.IntKind.i64 (n7)))]) ∧
 ((((Go.Value.int Go.IntKind.i64 (n7)) = (Go.Value.int Go.IntKind.i64 (n7))) ∧
 (((Go.Value.agg [(Go.Value.int Go.IntKind.i64 (n5)), (Go.Value.int Go.IntKind.i64 (n6))].toArray) = (Go.Value.agg [(Go.Value.int Go.IntKind.i64 (n5)), (Go.Value.int Go.IntKind.i64 (n6))].toArray)) ∧
 (((Go.Value.tuple [(Go.Value.agg [(Go.Value.int Go.IntKind.i64 (n5)), (Go.Value.int Go.IntKind.i64 (n6))].toArray), (Go.Value.int Go.IntKind.i64 (n7))].toArray) = (Go.Value.tuple [(Go.Value.agg [(Go.Value.int Go.IntKind.i64 (n5)), (Go.Value.int Go.IntKind.i64 (n6))].toArray), (Go.Value.int Go.IntKind.i64 (n7))].toArray)) ∧
 ((((Go.Value.pointer (Option.some (Go.Addr.mk 1003 0 Option.none))) = (Go.Value.pointer (Option.some (Go.Addr.mk 1003 0 Option.none)))) ∧
 ((Option.some (AObj.cells [(Go.Value.int Go.IntKind.i64 (0 : Int)), (Go.Value.int Go.IntKind.i64 (0 : Int))] 24 false 2)) = (Option.some (AObj.cells [(Go.Value.int Go.IntKind.i64 (0 : Int)), (Go.Value.int Go.IntKind.i64 (0 : Int))] 24 false 2)))) ∧
 True)))) ∧
 ((((Go.Value.int Go.IntKind.i64 (n7)) = (Go.Value.int Go.IntKind.i64 (n7))) ∧
 True) ∧
 (True ∧
 (∃ n8 : Int,
 (∃ n9 : Int,
 ((Says C 14 [D.nil] [(D.val (Go.Value.int Go.IntKind.i64 (n8))), (D.val (Go.Value.int Go.IntKind.i64 (n9)))]) ∧
 (bcase (n2 != n9)
 (k [(D.val (Go.Value.bool false))])
 (bcase (n1 != n8)
 (k [(D.val (Go.Value.bool false))])
 (bcase (n9 != 0)
 (bcase (n4 == n9)
 (bcase (n7 == n9)
 (bcase (n3 == 0)
 (bcase (if Bool.false = Bool.true then !(n5 == 0 && (n6 == 0 && Bool.true)) else n5 == 0 && (n6 == 0 && Bool.true))
 (k [(D.val (Go.Value.bool true))])
 (k [(D.val (Go.Value.bool false))]))
 (k [(D.val (Go.Value.bool false))]))
 (k [(D.val (Go.Value.bool false))]))
 (k [(D.val (Go.Value.bool false))]))
 (bcase (decide (0 ≤ x))
 (bcase (decide (x ≤ 20000))
 (bcase (n4 != 0)
 (k [(D.val (Go.Value.bool false))])
 (∃ n10 : Int,
 ((Says C 16 [D.nil, (D.val (Go.Value.int Go.IntKind.i64 (x)))] [(D.val (Go.Value.int Go.IntKind.i64 (n10)))]) ∧
 (bcase (n3 != n10)
 (k [(D.val (Go.Value.bool false))])
 (bcase (decide (0 ≤ y))
 (bcase (decide (y ≤ 20000))
 (bcase (decide (0 ≤ z))
 (bcase (decide (z ≤ 20000))
 (bcase (decide (y > z))
 (bcase (n7 == 9)
 (bcase (if Bool.false = Bool.true then !(n5 == 0 && (n6 == 0 && Bool.true)) else n5 == 0 && (n6 == 0 && Bool.true))
 (k [(D.val (Go.Value.bool true))])
 (k [(D.val (Go.Value.bool false))]))
 (k [(D.val (Go.Value.bool false))]))
 (bcase (n7 == 0)
 ((((Go.Value.agg [(Go.Value.int Go.IntKind.i64 (y)), (Go.Value.int Go.IntKind.i64 (z))].toArray) = (Go.Value.agg [(Go.Value.int Go.IntKind.i64 (y)), (Go.Value.int Go.IntKind.i64 (z))].toArray)) ∧
 (((Go.Value.slice Option.none 0 0) = (Go.Value.slice Option.none 0 0)) ∧
 (((Go.Value.agg [(Go.Value.int Go.IntKind.i64 (n5)), (Go.Value.int Go.IntKind.i64 (n6))].toArray) = (Go.Value.agg [(Go.Value.int Go.IntKind.i64 (n5)), (Go.Value.int Go.IntKind.i64 (n6))].toArray)) ∧
 (((Go.Value.bool true) = (Go.Value.bool true)) ∧
 ((bcase (n7 == 0)
 ((Go.Value.bool true) = (Go.Value.bool true))
 ((Go.Value.bool false) = (Go.Value.bool true))) ∧
 (((Go.Value.int Go.IntKind.i64 (n7)) = (Go.Value.int Go.IntKind.i64 (n7))) ∧
 True)))))) ∧
 (∃ n11 : Int,
 (∃ n12 : Int,
 ((Says C 17 [D.nil, (D.agg [(D.val (Go.Value.int Go.IntKind.i64 (y))), (D.val (Go.Value.int Go.IntKind.i64 (z)))])] [(D.agg [(D.val (Go.Value.int Go.IntKind.i64 (n11))), (D.val (Go.Value.int Go.IntKind.i64 (n12)))])]) ∧
 (bcase (if Bool.false = Bool.true then !(n5 == n11 && (n6 == n12 && Bool.true)) else n5 == n11 && (n6 == n12 && Bool.true))
 ((((Go.Value.bool true) = (Go.Value.bool true)) ∧
 ((bcase (if Bool.false = Bool.true then !(n5 == n11 && (n6 == n12 && Bool.true)) else n5 == n11 && (n6 == n12 && Bool.true))
 ((Go.Value.bool true) = (Go.Value.bool true))
 ((Go.Value.bool false) = (Go.Value.bool true))) ∧
 (((Go.Value.agg [(Go.Value.int Go.IntKind.i64 (n5)), (Go.Value.int Go.IntKind.i64 (n6))].toArray) = (Go.Value.agg [(Go.Value.int Go.IntKind.i64 (n5)), (Go.Value.int Go.IntKind.i64 (n6))].toArray)) ∧
 ((bcase (n7 == 0)
 ((Go.Value.bool true) = (Go.Value.bool true))
 ((Go.Value.bool false) = (Go.Value.bool true))) ∧
 (((Go.Value.int Go.IntKind.i64 (n7)) = (Go.Value.int Go.IntKind.i64 (n7))) ∧
 True))))) ∧
 (True ∧
 (k [(D.val (Go.Value.bool true))])))
 ((((Go.Value.bool false) = (Go.Value.bool false)) ∧
 ((bcase (if Bool.false = Bool.true then !(n5 == n11 && (n6 == n12 && Bool.true)) else n5 == n11 && (n6 == n12 && Bool.true))
 ((Go.Value.bool true) = (Go.Value.bool false))
 ((Go.Value.bool false) = (Go.Value.bool false))) ∧
 (((Go.Value.agg [(Go.Value.int Go.IntKind.i64 (n5)), (Go.Value.int Go.IntKind.i64 (n6))].toArray) = (Go.Value.agg [(Go.Value.int Go.IntKind.i64 (n5)), (Go.Value.int Go.IntKind.i64 (n6))].toArray)) ∧
 ((bcase (n7 == 0)
 ((Go.Value.bool true) = (Go.Value.bool true))
 ((Go.Value.bool false) = (Go.Value.bool true))) ∧
 (((Go.Value.int Go.IntKind.i64 (n7)) = (Go.Value.int Go.IntKind.i64 (n7))) ∧
 True))))) ∧
 (True ∧
 (k [(D.val (Go.Value.bool false))]))))))))
 ((((Go.Value.tuple [].toArray) = (Go.Value.tuple [].toArray)) ∧
 (((Go.Value.tuple [].toArray) = (Go.Value.tuple [].toArray)) ∧
 (((Go.Value.tuple [].toArray) = (Go.Value.tuple [].toArray)) ∧
 (((Go.Value.bool false) = (Go.Value.bool false)) ∧
 ((bcase (n7 == 0)
 ((Go.Value.bool true) = (Go.Value.bool false))
 ((Go.Value.bool false) = (Go.Value.bool false))) ∧
 (((Go.Value.int Go.IntKind.i64 (n7)) = (Go.Value.int Go.IntKind.i64 (n7))) ∧
 True)))))) ∧
 ((((Go.Value.bool false) = (Go.Value.bool false)) ∧
 (((Go.Value.tuple [].toArray) = (Go.Value.tuple [].toArray)) ∧
 (((Go.Value.tuple [].toArray) = (Go.Value.tuple [].toArray)) ∧
 ((bcase (n7 == 0)
 ((Go.Value.bool true) = (Go.Value.bool false))
 ((Go.Value.bool false) = (Go.Value.bool false))) ∧
 (((Go.Value.int Go.IntKind.i64 (n7)) = (Go.Value.int Go.IntKind.i64 (n7))) ∧
 True))))) ∧
 (True ∧
 (k [(D.val (Go.Value.bool false))]))))))
 (bcase (n7 == 2)
 (bcase (if Bool.false = Bool.true then !(n5 == 0 && (n6 == 0 && Bool.true)) else n5 == 0 && (n6 == 0 && Bool.true))
 (k [(D.val (Go.Value.bool true))])
 (k [(D.val (Go.Value.bool false))]))
 (k [(D.val (Go.Value.bool false))])))
 (bcase (n7 == 2)
 (bcase (if Bool.false = Bool.true then !(n5 == 0 && (n6 == 0 && Bool.true)) else n5 == 0 && (n6 == 0 && Bool.true))
 (k [(D.val (Go.Value.bool true))])
 (k [(D.val (Go.Value.bool false))]))
 (k [(D.val (Go.Value.bool false))])))
 (bcase (n7 == 2)
 (bcase (if Bool.false = Bool.true then !(n5 == 0 && (n6 == 0 && Bool.true)) else n5 == 0 && (n6 == 0 && Bool.true))
 (k [(D.val (Go.Value.bool true))])
 (k [(D.val (Go.Value.bool false))]))
 (k [(D.val (Go.Value.bool false))])))
 (bcase (n7 == 2)
 (bcase (if Bool.false = Bool.true then !(n5 == 0 && (n6 == 0 && Bool.true)) else n5 == 0 && (n6 == 0 && Bool.true))
 (k [(D.val (Go.Value.bool true))])
 (k [(D.val (Go.Value.bool false))]))
 (k [(D.val (Go.Value.bool false))])))))))
 (bcase (n4 != 2)
 (k [(D.val (Go.Value.bool false))])
 (bcase (n3 != 0)
 (k [(D.val (Go.Value.bool false))])
 (bcase (decide (0 ≤ y))
 (bcase (decide (y ≤ 20000))
 (bcase (decide (0 ≤ z))
 (bcase (decide (z ≤ 20000))
 (bcase (decide (y > z))
 (bcase (n7 == 9)
 (bcase (if Bool.false = Bool.true then !(n5 == 0 && (n6 == 0 && Bool.true)) else n5 == 0 && (n6 == 0 && Bool.true))
 (k [(D.val (Go.Value.bool true))])
 (k [(D.val (Go.Value.bool false))]))
 (k [(D.val (Go.Value.bool false))]))
 (bcase (n7 == 0)
 ((((Go.Value.agg [(Go.Value.int Go.IntKind.i64 (y)), (Go.Value.int Go.IntKind.i64 (z))].toArray) = (Go.Value.agg [(Go.Value.int Go.IntKind.i64 (y)), (Go.Value.int Go.IntKind.i64 (z))].toArray)) ∧
 (((Go.Value.slice Option.none 0 0) = (Go.Value.slice Option.none 0 0)) ∧
 (((Go.Value.agg [(Go.Value.int Go.IntKind.i64 (n5)), (Go.Value.int Go.IntKind.i64 (n6))].toArray) = (Go.Value.agg [(Go.Value.int Go.IntKind.i64 (n5)), (Go.Value.int Go.IntKind.i64 (n6))].toArray)) ∧
 (((Go.Value.bool true) = (Go.Value.bool true)) ∧
 ((bcase (n7 == 0)
 ((Go.Value.bool true) = (Go.Value.bool true))
 ((Go.Value.bool false) = (Go.Value.bool true))) ∧
 (((Go.Value.int Go.IntKind.i64 (n7)) = (Go.Value.int Go.IntKind.i64 (n7))) ∧
 True)))))) ∧
 (∃ n10 : Int,
 (∃ n11 : Int,
 ((Says C 17 [D.nil, (D.agg [(D.val (Go.Value.int Go.IntKind.i64 (y))), (D.val (Go.Value.int Go.IntKind.i64 (z)))])] [(D.agg [(D.val (Go.Value.int Go.IntKind.i64 (n10))), (D.val (Go.Value.int Go.IntKind.i64 (n11)))])]) ∧
 (bcase (if Bool.false = Bool.true then !(n5 == n10 && (n6 == n11 && Bool.true)) else n5 == n10 && (n6 == n11 && Bool.true))
 ((((Go.Value.bool true) = (Go.Value.bool true)) ∧
 ((bcase (if Bool.false = Bool.true then !(n5 == n10 && (n6 == n11 && Bool.true)) else n5 == n10 && (n6 == n11 && Bool.true))
 ((Go.Value.bool true) = (Go.Value.bool true))
 ((Go.Value.bool false) = (Go.Value.bool true))) ∧
 (((Go.Value.agg [(Go.Value.int Go.IntKind.i64 (n5)), (Go.Value.int Go.IntKind.i64 (n6))].toArray) = (Go.Value.agg [(Go.Value.int Go.IntKind.i64 (n5)), (Go.Value.int Go.IntKind.i64 (n6))].toArray)) ∧
 ((bcase (n7 == 0)
 ((Go.Value.bool true) = (Go.Value.bool true))
 ((Go.Value.bool false) = (Go.Value.bool true))) ∧
 (((Go.Value.int Go.IntKind.i64 (n7)) = (Go.Value.int Go.IntKind.i64 (n7))) ∧
 True))))) ∧
 (True ∧
 (k [(D.val (Go.Value.bool true))])))
 ((((Go.Value.bool false) = (Go.Value.bool false)) ∧
 ((bcase (if Bool.false = Bool.true then !(n5 == n10 && (n6 == n11 && Bool.true)) else n5 == n10 && (n6 == n11 && Bool.true))
 ((Go.Value.bool true) = (Go.Value.bool false))
 ((Go.Value.bool false) = (Go.Value.bool false))) ∧
 (((Go.Value.agg [(Go.Value.int Go.IntKind.i64 (n5)), (Go.Value.int Go.IntKind.i64 (n6))].toArray) = (Go.Value.agg [(Go.Value.int Go.IntKind.i64 (n5)), (Go.Value.int Go.IntKind.i64 (n6))].toArray)) ∧
 ((bcase (n7 == 0)
 ((Go.Value.bool true) = (Go.Value.bool true))
 ((Go.Value.bool false) = (Go.Value.bool true))) ∧
 (((Go.Value.int Go.IntKind.i64 (n7)) = (Go.Value.int Go.IntKind.i64 (n7))) ∧
 True))))) ∧
 (True ∧
 (k [(D.val (Go.Value.bool false))]))))))))
 ((((Go.Value.tuple [].toArray) = (Go.Value.tuple [].toArray)) ∧
 (((Go.Value.tuple [].toArray) = (Go.Value.tuple [].toArray)) ∧
 (((Go.Value.tuple [].toArray) = (Go.Value.tuple [].toArray)) ∧
 (((Go.Value.bool false) = (Go.Value.bool false)) ∧
 ((bcase (n7 == 0)
 ((Go.Value.bool true) = (Go.Value.bool false))
 ((Go.Value.bool false) = (Go.Value.bool false))) ∧
 (((Go.Value.int Go.IntKind.i64 (n7)) = (Go.Value.int Go.IntKind.i64 (n7))) ∧
 True)))))) ∧
 ((((Go.Value.bool false) = (Go.Value.bool false)) ∧
 (((Go.Value.tuple [].toArray) = (Go.Value.tuple [].toArray)) ∧
 (((Go.Value.tuple [].toArray) = (Go.Value.tuple [].toArray)) ∧
 ((bcase (n7 == 0)
 ((Go.Value.bool true) = (Go.Value.bool false))
 ((Go.Value.bool false) = (Go.Value.bool false))) ∧
 (((Go.Value.int Go.IntKind.i64 (n7)) = (Go.Value.int Go.IntKind.i64 (n7))) ∧
 True))))) ∧
 (True ∧
 (k [(D.val (Go.Value.bool false))]))))))
 (bcase (n7 == 2)
 (bcase (if Bool.false = Bool.true then !(n5 == 0 && (n6 == 0 && Bool.true)) else n5 == 0 && (n6 == 0 && Bool.true))
 (k [(D.val (Go.Value.bool true))])
 (k [(D.val (Go.Value.bool false))]))
 (k [(D.val (Go.Value.bool false))])))
 (bcase (n7 == 2)
 (bcase (if Bool.false = Bool.true then !(n5 == 0 && (n6 == 0 && Bool.true)) else n5 == 0 && (n6 == 0 && Bool.true))
 (k [(D.val (Go.Value.bool true))])
 (k [(D.val (Go.Value.bool false))]))
 (k [(D.val (Go.Value.bool false))])))
 (bcase (n7 == 2)
 (bcase (if Bool.false = Bool.true then !(n5 == 0 && (n6 == 0 && Bool.true)) else n5 == 0 && (n6 == 0 && Bool.true))
 (k [(D.val (Go.Value.bool true))])
 (k [(D.val (Go.Value.bool false))]))
 (k [(D.val (Go.Value.bool false))])))
 (bcase (n7 == 2)
 (bcase (if Bool.false = Bool.true then !(n5 == 0 && (n6 == 0 && Bool.true)) else n5 == 0 && (n6 == 0 && Bool.true))
 (k [(D.val (Go.Value.bool true))])
 (k [(D.val (Go.Value.bool false))]))
 (k [(D.val (Go.Value.bool false))]))))))
 (bcase (n4 != 2)
 (k [(D.val (Go.Value.bool false))])
 (bcase (n3 != 0)
 (k [(D.val (Go.Value.bool false))])
 (bcase (decide (0 ≤ y))
 (bcase (decide (y ≤ 20000))
 (bcase (decide (0 ≤ z))
 (bcase (decide (z ≤ 20000))
 (bcase (decide (y > z))
 (bcase (n7 == 9)
 (bcase (if Bool.false = Bool.true then !(n5 == 0 && (n6 == 0 && Bool.true)) else n5 == 0 && (n6 == 0 && Bool.true))
 (k [(D.val (Go.Value.bool true))])
 (k [(D.val (Go.Value.bool false))]))
 (k [(D.val (Go.Value.bool false))]))
 (bcase (n7 == 0)
 ((((Go.Value.agg [(Go.Value.int Go.IntKind.i64 (y)), (Go.Value.int Go.IntKind.i64 (z))].toArray) = (Go.Value.agg [(Go.Value.int Go.IntKind.i64 (y)), (Go.Value.int Go.IntKind.i64 (z))].toArray)) ∧
 (((Go.Value.slice Option.none 0 0) = (Go.Value.slice Option.none 0 0)) ∧
 (((Go.Value.agg [(Go.Value.int Go.IntKind.i64 (n5)), (Go.Value.int Go.IntKind.i64 (n6))].toArray) = (Go.Value.agg [(Go.Value.int Go.IntKind.i64 (n5)), (Go.Value.int Go.IntKind.i64 (n6))].toArray)) ∧
 (((Go.Value.bool true) = (Go.Value.bool true)) ∧
 ((bcase (n7 == 0)
 ((Go.Value.bool true) = (Go.Value.bool true))
 ((Go.Value.bool false) = (Go.Value.bool true))) ∧
 (((Go.Value.int Go.IntKind.i64 (n7)) = (Go.Value.int Go.IntKind.i64 (n7))) ∧
 True)))))) ∧
 (∃ n10 : Int,
 (∃ n11 : Int,
 ((Says C 17 [D.nil, (D.agg [(D.val (Go.Value.int Go.IntKind.i64 (y))), (D.val (Go.Value.int Go.IntKind.i64 (z)))])] [(D.agg [(D.val (Go.Value.int Go.IntKind.i64 (n10))), (D.val (Go.Value.int Go.IntKind.i64 (n11)))])]) ∧
 (bcase (if Bool.false = Bool.true then !(n5 == n10 && (n6 == n11 && Bool.true)) else n5 == n10 && (n6 == n11 && Bool.true))
 ((((Go.Value.bool true) = (Go.Value.bool true)) ∧
 ((bcase (if Bool.false = Bool.true then !(n5 == n10 && (n6 == n11 && Bool.true)) else n5 == n10 && (n6 == n11 && Bool.true))
 ((Go.Value.bool true) = (Go.Value.bool true))
 ((Go.Value.bool false) = (Go.Value.bool true))) ∧
 (((Go.Value.agg [(Go.Value.int Go.IntKind.i64 (n5)), (Go.Value.int Go.IntKind.i64 (n6))].toArray) = (Go.Value.agg [(Go.Value.int Go.IntKind.i64 (n5)), (Go.Value.int Go.IntKind.i64 (n6))].toArray)) ∧
 ((bcase (n7 == 0)
 ((Go.Value.bool true) = (Go.Value.bool true))
 ((Go.Value.bool false) = (Go.Value.bool true))) ∧
 (((Go.Value.int Go.IntKind.i64 (n7)) = (Go.Value.int Go.IntKind.i64 (n7))) ∧
 True))))) ∧
 (True ∧
 (k [(D.val (Go.Value.bool true))])))
 ((((Go.Value.bool false) = (Go.Value.bool false)) ∧
 ((bcase (if Bool.false = Bool.true then !(n5 == n10 && (n6 == n11 && Bool.true)) else n5 == n10 && (n6 == n11 && Bool.true))
 ((Go.Value.bool true) = (Go.Value.bool false))
 ((Go.Value.bool false) = (Go.Value.bool false))) ∧
 (((Go.Value.agg [(Go.Value.int Go.IntKind.i64 (n5)), (Go.Value.int Go.IntKind.i64 (n6))].toArray) = (Go.Value.agg [(Go.Value.int Go.IntKind.i64 (n5)), (Go.Value.int Go.IntKind.i64 (n6))].toArray)) ∧
 ((bcase (n7 == 0)
 ((Go.Value.bool true) = (Go.Value.bool true))
 ((Go.Value.bool false) = (Go.Value.bool true))) ∧
 (((Go.Value.int Go.IntKind.i64 (n7)) = (Go.Value.int Go.IntKind.i64 (n7))) ∧
 True))))) ∧
 (True ∧
 (k [(D.val (Go.Value.bool false))]))))))))
 ((((Go.Value.tuple [].toArray) = (Go.Value.tuple [].toArray)) ∧
 (((Go.Value.tuple [].toArray) = (Go.Value.tuple [].toArray)) ∧
 (((Go.Value.tuple [].toArray) = (Go.Value.tuple [].toArray)) ∧
 (((Go.Value.bool false) = (Go.Value.bool false)) ∧
 ((bcase (n7 == 0)
 ((Go.Value.bool true) = (Go.Value.bool false))
 ((Go.Value.bool false) = (Go.Value.bool false))) ∧
 (((Go.Value.int Go.IntKind.i64 (n7)) = (Go.Value.int Go.IntKind.i64 (n7))) ∧
 True)))))) ∧
 ((((Go.Value.bool false) = (Go.Value.bool false)) ∧
 (((Go.Value.tuple [].toArray) = (Go.Value.tuple [].toArray)) ∧
 (((Go.Value.tuple [].toArray) = (Go.Value.tuple [].toArray)) ∧
 ((bcase (n7 == 0)
 ((Go.Value.bool true) = (Go.Value.bool false))
 ((Go.Value.bool false) = (Go.Value.bool false))) ∧
 (((Go.Value.int Go.IntKind.i64 (n7)) = (Go.Value.int Go.IntKind.i64 (n7))) ∧
 True))))) ∧
 (True ∧
 (k [(D.val (Go.Value.bool false))]))))))
 (bcase (n7 == 2)
 (bcase (if Bool.false = Bool.true then !(n5 == 0 && (n6 == 0 && Bool.true)) else n5 == 0 && (n6 == 0 && Bool.true))
 (k [(D.val (Go.Value.bool true))])
 (k [(D.val (Go.Value.bool false))]))
 (k [(D.val (Go.Value.bool false))])))
 (bcase (n7 == 2)
 (bcase (if Bool.false = Bool.true then !(n5 == 0 && (n6 == 0 && Bool.true)) else n5 == 0 && (n6 == 0 && Bool.true))
 (k [(D.val (Go.Value.bool true))])
 (k [(D.val (Go.Value.bool false))]))
 (k [(D.val (Go.Value.bool false))])))
 (bcase (n7 == 2)
 (bcase (if Bool.false = Bool.true then !(n5 == 0 && (n6 == 0 && Bool.true)) else n5 == 0 && (n6 == 0 && Bool.true))
 (k [(D.val (Go.Value.bool true))])
 (k [(D.val (Go.Value.bool false))]))
 (k [(D.val (Go.Value.bool false))])))
 (bcase (n7 == 2)
 (bcase (if Bool.false = Bool.true then !(n5 == 0 && (n6 == 0 && Bool.true)) else n5 == 0 && (n6 == 0 && Bool.true))
 (k [(D.val (Go.Value.bool true))])
 (k [(D.val (Go.Value.bool false))]))
 (k [(D.val (Go.Value.bool false))]))))))))))))))))))))))))))))))) ∨
 ((Says C 9 [] [(D.val (Go.Value.bool false))]) ∧
 (k [(D.val (Go.Value.bool false))]))) := by kernel_rfl
def lim1 (lo hi : Int) (cap : Nat) (x : Int) (K : Value → Blocks → Prop) : Prop := wpFn Try.prog (fun _ _ _ _ _ => False) (fun _ _ _ => False) 6 87 #[.slice (some ⟨900, 0, none⟩) 1 cap, .pointer (some ⟨901, 0, none⟩), .pointer (some ⟨902, 0, none⟩)] (heapOf [(900, .cells [.int .i64 x] 3 false 1), (901, .cells [.int .i64 lo] 3 false 1), (902, .cells [.int .i64 hi] 3 false 1)]) (stateK K)
theorem lim1_text (lo : Int) (hi : Int) (cap : Nat) (x : Int) (K : Go.Value → Blocks → Prop) : lim1 lo hi cap x K =
 (bcase (decide (x < lo))
 (K (Go.Value.int Go.IntKind.i64 (2 : Int)) [(Prod.mk 900 (AObj.cells [(Go.Value.int Go.IntKind.i64 (x))] 3 false 1)), (Prod.mk 901 (AObj.cells [(Go.Value.int Go.IntKind.i64 (lo))] 3 false 1)), (Prod.mk 902 (AObj.cells [(Go.Value.int Go.IntKind.i64 (hi))] 3 false 1))])
 (bcase (decide (x > hi))
 (K (Go.Value.int Go.IntKind.i64 (2 : Int)) [(Prod.mk 900 (AObj.cells [(Go.Value.int Go.IntKind.i64 (x))] 3 false 1)), (Prod.mk 901 (AObj.cells [(Go.Value.int Go.IntKind.i64 (lo))] 3 false 1)), (Prod.mk 902 (AObj.cells [(Go.Value.int Go.IntKind.i64 (hi))] 3 false 1))])
 (K (Go.Value.int Go.IntKind.i64 (0 : Int)) [(Prod.mk 900 (AObj.cells [(Go.Value.int Go.IntKind.i64 (x))] 3 false 1)), (Prod.mk 901 (AObj.cells [(Go.Value.int Go.IntKind.i64 (lo))] 3 false 1)), (Prod.mk 902 (AObj.cells [(Go.Value.int Go.IntKind.i64 (hi))] 3 false 1))]))) := by kernel_rfl
abbrev hE (C : Ct) : Handler := handlerX Try.prog (fun _ => none) 8 6
def s10 (n cap : Nat) (i : Int) : Slots := [(0, S500 n cap), (14, S500 n cap), (15, vI n), (16, vI i)]
def r10 (C : Ct) (L : AtLoop) (n cap : Nat) (l : List Value) (i : Int) (B : Bx) (X : Xx) (k : List D → Prop) : Prop := wpRound Try.prog (hM C) L 10 0 (s10 n cap i) [T500 l] B X (dataK k)
theorem r10_text (C : Ct) (L : AtLoop) (n : Nat) (cap : Nat) (l : List Go.Value) (i : Int) (B : Bx) (X : Xx) (k : List D → Prop) : r10 C L n cap l i B X k =
 (bcase (decide (i < (↑n : Int)))
 (bcase (decide (0 ≤ i))
 (bcase (decide (i < (↑n : Int)))
 (∃ n1 : Int,
 (∃ n2 : Int,
 ((At (l) (0 + Int.toNat i * 2) 2 [(Go.Value.int Go.IntKind.i64 (n1)), (Go.Value.int Go.IntKind.i64 (n2))]) ∧
 (((((Go.Value.slice (Option.some (Go.Addr.mk 1002 0 Option.none)) 1 1) = (Go.Value.slice (Option.some (Go.Addr.mk 1002 0 Option.none)) 1 1)) ∧
 ((Option.some (AObj.cells [(Go.Value.int Go.IntKind.i64 (n2))] 3 false 1)) = (Option.some (AObj.cells [(Go.Value.int Go.IntKind.i64 (n2))] 3 false 1)))) ∧
 (((Go.Value.int Go.IntKind.i64 (n2)) = (Go.Value.int Go.IntKind.i64 (n2))) ∧
 (((Go.Value.pointer (Option.some (Go.Addr.mk 1000 1 Option.none))) = (Go.Value.pointer (Option.some (Go.Addr.mk 1000 1 Option.none)))) ∧
 ((((Go.Value.slice (Option.some (Go.Addr.mk 1001 0 Option.none)) 1 1) = (Go.Value.slice (Option.some (Go.Addr.mk 1001 0 Option.none)) 1 1)) ∧
 ((Option.some (AObj.cells [(Go.Value.int Go.IntKind.i64 (n1))] 3 false 1)) = (Option.some (AObj.cells [(Go.Value.int Go.IntKind.i64 (n1))] 3 false 1)))) ∧
 (((Go.Value.int Go.IntKind.i64 (n1)) = (Go.Value.int Go.IntKind.i64 (n1))) ∧
 (((Go.Value.pointer (Option.some (Go.Addr.mk 1000 0 Option.none))) = (Go.Value.pointer (Option.some (Go.Addr.mk 1000 0 Option.none)))) ∧
 True)))))) ∧
 (∃ n3 : Int,
 ((Says C 55 [(D.sl 1 1 [(Go.Value.int Go.IntKind.i64 (n1))])] [(D.val (Go.Value.int Go.IntKind.i64 (n3)))]) ∧
 (((((Go.Value.slice (Option.some (Go.Addr.mk 1002 0 Option.none)) 1 1) = (Go.Value.slice (Option.some (Go.Addr.mk 1002 0 Option.none)) 1 1)) ∧
 ((Option.some (AObj.cells [(Go.Value.int Go.IntKind.i64 (n2))] 3 false 1)) = (Option.some (AObj.cells [(Go.Value.int Go.IntKind.i64 (n2))] 3 false 1)))) ∧
 (((Go.Value.int Go.IntKind.i64 (n2)) = (Go.Value.int Go.IntKind.i64 (n2))) ∧
 (((Go.Value.pointer (Option.some (Go.Addr.mk 1000 1 Option.none))) = (Go.Value.pointer (Option.some (Go.Addr.mk 1000 1 Option.none)))) ∧
 (((Go.Value.int Go.IntKind.i64 (n1)) = (Go.Value.int Go.IntKind.i64 (n1))) ∧
 (((Go.Value.pointer (Option.some (Go.Addr.mk 1000 0 Option.none))) = (Go.Value.pointer (Option.some (Go.Addr.mk 1000 0 Option.none)))) ∧
 True))))) ∧
 (((((Go.Value.slice (Option.some (Go.Addr.mk 1002 0 Option.none)) 1 1) = (Go.Value.slice (Option.some (Go.Addr.mk 1002 0 Option.none)) 1 1)) ∧
 ((Option.some (AObj.cells [(Go.Value.int Go.IntKind.i64 (n2))] 3 false 1)) = (Option.some (AObj.cells [(Go.Value.int Go.IntKind.i64 (n2))] 3 false 1)))) ∧
 (((Go.Value.int Go.IntKind.i64 (n2)) = (Go.Value.int Go.IntKind.i64 (n2))) ∧
 (((Go.Value.pointer (Option.some (Go.Addr.mk 1000 1 Option.none))) = (Go.Value.pointer (Option.some (Go.Addr.mk 1000 1 Option.none)))) ∧
 (((Go.Value.int Go.IntKind.i64 (n1)) = (Go.Value.int Go.IntKind.i64 (n1))) ∧
 (((Go.Value.pointer (Option.some (Go.Addr.mk 1000 0 Option.none))) = (Go.Value.pointer (Option.some (Go.Addr.mk 1000 0 Option.none)))) ∧
 True))))) ∧
 (∃ e1 : Int,
 ((Says limC 0 [(D.val (Go.Value.int Go.IntKind.i64 (1 : Int))), (D.val (Go.Value.int Go.IntKind.i64 (100000 : Int))), (D.sl 1 1 [(Go.Value.int Go.IntKind.i64 (n2))])] [(D.val (Go.Value.int Go.IntKind.i64 (e1)))]) ∧
 (((((Go.Value.slice (Option.some (Go.Addr.mk 1005 0 Option.none)) 2 2) = (Go.Value.slice (Option.some (Go.Addr.mk 1005 0 Option.none)) 2 2)) ∧
 ((Option.some (AObj.cells [(Go.Value.int Go.IntKind.i64 (n3)), (Go.Value.int Go.IntKind.i64 (e1))] 26 false 1)) = (Option.some (AObj.cells [(Go.Value.int Go.IntKind.i64 (n3)), (Go.Value.int Go.IntKind.i64 (e1))] 26 false 1)))) ∧
 (((Go.Value.int Go.IntKind.i64 (n2)) = (Go.Value.int Go.IntKind.i64 (n2))) ∧
 (((Go.Value.pointer (Option.some (Go.Addr.mk 1000 1 Option.none))) = (Go.Value.pointer (Option.some (Go.Addr.mk 1000 1 Option.none)))) ∧
 (((Go.Value.int Go.IntKind.i64 (n1)) = (Go.Value.int Go.IntKind.i64 (n1))) ∧
 (((Go.Value.pointer (Option.some (Go.Addr.mk 1000 0 Option.none))) = (Go.Value.pointer (Option.some (Go.Addr.mk 1000 0 Option.none)))) ∧
 True))))) ∧
 (∃ n4 : Int,
 ((Says C 54 [(D.sl 2 1 [(Go.Value.int Go.IntKind.i64 (n3)), (Go.Value.int Go.IntKind.i64 (e1))])] [(D.val (Go.Value.int Go.IntKind.i64 (n4)))]) ∧
 ((((Go.Value.int Go.IntKind.i64 (n2)) = (Go.Value.int Go.IntKind.i64 (n2))) ∧
 (((Go.Value.pointer (Option.some (Go.Addr.mk 1000 1 Option.none))) = (Go.Value.pointer (Option.some (Go.Addr.mk 1000 1 Option.none)))) ∧
 (((Go.Value.int Go.IntKind.i64 (n1)) = (Go.Value.int Go.IntKind.i64 (n1))) ∧
 (((Go.Value.pointer (Option.some (Go.Addr.mk 1000 0 Option.none))) = (Go.Value.pointer (Option.some (Go.Addr.mk 1000 0 Option.none)))) ∧
 True)))) ∧
 (True ∧
 (bcase (n4 != 0)
 (k [(D.val (Go.Value.int Go.IntKind.i64 (i))), (D.val (Go.Value.int Go.IntKind.i64 (n4)))])
 (bcase (decide (i > 0))
 (bcase (decide (0 ≤ Go.IntKind.wrap Go.IntKind.i64 (i - 1)))
 (bcase (decide (Go.IntKind.wrap Go.IntKind.i64 (i - 1) < (↑n : Int)))
 (∃ n5 : Int,
 ((At (l) (0 + Int.toNat (Go.IntKind.wrap Go.IntKind.i64 (i - 1)) * 2) 1 [(Go.Value.int Go.IntKind.i64 (n5))]) ∧
 (bcase (decide (n1 ≤ n5))
 ((((Go.Value.bool true) = (Go.Value.bool true)) ∧
 ((bcase (decide (n1 ≤ n5))
 ((Go.Value.bool true) = (Go.Value.bool true))
 ((Go.Value.bool false) = (Go.Value.bool true))) ∧
 ((∃ n6 : Int,
 ((At (l) (0 + Int.toNat (Go.IntKind.wrap Go.IntKind.i64 (i - 1)) * 2) 1 [(Go.Value.int Go.IntKind.i64 (n6))]) ∧
 ((Go.Value.int Go.IntKind.i64 (n6)) = (Go.Value.int Go.IntKind.i64 (n5))))) ∧
 (((Go.Value.pointer (Option.some (Go.Addr.mk 500 (0 + Int.toNat (Go.IntKind.wrap Go.IntKind.i64 (i - 1)) * 2) Option.none))) = (Go.Value.pointer (Option.some (Go.Addr.mk 500 (0 + Int.toNat (Go.IntKind.wrap Go.IntKind.i64 (i - 1)) * 2) Option.none)))) ∧
 ((bcase (decide (0 ≤ Go.IntKind.wrap Go.IntKind.i64 (i - 1)))
 (bcase (decide (Go.IntKind.wrap Go.IntKind.i64 (i - 1) < (↑n : Int)))
 ((Go.Value.pointer (Option.some (Go.Addr.mk 500 (0 + Int.toNat (Go.IntKind.wrap Go.IntKind.i64 (i - 1)) * 2) Option.none))) = (Go.Value.pointer (Option.some (Go.Addr.mk 500 (0 + Int.toNat (Go.IntKind.wrap Go.IntKind.i64 (i - 1)) * 2) Option.none))))
 False)
 False) ∧
 (((Go.Value.int Go.IntKind.i64 (Go.IntKind.wrap Go.IntKind.i64 (i - 1))) = (Go.Value.int Go.IntKind.i64 (Go.IntKind.wrap Go.IntKind.i64 (i - 1)))) ∧
 (((Go.Value.int Go.IntKind.i64 (i)) = (Go.Value.int Go.IntKind.i64 (i))) ∧
 (((Go.Value.slice (Option.some (Go.Addr.mk 500 0 Option.none)) (n) (cap)) = (Go.Value.slice (Option.some (Go.Addr.mk 500 0 Option.none)) (n) (cap))) ∧
 (((Go.Value.int Go.IntKind.i64 (n1)) = (Go.Value.int Go.IntKind.i64 (n1))) ∧
 (((Go.Value.pointer (Option.some (Go.Addr.mk 1000 0 Option.none))) = (Go.Value.pointer (Option.some (Go.Addr.mk 1000 0 Option.none)))) ∧
 (((Go.Value.bool true) = (Go.Value.bool true)) ∧
 ((bcase (decide (i > 0))
 ((Go.Value.bool true) = (Go.Value.bool true))
 ((Go.Value.bool false) = (Go.Value.bool true))) ∧
 (((Go.Value.int Go.IntKind.i64 (i)) = (Go.Value.int Go.IntKind.i64 (i))) ∧
 True))))))))))))) ∧
 (k [(D.val (Go.Value.int Go.IntKind.i64 (i))), (D.val (Go.Value.int Go.IntKind.i64 (9 : Int)))]))
 ((((Go.Value.bool false) = (Go.Value.bool false)) ∧
 ((bcase (decide (n1 ≤ n5))
 ((Go.Value.bool true) = (Go.Value.bool false))
 ((Go.Value.bool false) = (Go.Value.bool false))) ∧
 ((∃ n6 : Int,
 ((At (l) (0 + Int.toNat (Go.IntKind.wrap Go.IntKind.i64 (i - 1)) * 2) 1 [(Go.Value.int Go.IntKind.i64 (n6))]) ∧
 ((Go.Value.int Go.IntKind.i64 (n6)) = (Go.Value.int Go.IntKind.i64 (n5))))) ∧
 (((Go.Value.pointer (Option.some (Go.Addr.mk 500 (0 + Int.toNat (Go.IntKind.wrap Go.IntKind.i64 (i - 1)) * 2) Option.none))) = (Go.Value.pointer (Option.some (Go.Addr.mk 500 (0 + Int.toNat (Go.IntKind.wrap Go.IntKind.i64 (i - 1)) * 2) Option.none)))) ∧
 ((bcase (decide (0 ≤ Go.IntKind.wrap Go.IntKind.i64 (i - 1)))
 (bcase (decide (Go.IntKind.wrap Go.IntKind.i64 (i - 1) < (↑n : Int)))
 ((Go.Value.pointer (Option.some (Go.Addr.mk 500 (0 + Int.toNat (Go.IntKind.wrap Go.IntKind.i64 (i - 1)) * 2) Option.none))) = (Go.Value.pointer (Option.some (Go.Addr.mk 500 (0 + Int.toNat (Go.IntKind.wrap Go.IntKind.i64 (i - 1)) * 2) Option.none))))
 False)
 False) ∧
 (((Go.Value.int Go.IntKind.i64 (Go.IntKind.wrap Go.IntKind.i64 (i - 1))) = (Go.Value.int Go.IntKind.i64 (Go.IntKind.wrap Go.IntKind.i64 (i - 1)))) ∧
 (((Go.Value.int Go.IntKind.i64 (i)) = (Go.Value.int Go.IntKind.i64 (i))) ∧
 (((Go.Value.slice (Option.some (Go.Addr.mk 500 0 Option.none)) (n) (cap)) = (Go.Value.slice (Option.some (Go.Addr.mk 500 0 Option.none)) (n) (cap))) ∧
 (((Go.Value.int Go.IntKind.i64 (n1)) = (Go.Value.int Go.IntKind.i64 (n1))) ∧
 (((Go.Value.pointer (Option.some (Go.Addr.mk 1000 0 Option.none))) = (Go.Value.pointer (Option.some (Go.Addr.mk 1000 0 Option.none)))) ∧
 (((Go.Value.bool true) = (Go.Value.bool true)) ∧
 ((bcase (decide (i > 0))
 ((Go.Value.bool true) = (Go.Value.bool true))
 ((Go.Value.bool false) = (Go.Value.bool true))) ∧
 (((Go.Value.int Go.IntKind.i64 (i)) = (Go.Value.int Go.IntKind.i64 (i))) ∧
 True))))))))))))) ∧
 (B [(Prod.mk 0 (Go.Value.slice (Option.some (Go.Addr.mk 500 0 Option.none)) (n) (cap))), (Prod.mk 14 (Go.Value.slice (Option.some (Go.Addr.mk 500 0 Option.none)) (n) (cap))), (Prod.mk 15 (Go.Value.int Go.IntKind.i64 ((↑n : Int)))), (Prod.mk 16 (Go.Value.int Go.IntKind.i64 (Go.IntKind.wrap Go.IntKind.i64 (i + 1))))] [(Prod.mk 500 (AObj.sym (l) false 2))])))))
 False)
 False)
 ((((Go.Value.bool false) = (Go.Value.bool false)) ∧
 (((Go.Value.tuple [].toArray) = (Go.Value.tuple [].toArray)) ∧
 (((Go.Value.tuple [].toArray) = (Go.Value.tuple [].toArray)) ∧
 (((Go.Value.tuple [].toArray) = (Go.Value.tuple [].toArray)) ∧
 (((Go.Value.tuple [].toArray) = (Go.Value.tuple [].toArray)) ∧
 (((Go.Value.tuple [].toArray) = (Go.Value.tuple [].toArray)) ∧
 (((Go.Value.tuple [].toArray) = (Go.Value.tuple [].toArray)) ∧
 (((Go.Value.tuple [].toArray) = (Go.Value.tuple [].toArray)) ∧
 (((Go.Value.tuple [].toArray) = (Go.Value.tuple [].toArray)) ∧
 (((Go.Value.tuple [].toArray) = (Go.Value.tuple [].toArray)) ∧
 (((Go.Value.bool false) = (Go.Value.bool false)) ∧
 ((bcase (decide (i > 0))
 ((Go.Value.bool true) = (Go.Value.bool false))
 ((Go.Value.bool false) = (Go.Value.bool false))) ∧
 (((Go.Value.int Go.IntKind.i64 (i)) = (Go.Value.int Go.IntKind.i64 (i))) ∧
 True))))))))))))) ∧
 (B [(Prod.mk 0 (Go.Value.slice (Option.some (Go.Addr.mk 500 0 Option.none)) (n) (cap))), (Prod.mk 14 (Go.Value.slice (Option.some (Go.Addr.mk 500 0 Option.none)) (n) (cap))), (Prod.mk 15 (Go.Value.int Go.IntKind.i64 ((↑n : Int)))), (Prod.mk 16 (Go.Value.int Go.IntKind.i64 (Go.IntKind.wrap Go.IntKind.i64 (i + 1))))] [(Prod.mk 500 (AObj.sym (l) false 2))])))))))))))))))))))
 False)
 False)
 (X 0 [] [])) := by kernel_rfl
def n10 (C : Ct) (L : AtLoop) (k : List D → Prop) : Prop := wpNext Try.prog (hM C) L 10 0 .normal [] [] (dataK k)
theorem n10_text (C : Ct) (L : AtLoop) (k : List D → Prop) : n10 C L k =
 (k [(D.val (Go.Value.int Go.IntKind.i64 (0 : Int))), (D.val (Go.Value.int Go.IntKind.i64 (0 : Int)))]) := by kernel_rfl
def s14 (n cap : Nat) (i : Int) : Slots := [(0, S500 n cap), (4, vI i)]
def r14 (C : Ct) (L : AtLoop) (n cap : Nat) (l : List Value) (i : Int) (B : Bx) (X : Xx) (k : List D → Prop) : Prop := wpRound Try.prog (hM C) L 14 0 (s14 n cap i) [T500 l] B X (dataK k)
theorem r14_text (C : Ct) (L : AtLoop) (n : Nat) (cap : Nat) (l : List Go.Value) (i : Int) (B : Bx) (X : Xx) (k : List D → Prop) : r14 C L n cap l i B X k =
 (bcase (decide (i < (↑n : Int)))
 (bcase (decide (0 ≤ i))
 (bcase (decide (i < (↑n : Int)))
 (∃ n1 : Int,
 ((At (l) (0 + Int.toNat i * 2) 1 [(Go.Value.int Go.IntKind.i64 (n1))]) ∧
 (bcase (decide (0 ≤ n1))
 (bcase (decide (n1 ≤ 20000))
 (bcase (decide (0 ≤ i))
 (bcase (decide (i < (↑n : Int)))
 (∃ n2 : Int,
 ((At (l) (Go.Addr.off { block := 500, off := 0 + Int.toNat i * 2 } + 1) 1 [(Go.Value.int Go.IntKind.i64 (n2))]) ∧
 (bcase (decide (1 ≤ n2))
 (bcase (decide (n2 ≤ 100000))
 (bcase (decide (i > 0))
 (bcase (decide (0 ≤ i))
 (bcase (decide (i < (↑n : Int)))
 (∃ n3 : Int,
 ((At (l) (0 + Int.toNat i * 2) 1 [(Go.Value.int Go.IntKind.i64 (n3))]) ∧
 (bcase (decide (0 ≤ Go.IntKind.wrap Go.IntKind.i64 (i - 1)))
 (bcase (decide (Go.IntKind.wrap Go.IntKind.i64 (i - 1) < (↑n : Int)))
 (∃ n4 : Int,
 ((At (l) (0 + Int.toNat (Go.IntKind.wrap Go.IntKind.i64 (i - 1)) * 2) 1 [(Go.Value.int Go.IntKind.i64 (n4))]) ∧
 (bcase (decide (n3 ≤ n4))
 ((((Go.Value.bool true) = (Go.Value.bool true)) ∧
 ((bcase (decide (n3 ≤ n4))
 ((Go.Value.bool true) = (Go.Value.bool true))
 ((Go.Value.bool false) = (Go.Value.bool true))) ∧
 ((∃ n5 : Int,
 ((At (l) (0 + Int.toNat (Go.IntKind.wrap Go.IntKind.i64 (i - 1)) * 2) 1 [(Go.Value.int Go.IntKind.i64 (n5))]) ∧
 ((Go.Value.int Go.IntKind.i64 (n5)) = (Go.Value.int Go.IntKind.i64 (n4))))) ∧
 (((Go.Value.pointer (Option.some (Go.Addr.mk 500 (0 + Int.toNat (Go.IntKind.wrap Go.IntKind.i64 (i - 1)) * 2) Option.none))) = (Go.Value.pointer (Option.some (Go.Addr.mk 500 (0 + Int.toNat (Go.IntKind.wrap Go.IntKind.i64 (i - 1)) * 2) Option.none)))) ∧
 ((bcase (decide (0 ≤ Go.IntKind.wrap Go.IntKind.i64 (i - 1)))
 (bcase (decide (Go.IntKind.wrap Go.IntKind.i64 (i - 1) < (↑n : Int)))
 ((Go.Value.pointer (Option.some (Go.Addr.mk 500 (0 + Int.toNat (Go.IntKind.wrap Go.IntKind.i64 (i - 1)) * 2) Option.none))) = (Go.Value.pointer (Option.some (Go.Addr.mk 500 (0 + Int.toNat (Go.IntKind.wrap Go.IntKind.i64 (i - 1)) * 2) Option.none))))
 False)
 False) ∧
 (((Go.Value.int Go.IntKind.i64 (Go.IntKind.wrap Go.IntKind.i64 (i - 1))) = (Go.Value.int Go.IntKind.i64 (Go.IntKind.wrap Go.IntKind.i64 (i - 1)))) ∧
 (((Go.Value.int Go.IntKind.i64 (i)) = (Go.Value.int Go.IntKind.i64 (i))) ∧
 (((Go.Value.slice (Option.some (Go.Addr.mk 500 0 Option.none)) (n) (cap)) = (Go.Value.slice (Option.some (Go.Addr.mk 500 0 Option.none)) (n) (cap))) ∧
 ((∃ n5 : Int,
 ((At (l) (0 + Int.toNat i * 2) 1 [(Go.Value.int Go.IntKind.i64 (n5))]) ∧
 ((Go.Value.int Go.IntKind.i64 (n5)) = (Go.Value.int Go.IntKind.i64 (n3))))) ∧
 (((Go.Value.pointer (Option.some (Go.Addr.mk 500 (0 + Int.toNat i * 2) Option.none))) = (Go.Value.pointer (Option.some (Go.Addr.mk 500 (0 + Int.toNat i * 2) Option.none)))) ∧
 ((bcase (decide (0 ≤ i))
 (bcase (decide (i < (↑n : Int)))
 ((Go.Value.pointer (Option.some (Go.Addr.mk 500 (0 + Int.toNat i * 2) Option.none))) = (Go.Value.pointer (Option.some (Go.Addr.mk 500 (0 + Int.toNat i * 2) Option.none))))
 False)
 False) ∧
 (((Go.Value.int Go.IntKind.i64 (i)) = (Go.Value.int Go.IntKind.i64 (i))) ∧
 (((Go.Value.slice (Option.some (Go.Addr.mk 500 0 Option.none)) (n) (cap)) = (Go.Value.slice (Option.some (Go.Addr.mk 500 0 Option.none)) (n) (cap))) ∧
 (((Go.Value.bool true) = (Go.Value.bool true)) ∧
 ((bcase (decide (i > 0))
 ((Go.Value.bool true) = (Go.Value.bool true))
 ((Go.Value.bool false) = (Go.Value.bool true))) ∧
 (((Go.Value.int Go.IntKind.i64 (i)) = (Go.Value.int Go.IntKind.i64 (i))) ∧
 True)))))))))))))))) ∧
 (k [(D.val (Go.Value.int Go.IntKind.i64 (i))), (D.val (Go.Value.int Go.IntKind.i64 (9 : Int)))]))
 ((((Go.Value.bool false) = (Go.Value.bool false)) ∧
 ((bcase (decide (n3 ≤ n4))
 ((Go.Value.bool true) = (Go.Value.bool false))
 ((Go.Value.bool false) = (Go.Value.bool false))) ∧
 ((∃ n5 : Int,
 ((At (l) (0 + Int.toNat (Go.IntKind.wrap Go.IntKind.i64 (i - 1)) * 2) 1 [(Go.Value.int Go.IntKind.i64 (n5))]) ∧
 ((Go.Value.int Go.IntKind.i64 (n5)) = (Go.Value.int Go.IntKind.i64 (n4))))) ∧
 (((Go.Value.pointer (Option.some (Go.Addr.mk 500 (0 + Int.toNat (Go.IntKind.wrap Go.IntKind.i64 (i - 1)) * 2) Option.none))) = (Go.Value.pointer (Option.some (Go.Addr.mk 500 (0 + Int.toNat (Go.IntKind.wrap Go.IntKind.i64 (i - 1)) * 2) Option.none)))) ∧
 ((bcase (decide (0 ≤ Go.IntKind.wrap Go.IntKind.i64 (i - 1)))
 (bcase (decide (Go.IntKind.wrap Go.IntKind.i64 (i - 1) < (↑n : Int)))
 ((Go.Value.pointer (Option.some (Go.Addr.mk 500 (0 + Int.toNat (Go.IntKind.wrap Go.IntKind.i64 (i - 1)) * 2) Option.none))) = (Go.Value.pointer (Option.some (Go.Addr.mk 500 (0 + Int.toNat (Go.IntKind.wrap Go.IntKind.i64 (i - 1)) * 2) Option.none))))
 False)
 False) ∧
 (((Go.Value.int Go.IntKind.i64 (Go.IntKind.wrap Go.IntKind.i64 (i - 1))) = (Go.Value.int Go.IntKind.i64 (Go.IntKind.wrap Go.IntKind.i64 (i - 1)))) ∧
 (((Go.Value.int Go.IntKind.i64 (i)) = (Go.Value.int Go.IntKind.i64 (i))) ∧
 (((Go.Value.slice (Option.some (Go.Addr.mk 500 0 Option.none)) (n) (cap)) = (Go.Value.slice (Option.some (Go.Addr.mk 500 0 Option.none)) (n) (cap))) ∧
 ((∃ n5 : Int,
 ((At (l) (0 + Int.toNat i * 2) 1 [(Go.Value.int Go.IntKind.i64 (n5))]) ∧
 ((Go.Value.int Go.IntKind.i64 (n5)) = (Go.Value.int Go.IntKind.i64 (n3))))) ∧
 (((Go.Value.pointer (Option.some (Go.Addr.mk 500 (0 + Int.toNat i * 2) Option.none))) = (Go.Value.pointer (Option.some (Go.Addr.mk 500 (0 + Int.toNat i * 2) Option.none)))) ∧
 ((bcase (decide (0 ≤ i))
 (bcase (decide (i < (↑n : Int)))
 ((Go.Value.pointer (Option.some (Go.Addr.mk 500 (0 + Int.toNat i * 2) Option.none))) = (Go.Value.pointer (Option.some (Go.Addr.mk 500 (0 + Int.toNat i * 2) Option.none))))
 False)
 False) ∧
 (((Go.Value.int Go.IntKind.i64 (i)) = (Go.Value.int Go.IntKind.i64 (i))) ∧
 (((Go.Value.slice (Option.some (Go.Addr.mk 500 0 Option.none)) (n) (cap)) = (Go.Value.slice (Option.some (Go.Addr.mk 500 0 Option.none)) (n) (cap))) ∧
 (((Go.Value.bool true) = (Go.Value.bool true)) ∧
 ((bcase (decide (i > 0))
 ((Go.Value.bool true) = (Go.Value.bool true))
 ((Go.Value.bool false) = (Go.Value.bool true))) ∧
 (((Go.Value.int Go.IntKind.i64 (i)) = (Go.Value.int Go.IntKind.i64 (i))) ∧
 True)))))))))))))))) ∧
 (B [(Prod.mk 0 (Go.Value.slice (Option.some (Go.Addr.mk 500 0 Option.none)) (n) (cap))), (Prod.mk 4 (Go.Value.int Go.IntKind.i64 (Go.IntKind.wrap Go.IntKind.i64 (i + 1))))] [(Prod.mk 500 (AObj.sym (l) false 2))])))))
 False)
 False)))
 False)
 False)
 ((((Go.Value.bool false) = (Go.Value.bool false)) ∧
 (((Go.Value.tuple [].toArray) = (Go.Value.tuple [].toArray)) ∧
 (((Go.Value.tuple [].toArray) = (Go.Value.tuple [].toArray)) ∧
 (((Go.Value.tuple [].toArray) = (Go.Value.tuple [].toArray)) ∧
 (((Go.Value.tuple [].toArray) = (Go.Value.tuple [].toArray)) ∧
 (((Go.Value.tuple [].toArray) = (Go.Value.tuple [].toArray)) ∧
 (((Go.Value.tuple [].toArray) = (Go.Value.tuple [].toArray)) ∧
 (((Go.Value.tuple [].toArray) = (Go.Value.tuple [].toArray)) ∧
 (((Go.Value.tuple [].toArray) = (Go.Value.tuple [].toArray)) ∧
 (((Go.Value.tuple [].toArray) = (Go.Value.tuple [].toArray)) ∧
 (((Go.Value.tuple [].toArray) = (Go.Value.tuple [].toArray)) ∧
 (((Go.Value.tuple [].toArray) = (Go.Value.tuple [].toArray)) ∧
 (((Go.Value.tuple [].toArray) = (Go.Value.tuple [].toArray)) ∧
 (((Go.Value.bool false) = (Go.Value.bool false)) ∧
 ((bcase (decide (i > 0))
 ((Go.Value.bool true) = (Go.Value.bool false))
 ((Go.Value.bool false) = (Go.Value.bool false))) ∧
 (((Go.Value.int Go.IntKind.i64 (i)) = (Go.Value.int Go.IntKind.i64 (i))) ∧
 True)))))))))))))))) ∧
 (B [(Prod.mk 0 (Go.Value.slice (Option.some (Go.Addr.mk 500 0 Option.none)) (n) (cap))), (Prod.mk 4 (Go.Value.int Go.IntKind.i64 (Go.IntKind.wrap Go.IntKind.i64 (i + 1))))] [(Prod.mk 500 (AObj.sym (l) false 2))])))
 (k [(D.val (Go.Value.int Go.IntKind.i64 (i))), (D.val (Go.Value.int Go.IntKind.i64 (2 : Int)))]))
 (k [(D.val (Go.Value.int Go.IntKind.i64 (i))), (D.val (Go.Value.int Go.IntKind.i64 (2 : Int)))]))))
 False)
 False)
 (k [(D.val (Go.Value.int Go.IntKind.i64 (i))), (D.val (Go.Value.int Go.IntKind.i64 (2 : Int)))]))
 (k [(D.val (Go.Value.int Go.IntKind.i64 (i))), (D.val (Go.Value.int Go.IntKind.i64 (2 : Int)))]))))
 False)
 False)
 (X 0 [] [])) := by kernel_rfl
def n14 (C : Ct) (L : AtLoop) (k : List D → Prop) : Prop := wpNext Try.prog (hM C) L 14 0 .normal [] [] (dataK k)
theorem n14_text (C : Ct) (L : AtLoop) (k : List D → Prop) : n14 C L k =
 (k [(D.val (Go.Value.int Go.IntKind.i64 (0 : Int))), (D.val (Go.Value.int Go.IntKind.i64 (0 : Int)))]) := by kernel_rfl
def s57 (n cap : Nat) (x i : Int) : Slots := [(0, S500 n cap), (1, vI x), (5, vI i)]
def r57 (C : Ct) (L : AtLoop) (n cap : Nat) (l : List Value) (x i : Int) (B : Bx) (X : Xx) (k : List D → Prop) : Prop := wpRound Try.prog (hM C) L 57 0 (s57 n cap x i) [T500 l] B X (dataK k)
theorem r57_text (C : Ct) (L : AtLoop) (n : Nat) (cap : Nat) (l : List Go.Value) (x : Int) (i : Int) (B : Bx) (X : Xx) (k : List D → Prop) : r57 C L n cap l x i B X k =
 (bcase (decide (i < (↑n : Int)))
 (bcase (decide (0 ≤ i))
 (bcase (decide (i < (↑n : Int)))
 (∃ n1 : Int,
 ((At (l) (0 + Int.toNat i * 2) 1 [(Go.Value.int Go.IntKind.i64 (n1))]) ∧
 (bcase (decide (n1 < x))
 (B [(Prod.mk 0 (Go.Value.slice (Option.some (Go.Addr.mk 500 0 Option.none)) (n) (cap))), (Prod.mk 1 (Go.Value.int Go.IntKind.i64 (x))), (Prod.mk 5 (Go.Value.int Go.IntKind.i64 (Go.IntKind.wrap Go.IntKind.i64 (i + 1))))] [(Prod.mk 500 (AObj.sym (l) false 2))])
 (X 0 [(Prod.mk 0 (Go.Value.slice (Option.some (Go.Addr.mk 500 0 Option.none)) (n) (cap))), (Prod.mk 1 (Go.Value.int Go.IntKind.i64 (x))), (Prod.mk 5 (Go.Value.int Go.IntKind.i64 (i)))] [(Prod.mk 500 (AObj.sym (l) false 2))]))))
 False)
 False)
 (X 0 [(Prod.mk 0 (Go.Value.slice (Option.some (Go.Addr.mk 500 0 Option.none)) (n) (cap))), (Prod.mk 1 (Go.Value.int Go.IntKind.i64 (x))), (Prod.mk 5 (Go.Value.int Go.IntKind.i64 (i)))] [(Prod.mk 500 (AObj.sym (l) false 2))])) := by kernel_rfl
def n57 (C : Ct) (L : AtLoop) (n cap : Nat) (l : List Value) (x i : Int) (k : List D → Prop) : Prop := wpNext Try.prog (hM C) L 57 0 .normal (s57 n cap x i) [T500 l] (dataK k)
theorem n57_text (C : Ct) (L : AtLoop) (n : Nat) (cap : Nat) (l : List Go.Value) (x : Int) (i : Int) (k : List D → Prop) : n57 C L n cap l x i k =
 (bcase (i == 0)
 (bcase (decide (0 < (↑n : Int)))
 (∃ n1 : Int,
 ((At (l) 1 1 [(Go.Value.int Go.IntKind.i64 (n1))]) ∧
 (k [(D.val (Go.Value.int Go.IntKind.i64 (n1)))])))
 False)
 (bcase (i == (↑n : Int))
 (bcase (decide (0 ≤ Go.IntKind.wrap Go.IntKind.i64 (i - 1)))
 (bcase (decide (Go.IntKind.wrap Go.IntKind.i64 (i - 1) < (↑n : Int)))
 (∃ n1 : Int,
 ((At (l) (Go.Addr.off { block := 500, off := 0 + Int.toNat (Go.IntKind.wrap Go.IntKind.i64 (i - 1)) * 2 } + 1) 1 [(Go.Value.int Go.IntKind.i64 (n1))]) ∧
 (k [(D.val (Go.Value.int Go.IntKind.i64 (n1)))])))
 False)
 False)
 (bcase (decide (0 ≤ Go.IntKind.wrap Go.IntKind.i64 (i - 1)))
 (bcase (decide (Go.IntKind.wrap Go.IntKind.i64 (i - 1) < (↑n : Int)))
 (∃ n1 : Int,
 (∃ n2 : Int,
 ((At (l) (0 + Int.toNat (Go.IntKind.wrap Go.IntKind.i64 (i - 1)) * 2) 2 [(Go.Value.int Go.IntKind.i64 (n1)), (Go.Value.int Go.IntKind.i64 (n2))]) ∧
 (bcase (decide (0 ≤ i))
 (bcase (decide (i < (↑n : Int)))
 (∃ n3 : Int,
 (∃ n4 : Int,
 ((At (l) (0 + Int.toNat i * 2) 2 [(Go.Value.int Go.IntKind.i64 (n3)), (Go.Value.int Go.IntKind.i64 (n4))]) ∧
 (((((Go.Value.pointer (Option.some (Go.Addr.mk 1001 0 Option.none))) = (Go.Value.pointer (Option.some (Go.Addr.mk 1001 0 Option.none)))) ∧
 ((Option.some (AObj.cells [(Go.Value.int Go.IntKind.i64 (0 : Int)), (Go.Value.int Go.IntKind.i64 (0 : Int))] 105 false 2)) = (Option.some (AObj.cells [(Go.Value.int Go.IntKind.i64 (0 : Int)), (Go.Value.int Go.IntKind.i64 (0 : Int))] 105 false 2)))) ∧
 ((((Go.Value.pointer (Option.some (Go.Addr.mk 1000 0 Option.none))) = (Go.Value.pointer (Option.some (Go.Addr.mk 1000 0 Option.none)))) ∧
 ((Option.some (AObj.cells [(Go.Value.int Go.IntKind.i64 (0 : Int)), (Go.Value.int Go.IntKind.i64 (0 : Int))] 105 false 2)) = (Option.some (AObj.cells [(Go.Value.int Go.IntKind.i64 (0 : Int)), (Go.Value.int Go.IntKind.i64 (0 : Int))] 105 false 2)))) ∧
 ((∃ n5 : Int,
 (∃ n6 : Int,
 ((At (l) (0 + Int.toNat i * 2) 2 [(Go.Value.int Go.IntKind.i64 (n5)), (Go.Value.int Go.IntKind.i64 (n6))]) ∧
 ((Go.Value.agg [(Go.Value.int Go.IntKind.i64 (n5)), (Go.Value.int Go.IntKind.i64 (n6))].toArray) = (Go.Value.agg [(Go.Value.int Go.IntKind.i64 (n3)), (Go.Value.int Go.IntKind.i64 (n4))].toArray))))) ∧
 ((bcase (decide (0 ≤ i))
 (bcase (decide (i < (↑n : Int)))
 ((Go.Value.pointer (Option.some (Go.Addr.mk 500 (0 + Int.toNat i * 2) Option.none))) = (Go.Value.pointer (Option.some (Go.Addr.mk 500 (0 + Int.toNat i * 2) Option.none))))
 False)
 False) ∧
 (((Go.Value.int Go.IntKind.i64 (i)) = (Go.Value.int Go.IntKind.i64 (i))) ∧
 (((Go.Value.slice (Option.some (Go.Addr.mk 500 0 Option.none)) (n) (cap)) = (Go.Value.slice (Option.some (Go.Addr.mk 500 0 Option.none)) (n) (cap))) ∧
 ((∃ n5 : Int,
 (∃ n6 : Int,
 ((At (l) (0 + Int.toNat (Go.IntKind.wrap Go.IntKind.i64 (i - 1)) * 2) 2 [(Go.Value.int Go.IntKind.i64 (n5)), (Go.Value.int Go.IntKind.i64 (n6))]) ∧
 ((Go.Value.agg [(Go.Value.int Go.IntKind.i64 (n5)), (Go.Value.int Go.IntKind.i64 (n6))].toArray) = (Go.Value.agg [(Go.Value.int Go.IntKind.i64 (n1)), (Go.Value.int Go.IntKind.i64 (n2))].toArray))))) ∧
 ((bcase (decide (0 ≤ Go.IntKind.wrap Go.IntKind.i64 (i - 1)))
 (bcase (decide (Go.IntKind.wrap Go.IntKind.i64 (i - 1) < (↑n : Int)))
 ((Go.Value.pointer (Option.some (Go.Addr.mk 500 (0 + Int.toNat (Go.IntKind.wrap Go.IntKind.i64 (i - 1)) * 2) Option.none))) = (Go.Value.pointer (Option.some (Go.Addr.mk 500 (0 + Int.toNat (Go.IntKind.wrap Go.IntKind.i64 (i - 1)) * 2) Option.none))))
 False)
 False) ∧
 (((Go.Value.int Go.IntKind.i64 (Go.IntKind.wrap Go.IntKind.i64 (i - 1))) = (Go.Value.int Go.IntKind.i64 (Go.IntKind.wrap Go.IntKind.i64 (i - 1)))) ∧
 (((Go.Value.int Go.IntKind.i64 (i)) = (Go.Value.int Go.IntKind.i64 (i))) ∧
 (((Go.Value.slice (Option.some (Go.Addr.mk 500 0 Option.none)) (n) (cap)) = (Go.Value.slice (Option.some (Go.Addr.mk 500 0 Option.none)) (n) (cap))) ∧
 True))))))))))) ∧
 (((∃ n5 : Int,
 (∃ n6 : Int,
 ((At (l) (0 + Int.toNat i * 2) 2 [(Go.Value.int Go.IntKind.i64 (n5)), (Go.Value.int Go.IntKind.i64 (n6))]) ∧
 ((Go.Value.agg [(Go.Value.int Go.IntKind.i64 (n5)), (Go.Value.int Go.IntKind.i64 (n6))].toArray) = (Go.Value.agg [(Go.Value.int Go.IntKind.i64 (n3)), (Go.Value.int Go.IntKind.i64 (n4))].toArray))))) ∧
 ((bcase (decide (0 ≤ i))
 (bcase (decide (i < (↑n : Int)))
 ((Go.Value.pointer (Option.some (Go.Addr.mk 500 (0 + Int.toNat i * 2) Option.none))) = (Go.Value.pointer (Option.some (Go.Addr.mk 500 (0 + Int.toNat i * 2) Option.none))))
 False)
 False) ∧
 (((Go.Value.int Go.IntKind.i64 (i)) = (Go.Value.int Go.IntKind.i64 (i))) ∧
 (((Go.Value.slice (Option.some (Go.Addr.mk 500 0 Option.none)) (n) (cap)) = (Go.Value.slice (Option.some (Go.Addr.mk 500 0 Option.none)) (n) (cap))) ∧
 True)))) ∧
 (True ∧
 (bcase (Go.IntKind.wrap Go.IntKind.i64 (n3 - n1) != 0)
 (k [(D.val (Go.Value.int Go.IntKind.i64 (Go.IntKind.wrap Go.IntKind.i64 (Int.tdiv (Go.IntKind.wrap Go.IntKind.i64 (Go.IntKind.wrap Go.IntKind.i64 (n2 * Go.IntKind.wrap Go.IntKind.i64 (n3 - x)) + Go.IntKind.wrap Go.IntKind.i64 (n4 * Go.IntKind.wrap Go.IntKind.i64 (x - n1)))) (Go.IntKind.wrap Go.IntKind.i64 (n3 - n1))))))])
 False)))))))
 False)
 False))))
 False)
 False))) := by kernel_rfl
def r16 (C : Ct) (L : AtLoop) (n cap : Nat) (l : List Value) (x i : Int) (B : Bx) (X : Xx) (k : List D → Prop) : Prop := wpRound Try.prog (hM C) L 16 0 (s57 n cap x i) [T500 l] B X (dataK k)
theorem r16_text (C : Ct) (L : AtLoop) (n : Nat) (cap : Nat) (l : List Go.Value) (x : Int) (i : Int) (B : Bx) (X : Xx) (k : List D → Prop) : r16 C L n cap l x i B X k =
 (bcase (decide (i < (↑n : Int)))
 (bcase (decide (0 ≤ Go.IntKind.wrap Go.IntKind.i64 (i - 1)))
 (bcase (decide (Go.IntKind.wrap Go.IntKind.i64 (i - 1) < (↑n : Int)))
 (∃ n1 : Int,
 (∃ n2 : Int,
 ((At (l) (0 + Int.toNat (Go.IntKind.wrap Go.IntKind.i64 (i - 1)) * 2) 2 [(Go.Value.int Go.IntKind.i64 (n1)), (Go.Value.int Go.IntKind.i64 (n2))]) ∧
 (bcase (decide (0 ≤ i))
 (bcase (decide (i < (↑n : Int)))
 (∃ n3 : Int,
 (∃ n4 : Int,
 ((At (l) (0 + Int.toNat i * 2) 2 [(Go.Value.int Go.IntKind.i64 (n3)), (Go.Value.int Go.IntKind.i64 (n4))]) ∧
 (((((Go.Value.pointer (Option.some (Go.Addr.mk 1001 0 Option.none))) = (Go.Value.pointer (Option.some (Go.Addr.mk 1001 0 Option.none)))) ∧
 ((Option.some (AObj.cells [(Go.Value.int Go.IntKind.i64 (0 : Int)), (Go.Value.int Go.IntKind.i64 (0 : Int))] 105 false 2)) = (Option.some (AObj.cells [(Go.Value.int Go.IntKind.i64 (0 : Int)), (Go.Value.int Go.IntKind.i64 (0 : Int))] 105 false 2)))) ∧
 ((((Go.Value.pointer (Option.some (Go.Addr.mk 1000 0 Option.none))) = (Go.Value.pointer (Option.some (Go.Addr.mk 1000 0 Option.none)))) ∧
 ((Option.some (AObj.cells [(Go.Value.int Go.IntKind.i64 (0 : Int)), (Go.Value.int Go.IntKind.i64 (0 : Int))] 105 false 2)) = (Option.some (AObj.cells [(Go.Value.int Go.IntKind.i64 (0 : Int)), (Go.Value.int Go.IntKind.i64 (0 : Int))] 105 false 2)))) ∧
 ((∃ n5 : Int,
 (∃ n6 : Int,
 ((At (l) (0 + Int.toNat i * 2) 2 [(Go.Value.int Go.IntKind.i64 (n5)), (Go.Value.int Go.IntKind.i64 (n6))]) ∧
 ((Go.Value.agg [(Go.Value.int Go.IntKind.i64 (n5)), (Go.Value.int Go.IntKind.i64 (n6))].toArray) = (Go.Value.agg [(Go.Value.int Go.IntKind.i64 (n3)), (Go.Value.int Go.IntKind.i64 (n4))].toArray))))) ∧
 ((bcase (decide (0 ≤ i))
 (bcase (decide (i < (↑n : Int)))
 ((Go.Value.pointer (Option.some (Go.Addr.mk 500 (0 + Int.toNat i * 2) Option.none))) = (Go.Value.pointer (Option.some (Go.Addr.mk 500 (0 + Int.toNat i * 2) Option.none))))
 False)
 False) ∧
 (((Go.Value.int Go.IntKind.i64 (i)) = (Go.Value.int Go.IntKind.i64 (i))) ∧
 (((Go.Value.slice (Option.some (Go.Addr.mk 500 0 Option.none)) (n) (cap)) = (Go.Value.slice (Option.some (Go.Addr.mk 500 0 Option.none)) (n) (cap))) ∧
 ((∃ n5 : Int,
 (∃ n6 : Int,
 ((At (l) (0 + Int.toNat (Go.IntKind.wrap Go.IntKind.i64 (i - 1)) * 2) 2 [(Go.Value.int Go.IntKind.i64 (n5)), (Go.Value.int Go.IntKind.i64 (n6))]) ∧
 ((Go.Value.agg [(Go.Value.int Go.IntKind.i64 (n5)), (Go.Value.int Go.IntKind.i64 (n6))].toArray) = (Go.Value.agg [(Go.Value.int Go.IntKind.i64 (n1)), (Go.Value.int Go.IntKind.i64 (n2))].toArray))))) ∧
 ((bcase (decide (0 ≤ Go.IntKind.wrap Go.IntKind.i64 (i - 1)))
 (bcase (decide (Go.IntKind.wrap Go.IntKind.i64 (i - 1) < (↑n : Int)))
 ((Go.Value.pointer (Option.some (Go.Addr.mk 500 (0 + Int.toNat (Go.IntKind.wrap Go.IntKind.i64 (i - 1)) * 2) Option.none))) = (Go.Value.pointer (Option.some (Go.Addr.mk 500 (0 + Int.toNat (Go.IntKind.wrap Go.IntKind.i64 (i - 1)) * 2) Option.none))))
 False)
 False) ∧
 (((Go.Value.int Go.IntKind.i64 (Go.IntKind.wrap Go.IntKind.i64 (i - 1))) = (Go.Value.int Go.IntKind.i64 (Go.IntKind.wrap Go.IntKind.i64 (i - 1)))) ∧
 (((Go.Value.int Go.IntKind.i64 (i)) = (Go.Value.int Go.IntKind.i64 (i))) ∧
 (((Go.Value.slice (Option.some (Go.Addr.mk 500 0 Option.none)) (n) (cap)) = (Go.Value.slice (Option.some (Go.Addr.mk 500 0 Option.none)) (n) (cap))) ∧
 True))))))))))) ∧
 (((∃ n5 : Int,
 (∃ n6 : Int,
 ((At (l) (0 + Int.toNat i * 2) 2 [(Go.Value.int Go.IntKind.i64 (n5)), (Go.Value.int Go.IntKind.i64 (n6))]) ∧
 ((Go.Value.agg [(Go.Value.int Go.IntKind.i64 (n5)), (Go.Value.int Go.IntKind.i64 (n6))].toArray) = (Go.Value.agg [(Go.Value.int Go.IntKind.i64 (n3)), (Go.Value.int Go.IntKind.i64 (n4))].toArray))))) ∧
 ((bcase (decide (0 ≤ i))
 (bcase (decide (i < (↑n : Int)))
 ((Go.Value.pointer (Option.some (Go.Addr.mk 500 (0 + Int.toNat i * 2) Option.none))) = (Go.Value.pointer (Option.some (Go.Addr.mk 500 (0 + Int.toNat i * 2) Option.none))))
 False)
 False) ∧
 (((Go.Value.int Go.IntKind.i64 (i)) = (Go.Value.int Go.IntKind.i64 (i))) ∧
 (((Go.Value.slice (Option.some (Go.Addr.mk 500 0 Option.none)) (n) (cap)) = (Go.Value.slice (Option.some (Go.Addr.mk 500 0 Option.none)) (n) (cap))) ∧
 True)))) ∧
 (True ∧
 (bcase (decide (x ≤ n3))
 (∃ n5 : Int,
 ((Says C 61 [(D.val (Go.Value.int Go.IntKind.i64 (Go.IntKind.wrap Go.IntKind.i64 (Go.IntKind.wrap Go.IntKind.i64 (n2 * Go.IntKind.wrap Go.IntKind.i64 (n3 - n1)) + Go.IntKind.wrap Go.IntKind.i64 (Go.IntKind.wrap Go.IntKind.i64 (n4 - n2) * Go.IntKind.wrap Go.IntKind.i64 (x - n1)))))), (D.val (Go.Value.int Go.IntKind.i64 (Go.IntKind.wrap Go.IntKind.i64 (n3 - n1))))] [(D.val (Go.Value.int Go.IntKind.i64 (n5)))]) ∧
 (k [(D.val (Go.Value.int Go.IntKind.i64 (n5)))])))
 (B [(Prod.mk 0 (Go.Value.slice (Option.some (Go.Addr.mk 500 0 Option.none)) (n) (cap))), (Prod.mk 1 (Go.Value.int Go.IntKind.i64 (x))), (Prod.mk 5 (Go.Value.int Go.IntKind.i64 (Go.IntKind.wrap Go.IntKind.i64 (i + 1))))] [(Prod.mk 500 (AObj.sym (l) false 2))]))))))))
 False)
 False))))
 False)
 False)
 (X 0 [(Prod.mk 0 (Go.Value.slice (Option.some (Go.Addr.mk 500 0 Option.none)) (n) (cap)))] [(Prod.mk 500 (AObj.sym (l) false 2))])) := by kernel_rfl
def n16 (C : Ct) (L : AtLoop) (n cap : Nat) (l : List Value) (k : List D → Prop) : Prop := wpNext Try.prog (hM C) L 16 0 .normal [(0, S500 n cap)] [T500 l] (dataK k)
theorem n16_text (C : Ct) (L : AtLoop) (n : Nat) (cap : Nat) (l : List Go.Value) (k : List D → Prop) : n16 C L n cap l k =
 (bcase (decide (0 ≤ Go.IntKind.wrap Go.IntKind.i64 ((↑n : Int) - 1)))
 (bcase (decide (Go.IntKind.wrap Go.IntKind.i64 ((↑n : Int) - 1) < (↑n : Int)))
 (∃ n1 : Int,
 ((At (l) (Go.Addr.off { block := 500, off := 0 + Int.toNat (Go.IntKind.wrap Go.IntKind.i64 ((↑n : Int) - 1)) * 2 } + 1) 1 [(Go.Value.int Go.IntKind.i64 (n1))]) ∧
 (k [(D.val (Go.Value.int Go.IntKind.i64 (n1)))])))
 False)
 False) := by kernel_rfl
abbrev P1 (b o : Nat) : Value := .pointer (some ⟨b, o, none⟩)
def s13 (n cap m mc : Nat) (i : Int) : Slots := [(3, P1 1000 0), (4, P1 1001 0), (9, .slice (some ⟨1002, 0, none⟩) m mc), (42, S500 n cap), (43, vI n), (44, vI i)]
def b13 (x y : Int) (l : List Value) (vs : AObj) : Blocks := [(1000, .cells [vI x, vI y] 24 false 1), (1001, .cells [vI 0, vI 0] 24 false 2), (1002, vs), T500 l]
def r13 (C : Ct) (L : AtLoop) (n cap : Nat) (l : List Value) (x y : Int) (a b : Int) (i : Int) (B : Bx) (X : Xx) (k : List D → Prop) : Prop := wpRound Try.prog (hM C) L 13 0 (s13 n cap 2 2 i) (b13 x y l (.cells [vI a, vI b] 3 false 1)) B X (dataK k)
theorem r13_text (C : Ct) (L : AtLoop) (n : Nat) (cap : Nat) (l : List Go.Value) (x : Int) (y : Int) (a : Int) (b : Int) (i : Int) (B : Bx) (X : Xx) (k : List D → Prop) : r13 C L n cap l x y a b i B X k =
 (bcase (decide (i < (↑n : Int)))
 (bcase (decide (0 ≤ i))
 (bcase (decide (i < (↑n : Int)))
 (∃ n1 : Int,
 (∃ n2 : Int,
 ((At (l) (0 + Int.toNat i * 2) 2 [(Go.Value.int Go.IntKind.i64 (n1)), (Go.Value.int Go.IntKind.i64 (n2))]) ∧
 (bcase (decide (x < n1))
 (bcase (decide (n1 < y))
 (B [(Prod.mk 3 (Go.Value.pointer (Option.some (Go.Addr.mk 1000 0 Option.none)))), (Prod.mk 4 (Go.Value.pointer (Option.some (Go.Addr.mk 1001 0 Option.none)))), (Prod.mk 9 (Go.Value.slice (Option.some (Go.Addr.mk 1002 0 Option.none)) 3 3)), (Prod.mk 42 (Go.Value.slice (Option.some (Go.Addr.mk 500 0 Option.none)) (n) (cap))), (Prod.mk 43 (Go.Value.int Go.IntKind.i64 ((↑n : Int)))), (Prod.mk 44 (Go.Value.int Go.IntKind.i64 (Go.IntKind.wrap Go.IntKind.i64 (i + 1))))] [(Prod.mk 1000 (AObj.cells [(Go.Value.int Go.IntKind.i64 (x)), (Go.Value.int Go.IntKind.i64 (y))] 24 false 1)), (Prod.mk 1001 (AObj.cells [(Go.Value.int Go.IntKind.i64 (0 : Int)), (Go.Value.int Go.IntKind.i64 (0 : Int))] 24 false 2)), (Prod.mk 1002 (AObj.sym [(Go.Value.int Go.IntKind.i64 (a)), (Go.Value.int Go.IntKind.i64 (b)), (Go.Value.int Go.IntKind.i64 (n2))] true 1)), (Prod.mk 500 (AObj.sym (l) false 2))])
 (B [(Prod.mk 3 (Go.Value.pointer (Option.some (Go.Addr.mk 1000 0 Option.none)))), (Prod.mk 4 (Go.Value.pointer (Option.some (Go.Addr.mk 1001 0 Option.none)))), (Prod.mk 9 (Go.Value.slice (Option.some (Go.Addr.mk 1002 0 Option.none)) 2 2)), (Prod.mk 42 (Go.Value.slice (Option.some (Go.Addr.mk 500 0 Option.none)) (n) (cap))), (Prod.mk 43 (Go.Value.int Go.IntKind.i64 ((↑n : Int)))), (Prod.mk 44 (Go.Value.int Go.IntKind.i64 (Go.IntKind.wrap Go.IntKind.i64 (i + 1))))] [(Prod.mk 1000 (AObj.cells [(Go.Value.int Go.IntKind.i64 (x)), (Go.Value.int Go.IntKind.i64 (y))] 24 false 1)), (Prod.mk 1001 (AObj.cells [(Go.Value.int Go.IntKind.i64 (0 : Int)), (Go.Value.int Go.IntKind.i64 (0 : Int))] 24 false 2)), (Prod.mk 1002 (AObj.cells [(Go.Value.int Go.IntKind.i64 (a)), (Go.Value.int Go.IntKind.i64 (b))] 3 false 1)), (Prod.mk 500 (AObj.sym (l) false 2))]))
 (B [(Prod.mk 3 (Go.Value.pointer (Option.some (Go.Addr.mk 1000 0 Option.none)))), (Prod.mk 4 (Go.Value.pointer (Option.some (Go.Addr.mk 1001 0 Option.none)))), (Prod.mk 9 (Go.Value.slice (Option.some (Go.Addr.mk 1002 0 Option.none)) 2 2)), (Prod.mk 42 (Go.Value.slice (Option.some (Go.Addr.mk 500 0 Option.none)) (n) (cap))), (Prod.mk 43 (Go.Value.int Go.IntKind.i64 ((↑n : Int)))), (Prod.mk 44 (Go.Value.int Go.IntKind.i64 (Go.IntKind.wrap Go.IntKind.i64 (i + 1))))] [(Prod.mk 1000 (AObj.cells [(Go.Value.int Go.IntKind.i64 (x)), (Go.Value.int Go.IntKind.i64 (y))] 24 false 1)), (Prod.mk 1001 (AObj.cells [(Go.Value.int Go.IntKind.i64 (0 : Int)), (Go.Value.int Go.IntKind.i64 (0 : Int))] 24 false 2)), (Prod.mk 1002 (AObj.cells [(Go.Value.int Go.IntKind.i64 (a)), (Go.Value.int Go.IntKind.i64 (b))] 3 false 1)), (Prod.mk 500 (AObj.sym (l) false 2))])))))
 False)
 False)
 (X 0 [(Prod.mk 4 (Go.Value.pointer (Option.some (Go.Addr.mk 1000 0 Option.none)))), (Prod.mk 9 (Go.Value.slice (Option.some (Go.Addr.mk 1001 0 Option.none)) 2 2))] [(Prod.mk 1000 (AObj.cells [(Go.Value.int Go.IntKind.i64 (0 : Int)), (Go.Value.int Go.IntKind.i64 (0 : Int))] 24 false 2)), (Prod.mk 1001 (AObj.cells [(Go.Value.int Go.IntKind.i64 (a)), (Go.Value.int Go.IntKind.i64 (b))] 3 false 1))])) := by kernel_rfl
def n13 (C : Ct) (L : AtLoop) (x y a b : Int) (k : List D → Prop) : Prop := wpNext Try.prog (hM C) L 13 0 .normal [(4, P1 1000 0), (9, .slice (some ⟨1001, 0, none⟩) 2 2)] [(1000, .cells [vI 0, vI 0] 24 false 2), (1001, .cells [vI a, vI b] 3 false 1)] (dataK k)
theorem n13_text (C : Ct) (L : AtLoop) (x : Int) (y : Int) (a : Int) (b : Int) (k : List D → Prop) : n13 C L x y a b k =
 (∃ n1 : Int,
 ((Says C 59 [(D.sl 2 1 [(Go.Value.int Go.IntKind.i64 (a)), (Go.Value.int Go.IntKind.i64 (b))])] [(D.val (Go.Value.int Go.IntKind.i64 (n1)))]) ∧
 (∃ n2 : Int,
 ((Says C 60 [(D.sl 2 1 [(Go.Value.int Go.IntKind.i64 (a)), (Go.Value.int Go.IntKind.i64 (b))])] [(D.val (Go.Value.int Go.IntKind.i64 (n2)))]) ∧
 (k [(D.agg [(D.val (Go.Value.int Go.IntKind.i64 (n1))), (D.val (Go.Value.int Go.IntKind.i64 (n2)))]), (D.val (Go.Value.int Go.IntKind.i64 (0 : Int)))]))))) := by kernel_rfl
def s17 (n cap : Nat) (i : Int) : Slots := [(0, S500 n cap), (3, P1 1000 0), (4, P1 1001 0), (7, P1 1002 0), (8, vI i)]
def b17 (x y lo hi : Int) (l : List Value) : Blocks := [T500 l, (1000, .cells [vI x, vI y] 24 false 1), (1001, .cells [vI 0, vI 0] 24 false 2), (1002, .cells [vI lo, vI hi] 24 false 2)]
def r17 (C : Ct) (L : AtLoop) (n cap : Nat) (l : List Value) (x y lo hi : Int) (i : Int) (B : Bx) (X : Xx) (k : List D → Prop) : Prop := wpRound Try.prog (hM C) L 17 0 (s17 n cap i) (b17 x y lo hi l) B X (dataK k)
theorem r17_text (C : Ct) (L : AtLoop) (n : Nat) (cap : Nat) (l : List Go.Value) (x : Int) (y : Int) (lo : Int) (hi : Int) (i : Int) (B : Bx) (X : Xx) (k : List D → Prop) : r17 C L n cap l x y lo hi i B X k =
 (bcase (decide (i < (↑n : Int)))
 (bcase (decide (0 ≤ i))
 (bcase (decide (i < (↑n : Int)))
 (∃ n1 : Int,
 ((At (l) (0 + Int.toNat i * 2) 1 [(Go.Value.int Go.IntKind.i64 (n1))]) ∧
 ((((Go.Value.int Go.IntKind.i64 (y)) = (Go.Value.int Go.IntKind.i64 (y))) ∧
 (((Go.Value.pointer (Option.some (Go.Addr.mk 1000 1 Option.none))) = (Go.Value.pointer (Option.some (Go.Addr.mk 1000 1 Option.none)))) ∧
 (((Go.Value.int Go.IntKind.i64 (x)) = (Go.Value.int Go.IntKind.i64 (x))) ∧
 (((Go.Value.pointer (Option.some (Go.Addr.mk 1000 0 Option.none))) = (Go.Value.pointer (Option.some (Go.Addr.mk 1000 0 Option.none)))) ∧
 ((∃ n2 : Int,
 ((At (l) (0 + Int.toNat i * 2) 1 [(Go.Value.int Go.IntKind.i64 (n2))]) ∧
 ((Go.Value.int Go.IntKind.i64 (n2)) = (Go.Value.int Go.IntKind.i64 (n1))))) ∧
 (((Go.Value.pointer (Option.some (Go.Addr.mk 500 (0 + Int.toNat i * 2) Option.none))) = (Go.Value.pointer (Option.some (Go.Addr.mk 500 (0 + Int.toNat i * 2) Option.none)))) ∧
 ((bcase (decide (0 ≤ i))
 (bcase (decide (i < (↑n : Int)))
 ((Go.Value.pointer (Option.some (Go.Addr.mk 500 (0 + Int.toNat i * 2) Option.none))) = (Go.Value.pointer (Option.some (Go.Addr.mk 500 (0 + Int.toNat i * 2) Option.none))))
 False)
 False) ∧
 (((Go.Value.int Go.IntKind.i64 (i)) = (Go.Value.int Go.IntKind.i64 (i))) ∧
 (((Go.Value.slice (Option.some (Go.Addr.mk 500 0 Option.none)) (n) (cap)) = (Go.Value.slice (Option.some (Go.Addr.mk 500 0 Option.none)) (n) (cap))) ∧
 True))))))))) ∧
 (bcase (decide (x ≤ n1))
 (bcase (decide (n1 ≤ y))
 ((((Go.Value.pointer (Option.some (Go.Addr.mk 1000 1 Option.none))) = (Go.Value.pointer (Option.some (Go.Addr.mk 1000 1 Option.none)))) ∧
 (((Go.Value.pointer (Option.some (Go.Addr.mk 1000 0 Option.none))) = (Go.Value.pointer (Option.some (Go.Addr.mk 1000 0 Option.none)))) ∧
 (((Go.Value.pointer (Option.some (Go.Addr.mk 500 (0 + Int.toNat i * 2) Option.none))) = (Go.Value.pointer (Option.some (Go.Addr.mk 500 (0 + Int.toNat i * 2) Option.none)))) ∧
 ((bcase (decide (0 ≤ i))
 (bcase (decide (i < (↑n : Int)))
 ((Go.Value.pointer (Option.some (Go.Addr.mk 500 (0 + Int.toNat i * 2) Option.none))) = (Go.Value.pointer (Option.some (Go.Addr.mk 500 (0 + Int.toNat i * 2) Option.none))))
 False)
 False) ∧
 (((Go.Value.int Go.IntKind.i64 (i)) = (Go.Value.int Go.IntKind.i64 (i))) ∧
 (((Go.Value.slice (Option.some (Go.Addr.mk 500 0 Option.none)) (n) (cap)) = (Go.Value.slice (Option.some (Go.Addr.mk 500 0 Option.none)) (n) (cap))) ∧
 True)))))) ∧
 (bcase (decide (0 ≤ i))
 (bcase (decide (i < (↑n : Int)))
 (∃ n2 : Int,
 ((At (l) (Go.Addr.off { block := 500, off := 0 + Int.toNat i * 2 } + 1) 1 [(Go.Value.int Go.IntKind.i64 (n2))]) ∧
 (bcase (decide (0 ≤ i))
 (bcase (decide (i < (↑n : Int)))
 (∃ n3 : Int,
 ((At (l) (Go.Addr.off { block := 500, off := 0 + Int.toNat i * 2 } + 1) 1 [(Go.Value.int Go.IntKind.i64 (n3))]) ∧
 ((((Go.Value.agg [(Go.Value.int Go.IntKind.i64 (if n2 < lo then n2 else lo)), (Go.Value.int Go.IntKind.i64 (if n3 > hi then n3 else hi))].toArray) = (Go.Value.agg [(Go.Value.int Go.IntKind.i64 (if n2 < lo then n2 else lo)), (Go.Value.int Go.IntKind.i64 (if n3 > hi then n3 else hi))].toArray)) ∧
 (((Go.Value.int Go.IntKind.i64 (if n3 > hi then n3 else hi)) = (Go.Value.int Go.IntKind.i64 (if n3 > hi then n3 else hi))) ∧
 ((∃ n4 : Int,
 ((At (l) (Go.Addr.off { block := 500, off := 0 + Int.toNat i * 2 } + 1) 1 [(Go.Value.int Go.IntKind.i64 (n4))]) ∧
 ((Go.Value.int Go.IntKind.i64 (n4)) = (Go.Value.int Go.IntKind.i64 (n3))))) ∧
 (((Go.Value.pointer (Option.some (Go.Addr.mk 500 (Go.Addr.off { block := 500, off := 0 + Int.toNat i * 2 } + 1) Option.none))) = (Go.Value.pointer (Option.some (Go.Addr.mk 500 (Go.Addr.off { block := 500, off := 0 + Int.toNat i * 2 } + 1) Option.none)))) ∧
 ((bcase (decide (0 ≤ i))
 (bcase (decide (i < (↑n : Int)))
 ((Go.Value.pointer (Option.some (Go.Addr.mk 500 (0 + Int.toNat i * 2) Option.none))) = (Go.Value.pointer (Option.some (Go.Addr.mk 500 (0 + Int.toNat i * 2) Option.none))))
 False)
 False) ∧
 (((Go.Value.int Go.IntKind.i64 (i)) = (Go.Value.int Go.IntKind.i64 (i))) ∧
 (((Go.Value.slice (Option.some (Go.Addr.mk 500 0 Option.none)) (n) (cap)) = (Go.Value.slice (Option.some (Go.Addr.mk 500 0 Option.none)) (n) (cap))) ∧
 (((Go.Value.int Go.IntKind.i64 (hi)) = (Go.Value.int Go.IntKind.i64 (hi))) ∧
 (((Go.Value.pointer (Option.some (Go.Addr.mk 1002 1 Option.none))) = (Go.Value.pointer (Option.some (Go.Addr.mk 1002 1 Option.none)))) ∧
 (((Go.Value.int Go.IntKind.i64 (if n2 < lo then n2 else lo)) = (Go.Value.int Go.IntKind.i64 (if n2 < lo then n2 else lo))) ∧
 ((∃ n4 : Int,
 ((At (l) (Go.Addr.off { block := 500, off := 0 + Int.toNat i * 2 } + 1) 1 [(Go.Value.int Go.IntKind.i64 (n4))]) ∧
 ((Go.Value.int Go.IntKind.i64 (n4)) = (Go.Value.int Go.IntKind.i64 (n2))))) ∧
 (((Go.Value.pointer (Option.some (Go.Addr.mk 500 (Go.Addr.off { block := 500, off := 0 + Int.toNat i * 2 } + 1) Option.none))) = (Go.Value.pointer (Option.some (Go.Addr.mk 500 (Go.Addr.off { block := 500, off := 0 + Int.toNat i * 2 } + 1) Option.none)))) ∧
 ((bcase (decide (0 ≤ i))
 (bcase (decide (i < (↑n : Int)))
 ((Go.Value.pointer (Option.some (Go.Addr.mk 500 (0 + Int.toNat i * 2) Option.none))) = (Go.Value.pointer (Option.some (Go.Addr.mk 500 (0 + Int.toNat i * 2) Option.none))))
 False)
 False) ∧
 (((Go.Value.int Go.IntKind.i64 (i)) = (Go.Value.int Go.IntKind.i64 (i))) ∧
 (((Go.Value.slice (Option.some (Go.Addr.mk 500 0 Option.none)) (n) (cap)) = (Go.Value.slice (Option.some (Go.Addr.mk 500 0 Option.none)) (n) (cap))) ∧
 (((Go.Value.int Go.IntKind.i64 (lo)) = (Go.Value.int Go.IntKind.i64 (lo))) ∧
 (((Go.Value.pointer (Option.some (Go.Addr.mk 1002 0 Option.none))) = (Go.Value.pointer (Option.some (Go.Addr.mk 1002 0 Option.none)))) ∧
 True))))))))))))))))) ∧
 (True ∧
 (B [(Prod.mk 0 (Go.Value.slice (Option.some (Go.Addr.mk 500 0 Option.none)) (n) (cap))), (Prod.mk 3 (Go.Value.pointer (Option.some (Go.Addr.mk 1000 0 Option.none)))), (Prod.mk 4 (Go.Value.pointer (Option.some (Go.Addr.mk 1001 0 Option.none)))), (Prod.mk 7 (Go.Value.pointer (Option.some (Go.Addr.mk 1002 0 Option.none)))), (Prod.mk 8 (Go.Value.int Go.IntKind.i64 (Go.IntKind.wrap Go.IntKind.i64 (i + 1))))] [(Prod.mk 500 (AObj.sym (l) false 2)), (Prod.mk 1000 (AObj.cells [(Go.Value.int Go.IntKind.i64 (x)), (Go.Value.int Go.IntKind.i64 (y))] 24 false 1)), (Prod.mk 1001 (AObj.cells [(Go.Value.int Go.IntKind.i64 (0 : Int)), (Go.Value.int Go.IntKind.i64 (0 : Int))] 24 false 2)), (Prod.mk 1002 (AObj.cells [(Go.Value.int Go.IntKind.i64 (if n2 < lo then n2 else lo)), (Go.Value.int Go.IntKind.i64 (if n3 > hi then n3 else hi))] 24 false 2))])))))
 False)
 False)))
 False)
 False))
 ((((Go.Value.pointer (Option.some (Go.Addr.mk 1000 1 Option.none))) = (Go.Value.pointer (Option.some (Go.Addr.mk 1000 1 Option.none)))) ∧
 (((Go.Value.pointer (Option.some (Go.Addr.mk 1000 0 Option.none))) = (Go.Value.pointer (Option.some (Go.Addr.mk 1000 0 Option.none)))) ∧
 (((Go.Value.pointer (Option.some (Go.Addr.mk 500 (0 + Int.toNat i * 2) Option.none))) = (Go.Value.pointer (Option.some (Go.Addr.mk 500 (0 + Int.toNat i * 2) Option.none)))) ∧
 ((bcase (decide (0 ≤ i))
 (bcase (decide (i < (↑n : Int)))
 ((Go.Value.pointer (Option.some (Go.Addr.mk 500 (0 + Int.toNat i * 2) Option.none))) = (Go.Value.pointer (Option.some (Go.Addr.mk 500 (0 + Int.toNat i * 2) Option.none))))
 False)
 False) ∧
 (((Go.Value.int Go.IntKind.i64 (i)) = (Go.Value.int Go.IntKind.i64 (i))) ∧
 (((Go.Value.slice (Option.some (Go.Addr.mk 500 0 Option.none)) (n) (cap)) = (Go.Value.slice (Option.some (Go.Addr.mk 500 0 Option.none)) (n) (cap))) ∧
 True)))))) ∧
 (B [(Prod.mk 0 (Go.Value.slice (Option.some (Go.Addr.mk 500 0 Option.none)) (n) (cap))), (Prod.mk 3 (Go.Value.pointer (Option.some (Go.Addr.mk 1000 0 Option.none)))), (Prod.mk 4 (Go.Value.pointer (Option.some (Go.Addr.mk 1001 0 Option.none)))), (Prod.mk 7 (Go.Value.pointer (Option.some (Go.Addr.mk 1002 0 Option.none)))), (Prod.mk 8 (Go.Value.int Go.IntKind.i64 (Go.IntKind.wrap Go.IntKind.i64 (i + 1))))] [(Prod.mk 500 (AObj.sym (l) false 2)), (Prod.mk 1000 (AObj.cells [(Go.Value.int Go.IntKind.i64 (x)), (Go.Value.int Go.IntKind.i64 (y))] 24 false 1)), (Prod.mk 1001 (AObj.cells [(Go.Value.int Go.IntKind.i64 (0 : Int)), (Go.Value.int Go.IntKind.i64 (0 : Int))] 24 false 2)), (Prod.mk 1002 (AObj.cells [(Go.Value.int Go.IntKind.i64 (lo)), (Go.Value.int Go.IntKind.i64 (hi))] 24 false 2))])))
 ((((Go.Value.pointer (Option.some (Go.Addr.mk 1000 1 Option.none))) = (Go.Value.pointer (Option.some (Go.Addr.mk 1000 1 Option.none)))) ∧
 (((Go.Value.pointer (Option.some (Go.Addr.mk 1000 0 Option.none))) = (Go.Value.pointer (Option.some (Go.Addr.mk 1000 0 Option.none)))) ∧
 (((Go.Value.pointer (Option.some (Go.Addr.mk 500 (0 + Int.toNat i * 2) Option.none))) = (Go.Value.pointer (Option.some (Go.Addr.mk 500 (0 + Int.toNat i * 2) Option.none)))) ∧
 ((bcase (decide (0 ≤ i))
 (bcase (decide (i < (↑n : Int)))
 ((Go.Value.pointer (Option.some (Go.Addr.mk 500 (0 + Int.toNat i * 2) Option.none))) = (Go.Value.pointer (Option.some (Go.Addr.mk 500 (0 + Int.toNat i * 2) Option.none))))
 False)
 False) ∧
 (((Go.Value.int Go.IntKind.i64 (i)) = (Go.Value.int Go.IntKind.i64 (i))) ∧
 (((Go.Value.slice (Option.some (Go.Addr.mk 500 0 Option.none)) (n) (cap)) = (Go.Value.slice (Option.some (Go.Addr.mk 500 0 Option.none)) (n) (cap))) ∧
 True)))))) ∧
 (B [(Prod.mk 0 (Go.Value.slice (Option.some (Go.Addr.mk 500 0 Option.none)) (n) (cap))), (Prod.mk 3 (Go.Value.pointer (Option.some (Go.Addr.mk 1000 0 Option.none)))), (Prod.mk 4 (Go.Value.pointer (Option.some (Go.Addr.mk 1001 0 Option.none)))), (Prod.mk 7 (Go.Value.pointer (Option.some (Go.Addr.mk 1002 0 Option.none)))), (Prod.mk 8 (Go.Value.int Go.IntKind.i64 (Go.IntKind.wrap Go.IntKind.i64 (i + 1))))] [(Prod.mk 500 (AObj.sym (l) false 2)), (Prod.mk 1000 (AObj.cells [(Go.Value.int Go.IntKind.i64 (x)), (Go.Value.int Go.IntKind.i64 (y))] 24 false 1)), (Prod.mk 1001 (AObj.cells [(Go.Value.int Go.IntKind.i64 (0 : Int)), (Go.Value.int Go.IntKind.i64 (0 : Int))] 24 false 2)), (Prod.mk 1002 (AObj.cells [(Go.Value.int Go.IntKind.i64 (lo)), (Go.Value.int Go.IntKind.i64 (hi))] 24 false 2))]))))))
 False)
 False)
 (X 0 [(Prod.mk 4 (Go.Value.pointer (Option.some (Go.Addr.mk 1000 0 Option.none)))), (Prod.mk 7 (Go.Value.pointer (Option.some (Go.Addr.mk 1001 0 Option.none))))] [(Prod.mk 1000 (AObj.cells [(Go.Value.int Go.IntKind.i64 (0 : Int)), (Go.Value.int Go.IntKind.i64 (0 : Int))] 24 false 2)), (Prod.mk 1001 (AObj.cells [(Go.Value.int Go.IntKind.i64 (lo)), (Go.Value.int Go.IntKind.i64 (hi))] 24 false 2))])) := by kernel_rfl
def s54 (n cap : Nat) (i : Int) : Slots := [(5, S500 n cap), (6, vI n), (7, vI i)]
def r54 (C : Ct) (L : AtLoop) (n cap : Nat) (l : List Value) (i : Int) (B : Bx) (X : Xx) (k : List D → Prop) : Prop := wpRound Try.prog (hM C) L 54 0 (s54 n cap i) [Q500 l] B X (dataK k)
theorem r54_text (C : Ct) (L : AtLoop) (n : Nat) (cap : Nat) (l : List Go.Value) (i : Int) (B : Bx) (X : Xx) (k : List D → Prop) : r54 C L n cap l i B X k =
 (bcase (decide (i < (↑n : Int)))
 (bcase (decide (0 ≤ i))
 (bcase (decide (i < (↑n : Int)))
 (∃ n1 : Int,
 ((At (l) (0 + Int.toNat i * 1) 1 [(Go.Value.int Go.IntKind.i64 (n1))]) ∧
 (bcase (n1 != 0)
 (k [(D.val (Go.Value.int Go.IntKind.i64 (n1)))])
 (B [(Prod.mk 5 (Go.Value.slice (Option.some (Go.Addr.mk 500 0 Option.none)) (n) (cap))), (Prod.mk 6 (Go.Value.int Go.IntKind.i64 ((↑n : Int)))), (Prod.mk 7 (Go.Value.int Go.IntKind.i64 (Go.IntKind.wrap Go.IntKind.i64 (i + 1))))] [(Prod.mk 500 (AObj.sym (l) false 1))]))))
 False)
 False)
 (X 0 [] [])) := by kernel_rfl
def n54 (C : Ct) (L : AtLoop) (k : List D → Prop) : Prop := wpNext Try.prog (hM C) L 54 0 .normal [] [] (dataK k)
theorem n54_text (C : Ct) (L : AtLoop) (k : List D → Prop) : n54 C L k =
 (k [(D.val (Go.Value.int Go.IntKind.i64 (0 : Int)))]) := by kernel_rfl
def s59 (n cap : Nat) (m i : Int) : Slots := [(0, S500 n cap), (3, vI m), (4, vI i)]
def r59 (C : Ct) (L : AtLoop) (n cap : Nat) (l : List Value) (m i : Int) (B : Bx) (X : Xx) (k : List D → Prop) : Prop := wpRound Try.prog (hM C) L 59 0 (s59 n cap m i) [Q500 l] B X (dataK k)
theorem r59_text (C : Ct) (L : AtLoop) (n : Nat) (cap : Nat) (l : List Go.Value) (m : Int) (i : Int) (B : Bx) (X : Xx) (k : List D → Prop) : r59 C L n cap l m i B X k =
 (bcase (decide (i < (↑n : Int)))
 (bcase (decide (0 ≤ i))
 (bcase (decide (i < (↑n : Int)))
 (∃ n1 : Int,
 ((At (l) (0 + Int.toNat i * 1) 1 [(Go.Value.int Go.IntKind.i64 (n1))]) ∧
 (B [(Prod.mk 0 (Go.Value.slice (Option.some (Go.Addr.mk 500 0 Option.none)) (n) (cap))), (Prod.mk 3 (Go.Value.int Go.IntKind.i64 (if n1 < m then n1 else m))), (Prod.mk 4 (Go.Value.int Go.IntKind.i64 (Go.IntKind.wrap Go.IntKind.i64 (i + 1))))] [(Prod.mk 500 (AObj.sym (l) false 1))])))
 False)
 False)
 (X 0 [(Prod.mk 3 (Go.Value.int Go.IntKind.i64 (m)))] [])) := by kernel_rfl
def n59 (C : Ct) (L : AtLoop) (m : Int) (k : List D → Prop) : Prop := wpNext Try.prog (hM C) L 59 0 .normal [(3, vI m)] [] (dataK k)
theorem n59_text (C : Ct) (L : AtLoop) (m : Int) (k : List D → Prop) : n59 C L m k =
 (k [(D.val (Go.Value.int Go.IntKind.i64 (m)))]) := by kernel_rfl
def r60 (C : Ct) (L : AtLoop) (n cap : Nat) (l : List Value) (m i : Int) (B : Bx) (X : Xx) (k : List D → Prop) : Prop := wpRound Try.prog (hM C) L 60 0 (s59 n cap m i) [Q500 l] B X (dataK k)
theorem r60_text (C : Ct) (L : AtLoop) (n : Nat) (cap : Nat) (l : List Go.Value) (m : Int) (i : Int) (B : Bx) (X : Xx) (k : List D → Prop) : r60 C L n cap l m i B X k =
 (bcase (decide (i < (↑n : Int)))
 (bcase (decide (0 ≤ i))
 (bcase (decide (i < (↑n : Int)))
 (∃ n1 : Int,
 ((At (l) (0 + Int.toNat i * 1) 1 [(Go.Value.int Go.IntKind.i64 (n1))]) ∧
 (B [(Prod.mk 0 (Go.Value.slice (Option.some (Go.Addr.mk 500 0 Option.none)) (n) (cap))), (Prod.mk 3 (Go.Value.int Go.IntKind.i64 (if n1 > m then n1 else m))), (Prod.mk 4 (Go.Value.int Go.IntKind.i64 (Go.IntKind.wrap Go.IntKind.i64 (i + 1))))] [(Prod.mk 500 (AObj.sym (l) false 1))])))
 False)
 False)
 (X 0 [(Prod.mk 3 (Go.Value.int Go.IntKind.i64 (m)))] [])) := by kernel_rfl
def n60 (C : Ct) (L : AtLoop) (m : Int) (k : List D → Prop) : Prop := wpNext Try.prog (hM C) L 60 0 .normal [(3, vI m)] [] (dataK k)
theorem n60_text (C : Ct) (L : AtLoop) (m : Int) (k : List D → Prop) : n60 C L m k =
 (k [(D.val (Go.Value.int Go.IntKind.i64 (m)))]) := by kernel_rfl
def s70 (a b : Int) : Slots := [(0, vI a), (1, vI b)]
def r70 (C : Ct) (L : AtLoop) (a b : Int) (B : Bx) (X : Xx) (k : List D → Prop) : Prop := wpRound Try.prog (hM C) L 70 0 (s70 a b) [] B X (dataK k)
theorem r70_text (C : Ct) (L : AtLoop) (a : Int) (b : Int) (B : Bx) (X : Xx) (k : List D → Prop) : r70 C L a b B X k =
 (bcase (b != 0)
 (bcase (b != 0)
 (((bcase (b != 0)
 ((Go.Value.int Go.IntKind.i64 (Int.tmod a b)) = (Go.Value.int Go.IntKind.i64 (Int.tmod a b)))
 False) ∧
 (((Go.Value.int Go.IntKind.i64 (b)) = (Go.Value.int Go.IntKind.i64 (b))) ∧
 (((Go.Value.int Go.IntKind.i64 (a)) = (Go.Value.int Go.IntKind.i64 (a))) ∧
 (((Go.Value.int Go.IntKind.i64 (b)) = (Go.Value.int Go.IntKind.i64 (b))) ∧
 True)))) ∧
 (((bcase (b != 0)
 ((Go.Value.int Go.IntKind.i64 (Int.tmod a b)) = (Go.Value.int Go.IntKind.i64 (Int.tmod a b)))
 False) ∧
 (((Go.Value.int Go.IntKind.i64 (b)) = (Go.Value.int Go.IntKind.i64 (b))) ∧
 True)) ∧
 (True ∧
 (B [(Prod.mk 0 (Go.Value.int Go.IntKind.i64 (b))), (Prod.mk 1 (Go.Value.int Go.IntKind.i64 (Int.tmod a b)))] []))))
 False)
 (X 0 [(Prod.mk 0 (Go.Value.int Go.IntKind.i64 (a)))] [])) := by kernel_rfl
def n70 (C : Ct) (L : AtLoop) (a : Int) (k : List D → Prop) : Prop := wpNext Try.prog (hM C) L 70 0 .normal [(0, vI a)] [] (dataK k)
theorem n70_text (C : Ct) (L : AtLoop) (a : Int) (k : List D → Prop) : n70 C L a k =
 (k [(D.val (Go.Value.int Go.IntKind.i64 (if Go.IntKind.wrap Go.IntKind.i64 (0 - a) > a then Go.IntKind.wrap Go.IntKind.i64 (0 - a) else a)))]) := by kernel_rfl
def s88 (a b : Int) : Slots := [(6, vI a), (7, vI b)]
def r88 (C : Ct) (L : AtLoop) (a b : Int) (B : Bx) (X : Xx) (k : List D → Prop) : Prop := wpRound Try.prog (hM C) L 88 0 (s88 a b) [] B X (dataK k)
theorem r88_text (C : Ct) (L : AtLoop) (a : Int) (b : Int) (B : Bx) (X : Xx) (k : List D → Prop) : r88 C L a b B X k =
 (bcase (decide (b > 0))
 (bcase (b != 0)
 (((bcase (b != 0)
 ((Go.Value.int Go.IntKind.i64 (Int.tmod a b)) = (Go.Value.int Go.IntKind.i64 (Int.tmod a b)))
 False) ∧
 (((Go.Value.int Go.IntKind.i64 (b)) = (Go.Value.int Go.IntKind.i64 (b))) ∧
 (((Go.Value.int Go.IntKind.i64 (a)) = (Go.Value.int Go.IntKind.i64 (a))) ∧
 (((Go.Value.int Go.IntKind.i64 (b)) = (Go.Value.int Go.IntKind.i64 (b))) ∧
 True)))) ∧
 (((bcase (b != 0)
 ((Go.Value.int Go.IntKind.i64 (Int.tmod a b)) = (Go.Value.int Go.IntKind.i64 (Int.tmod a b)))
 False) ∧
 (((Go.Value.int Go.IntKind.i64 (b)) = (Go.Value.int Go.IntKind.i64 (b))) ∧
 True)) ∧
 (True ∧
 (B [(Prod.mk 6 (Go.Value.int Go.IntKind.i64 (b))), (Prod.mk 7 (Go.Value.int Go.IntKind.i64 (Int.tmod a b)))] []))))
 False)
 (X 0 [(Prod.mk 6 (Go.Value.int Go.IntKind.i64 (a)))] [])) := by kernel_rfl
def n88 (C : Ct) (L : AtLoop) (a : Int) (k : List D → Prop) : Prop := wpNext Try.prog (hM C) L 88 0 .normal [(6, vI a)] [] (dataK k)
theorem n88_text (C : Ct) (L : AtLoop) (a : Int) (k : List D → Prop) : n88 C L a k =
 (k [(D.val (Go.Value.int Go.IntKind.i64 (a)))]) := by kernel_rfl
def s45 (x y at' i : Int) : Slots := [(2, vI x), (3, vI y), (5, P1 1000 0), (8, P1 1001 0), (10, vI at'), (11, vI i)]
def b45 (v w : Int) : Blocks := [(1000, .cells [vI v, vI w] 44 false 1), (1001, .cells [vI 0, vI 0] 44 false 2)]
def r45 (C : Ct) (L : AtLoop) (v w x y at' i : Int) (B : Bx) (X : Xx) (k : List D → Prop) : Prop := wpRound Try.prog (hM C) L 45 0 (s45 x y at' i) (b45 v w) B X (dataK k)
theorem r45_text (C : Ct) (L : AtLoop) (v : Int) (w : Int) (x : Int) (y : Int) (at' : Int) (i : Int) (B : Bx) (X : Xx) (k : List D → Prop) : r45 C L v w x y at' i B X k =
 (bcase (decide (i < y))
 (bcase (decide (at' < x))
 (B [(Prod.mk 2 (Go.Value.int Go.IntKind.i64 (x))), (Prod.mk 3 (Go.Value.int Go.IntKind.i64 (y))), (Prod.mk 5 (Go.Value.pointer (Option.some (Go.Addr.mk 1000 0 Option.none)))), (Prod.mk 8 (Go.Value.pointer (Option.some (Go.Addr.mk 1001 0 Option.none)))), (Prod.mk 10 (Go.Value.int Go.IntKind.i64 (Go.IntKind.wrap Go.IntKind.i64 (at' + 1)))), (Prod.mk 11 (Go.Value.int Go.IntKind.i64 (Go.IntKind.wrap Go.IntKind.i64 (i + 1))))] [(Prod.mk 1000 (AObj.cells [(Go.Value.int Go.IntKind.i64 (v)), (Go.Value.int Go.IntKind.i64 (w))] 44 false 1)), (Prod.mk 1001 (AObj.cells [(Go.Value.int Go.IntKind.i64 (0 : Int)), (Go.Value.int Go.IntKind.i64 (0 : Int))] 44 false 2))])
 (bcase (decide (at' > x))
 (B [(Prod.mk 2 (Go.Value.int Go.IntKind.i64 (x))), (Prod.mk 3 (Go.Value.int Go.IntKind.i64 (y))), (Prod.mk 5 (Go.Value.pointer (Option.some (Go.Addr.mk 1000 0 Option.none)))), (Prod.mk 8 (Go.Value.pointer (Option.some (Go.Addr.mk 1001 0 Option.none)))), (Prod.mk 10 (Go.Value.int Go.IntKind.i64 (Go.IntKind.wrap Go.IntKind.i64 (at' - 1)))), (Prod.mk 11 (Go.Value.int Go.IntKind.i64 (Go.IntKind.wrap Go.IntKind.i64 (i + 1))))] [(Prod.mk 1000 (AObj.cells [(Go.Value.int Go.IntKind.i64 (v)), (Go.Value.int Go.IntKind.i64 (w))] 44 false 1)), (Prod.mk 1001 (AObj.cells [(Go.Value.int Go.IntKind.i64 (0 : Int)), (Go.Value.int Go.IntKind.i64 (0 : Int))] 44 false 2))])
 (B [(Prod.mk 2 (Go.Value.int Go.IntKind.i64 (x))), (Prod.mk 3 (Go.Value.int Go.IntKind.i64 (y))), (Prod.mk 5 (Go.Value.pointer (Option.some (Go.Addr.mk 1000 0 Option.none)))), (Prod.mk 8 (Go.Value.pointer (Option.some (Go.Addr.mk 1001 0 Option.none)))), (Prod.mk 10 (Go.Value.int Go.IntKind.i64 (at'))), (Prod.mk 11 (Go.Value.int Go.IntKind.i64 (Go.IntKind.wrap Go.IntKind.i64 (i + 1))))] [(Prod.mk 1000 (AObj.cells [(Go.Value.int Go.IntKind.i64 (v)), (Go.Value.int Go.IntKind.i64 (w))] 44 false 1)), (Prod.mk 1001 (AObj.cells [(Go.Value.int Go.IntKind.i64 (0 : Int)), (Go.Value.int Go.IntKind.i64 (0 : Int))] 44 false 2))])))
 (X 0 [(Prod.mk 5 (Go.Value.pointer (Option.some (Go.Addr.mk 1000 0 Option.none)))), (Prod.mk 8 (Go.Value.pointer (Option.some (Go.Addr.mk 1001 0 Option.none)))), (Prod.mk 10 (Go.Value.int Go.IntKind.i64 (at')))] [(Prod.mk 1000 (AObj.cells [(Go.Value.int Go.IntKind.i64 (v)), (Go.Value.int Go.IntKind.i64 (w))] 44 false 1)), (Prod.mk 1001 (AObj.cells [(Go.Value.int Go.IntKind.i64 (0 : Int)), (Go.Value.int Go.IntKind.i64 (0 : Int))] 44 false 2))])) := by kernel_rfl
def f55 (C : Ct) (cap : Nat) (a : Int) (k : List D → Prop) : Prop := wpFn Try.prog (hE C) (fun _ _ _ => False) 8 55 #[S500 1 cap] (heapOf [Q500 [vI a]]) (dataK k)
theorem f55_text (C : Ct) (cap : Nat) (a : Int) (k : List D → Prop) : f55 C cap a k =
 (∃ n1 : Int,
 ((At [(Go.Value.int Go.IntKind.i64 (a))] 0 1 [(Go.Value.int Go.IntKind.i64 (n1))]) ∧
 (bcase (decide (n1 < 0))
 (k [(D.val (Go.Value.int Go.IntKind.i64 (2 : Int)))])
 (bcase (decide (n1 > 20000))
 (k [(D.val (Go.Value.int Go.IntKind.i64 (2 : Int)))])
 (k [(D.val (Go.Value.int Go.IntKind.i64 (0 : Int)))]))))) := by kernel_rfl
def f55b (C : Ct) (cap : Nat) (a b : Int) (k : List D → Prop) : Prop := wpFn Try.prog (hE C) (fun _ _ _ => False) 8 55 #[S500 2 cap] (heapOf [Q500 [vI a, vI b]]) (dataK k)
theorem f55b_text (C : Ct) (cap : Nat) (a : Int) (b : Int) (k : List D → Prop) : f55b C cap a b k =
 (∃ n1 : Int,
 ((At [(Go.Value.int Go.IntKind.i64 (a)), (Go.Value.int Go.IntKind.i64 (b))] 0 1 [(Go.Value.int Go.IntKind.i64 (n1))]) ∧
 (bcase (decide (n1 < 0))
 (k [(D.val (Go.Value.int Go.IntKind.i64 (2 : Int)))])
 (bcase (decide (n1 > 20000))
 (k [(D.val (Go.Value.int Go.IntKind.i64 (2 : Int)))])
 (∃ n2 : Int,
 ((At [(Go.Value.int Go.IntKind.i64 (a)), (Go.Value.int Go.IntKind.i64 (b))] 1 1 [(Go.Value.int Go.IntKind.i64 (n2))]) ∧
 (bcase (decide (n2 < 0))
 (k [(D.val (Go.Value.int Go.IntKind.i64 (2 : Int)))])
 (bcase (decide (n2 > 20000))
 (k [(D.val (Go.Value.int Go.IntKind.i64 (2 : Int)))])
 (k [(D.val (Go.Value.int Go.IntKind.i64 (0 : Int)))]))))))))) := by kernel_rfl
def f62 (C : Ct) (cap : Nat) (a b c d : Int) (k : List D → Prop) : Prop := wpFn Try.prog (hM C) (fun _ _ _ => False) 8 62 #[S500 2 cap] (heapOf [T500 [vI a, vI b, vI c, vI d]]) (dataK k)
theorem f62_text (C : Ct) (cap : Nat) (a : Int) (b : Int) (c : Int) (d : Int) (k : List D → Prop) : f62 C cap a b c d k =
 (∃ n1 : Int,
 (∃ n2 : Int,
 ((At [(Go.Value.int Go.IntKind.i64 (a)), (Go.Value.int Go.IntKind.i64 (b)), (Go.Value.int Go.IntKind.i64 (c)), (Go.Value.int Go.IntKind.i64 (d))] 0 2 [(Go.Value.int Go.IntKind.i64 (n1)), (Go.Value.int Go.IntKind.i64 (n2))]) ∧
 (bcase (decide (n2 ≤ 0))
 (k [(D.val (Go.Value.int Go.IntKind.i64 (3 : Int)))])
 (∃ n3 : Int,
 ((Says C 88 [(D.val (Go.Value.int Go.IntKind.i64 (n1))), (D.val (Go.Value.int Go.IntKind.i64 (n2)))] [(D.val (Go.Value.int Go.IntKind.i64 (n3)))]) ∧
 (bcase (n3 != 1)
 (k [(D.val (Go.Value.int Go.IntKind.i64 (3 : Int)))])
 (∃ n4 : Int,
 (∃ n5 : Int,
 ((At [(Go.Value.int Go.IntKind.i64 (a)), (Go.Value.int Go.IntKind.i64 (b)), (Go.Value.int Go.IntKind.i64 (c)), (Go.Value.int Go.IntKind.i64 (d))] 2 2 [(Go.Value.int Go.IntKind.i64 (n4)), (Go.Value.int Go.IntKind.i64 (n5))]) ∧
 (bcase (decide (n5 ≤ 0))
 (k [(D.val (Go.Value.int Go.IntKind.i64 (3 : Int)))])
 (∃ n6 : Int,
 ((Says C 88 [(D.val (Go.Value.int Go.IntKind.i64 (n4))), (D.val (Go.Value.int Go.IntKind.i64 (n5)))] [(D.val (Go.Value.int Go.IntKind.i64 (n6)))]) ∧
 (bcase (n6 != 1)
 (k [(D.val (Go.Value.int Go.IntKind.i64 (3 : Int)))])
 (k [(D.val (Go.Value.int Go.IntKind.i64 (0 : Int)))]))))))))))))))) := by kernel_rfl
def lm1 (cap : Nat) (lo hi x : Int) (K : Value → Blocks → Prop) : Prop := wpFn Try.prog (fun _ _ _ _ _ => False) (fun _ _ _ => False) 6 87 #[.slice (some ⟨900, 0, none⟩) 1 cap, .pointer (some ⟨901, 0, none⟩), .pointer (some ⟨902, 0, none⟩)] (heapOf [(900, .cells [.int .i64 x] 3 false 1), (901, .cells [.int .i64 lo] 3 false 1), (902, .cells [.int .i64 hi] 3 false 1)]) (stateK K)
theorem lm1_text (cap : Nat) (lo : Int) (hi : Int) (x : Int) (K : Go.Value → Blocks → Prop) : lm1 cap lo hi x K =
 (bcase (decide (x < lo))
 (K (Go.Value.int Go.IntKind.i64 (2 : Int)) [(Prod.mk 900 (AObj.cells [(Go.Value.int Go.IntKind.i64 (x))] 3 false 1)), (Prod.mk 901 (AObj.cells [(Go.Value.int Go.IntKind.i64 (lo))] 3 false 1)), (Prod.mk 902 (AObj.cells [(Go.Value.int Go.IntKind.i64 (hi))] 3 false 1))])
 (bcase (decide (x > hi))
 (K (Go.Value.int Go.IntKind.i64 (2 : Int)) [(Prod.mk 900 (AObj.cells [(Go.Value.int Go.IntKind.i64 (x))] 3 false 1)), (Prod.mk 901 (AObj.cells [(Go.Value.int Go.IntKind.i64 (lo))] 3 false 1)), (Prod.mk 902 (AObj.cells [(Go.Value.int Go.IntKind.i64 (hi))] 3 false 1))])
 (K (Go.Value.int Go.IntKind.i64 (0 : Int)) [(Prod.mk 900 (AObj.cells [(Go.Value.int Go.IntKind.i64 (x))] 3 false 1)), (Prod.mk 901 (AObj.cells [(Go.Value.int Go.IntKind.i64 (lo))] 3 false 1)), (Prod.mk 902 (AObj.cells [(Go.Value.int Go.IntKind.i64 (hi))] 3 false 1))]))) := by kernel_rfl
def lm2 (cap : Nat) (lo hi x y : Int) (K : Value → Blocks → Prop) : Prop := wpFn Try.prog (fun _ _ _ _ _ => False) (fun _ _ _ => False) 6 87 #[.slice (some ⟨900, 0, none⟩) 2 cap, .pointer (some ⟨901, 0, none⟩), .pointer (some ⟨902, 0, none⟩)] (heapOf [(900, .cells [.int .i64 x, .int .i64 y] 3 false 1), (901, .cells [.int .i64 lo] 3 false 1), (902, .cells [.int .i64 hi] 3 false 1)]) (stateK K)
theorem lm2_text (cap : Nat) (lo : Int) (hi : Int) (x : Int) (y : Int) (K : Go.Value → Blocks → Prop) : lm2 cap lo hi x y K =
 (bcase (decide (x < lo))
 (K (Go.Value.int Go.IntKind.i64 (2 : Int)) [(Prod.mk 900 (AObj.cells [(Go.Value.int Go.IntKind.i64 (x)), (Go.Value.int Go.IntKind.i64 (y))] 3 false 1)), (Prod.mk 901 (AObj.cells [(Go.Value.int Go.IntKind.i64 (lo))] 3 false 1)), (Prod.mk 902 (AObj.cells [(Go.Value.int Go.IntKind.i64 (hi))] 3 false 1))])
 (bcase (decide (x > hi))
 (K (Go.Value.int Go.IntKind.i64 (2 : Int)) [(Prod.mk 900 (AObj.cells [(Go.Value.int Go.IntKind.i64 (x)), (Go.Value.int Go.IntKind.i64 (y))] 3 false 1)), (Prod.mk 901 (AObj.cells [(Go.Value.int Go.IntKind.i64 (lo))] 3 false 1)), (Prod.mk 902 (AObj.cells [(Go.Value.int Go.IntKind.i64 (hi))] 3 false 1))])
 (bcase (decide (y < lo))
 (K (Go.Value.int Go.IntKind.i64 (2 : Int)) [(Prod.mk 900 (AObj.cells [(Go.Value.int Go.IntKind.i64 (x)), (Go.Value.int Go.IntKind.i64 (y))] 3 false 1)), (Prod.mk 901 (AObj.cells [(Go.Value.int Go.IntKind.i64 (lo))] 3 false 1)), (Prod.mk 902 (AObj.cells [(Go.Value.int Go.IntKind.i64 (hi))] 3 false 1))])
 (bcase (decide (y > hi))
 (K (Go.Value.int Go.IntKind.i64 (2 : Int)) [(Prod.mk 900 (AObj.cells [(Go.Value.int Go.IntKind.i64 (x)), (Go.Value.int Go.IntKind.i64 (y))] 3 false 1)), (Prod.mk 901 (AObj.cells [(Go.Value.int Go.IntKind.i64 (lo))] 3 false 1)), (Prod.mk 902 (AObj.cells [(Go.Value.int Go.IntKind.i64 (hi))] 3 false 1))])
 (K (Go.Value.int Go.IntKind.i64 (0 : Int)) [(Prod.mk 900 (AObj.cells [(Go.Value.int Go.IntKind.i64 (x)), (Go.Value.int Go.IntKind.i64 (y))] 3 false 1)), (Prod.mk 901 (AObj.cells [(Go.Value.int Go.IntKind.i64 (lo))] 3 false 1)), (Prod.mk 902 (AObj.cells [(Go.Value.int Go.IntKind.i64 (hi))] 3 false 1))]))))) := by kernel_rfl
def lm3 (cap : Nat) (lo hi x y z : Int) (K : Value → Blocks → Prop) : Prop := wpFn Try.prog (fun _ _ _ _ _ => False) (fun _ _ _ => False) 6 87 #[.slice (some ⟨900, 0, none⟩) 3 cap, .pointer (some ⟨901, 0, none⟩), .pointer (some ⟨902, 0, none⟩)] (heapOf [(900, .cells [.int .i64 x, .int .i64 y, .int .i64 z] 3 false 1), (901, .cells [.int .i64 lo] 3 false 1), (902, .cells [.int .i64 hi] 3 false 1)]) (stateK K)
theorem lm3_text (cap : Nat) (lo : Int) (hi : Int) (x : Int) (y : Int) (z : Int) (K : Go.Value → Blocks → Prop) : lm3 cap lo hi x y z K =
 (bcase (decide (x < lo))
 (K (Go.Value.int Go.IntKind.i64 (2 : Int)) [(Prod.mk 900 (AObj.cells [(Go.Value.int Go.IntKind.i64 (x)), (Go.Value.int Go.IntKind.i64 (y)), (Go.Value.int Go.IntKind.i64 (z))] 3 false 1)), (Prod.mk 901 (AObj.cells [(Go.Value.int Go.IntKind.i64 (lo))] 3 false 1)), (Prod.mk 902 (AObj.cells [(Go.Value.int Go.IntKind.i64 (hi))] 3 false 1))])
 (bcase (decide (x > hi))
 (K (Go.Value.int Go.IntKind.i64 (2 : Int)) [(Prod.mk 900 (AObj.cells [(Go.Value.int Go.IntKind.i64 (x)), (Go.Value.int Go.IntKind.i64 (y)), (Go.Value.int Go.IntKind.i64 (z))] 3 false 1)), (Prod.mk 901 (AObj.cells [(Go.Value.int Go.IntKind.i64 (lo))] 3 false 1)), (Prod.mk 902 (AObj.cells [(Go.Value.int Go.IntKind.i64 (hi))] 3 false 1))])
 (bcase (decide (y < lo))
 (K (Go.Value.int Go.IntKind.i64 (2 : Int)) [(Prod.mk 900 (AObj.cells [(Go.Value.int Go.IntKind.i64 (x)), (Go.Value.int Go.IntKind.i64 (y)), (Go.Value.int Go.IntKind.i64 (z))] 3 false 1)), (Prod.mk 901 (AObj.cells [(Go.Value.int Go.IntKind.i64 (lo))] 3 false 1)), (Prod.mk 902 (AObj.cells [(Go.Value.int Go.IntKind.i64 (hi))] 3 false 1))])
 (bcase (decide (y > hi))
 (K (Go.Value.int Go.IntKind.i64 (2 : Int)) [(Prod.mk 900 (AObj.cells [(Go.Value.int Go.IntKind.i64 (x)), (Go.Value.int Go.IntKind.i64 (y)), (Go.Value.int Go.IntKind.i64 (z))] 3 false 1)), (Prod.mk 901 (AObj.cells [(Go.Value.int Go.IntKind.i64 (lo))] 3 false 1)), (Prod.mk 902 (AObj.cells [(Go.Value.int Go.IntKind.i64 (hi))] 3 false 1))])
 (bcase (decide (z < lo))
 (K (Go.Value.int Go.IntKind.i64 (2 : Int)) [(Prod.mk 900 (AObj.cells [(Go.Value.int Go.IntKind.i64 (x)), (Go.Value.int Go.IntKind.i64 (y)), (Go.Value.int Go.IntKind.i64 (z))] 3 false 1)), (Prod.mk 901 (AObj.cells [(Go.Value.int Go.IntKind.i64 (lo))] 3 false 1)), (Prod.mk 902 (AObj.cells [(Go.Value.int Go.IntKind.i64 (hi))] 3 false 1))])
 (bcase (decide (z > hi))
 (K (Go.Value.int Go.IntKind.i64 (2 : Int)) [(Prod.mk 900 (AObj.cells [(Go.Value.int Go.IntKind.i64 (x)), (Go.Value.int Go.IntKind.i64 (y)), (Go.Value.int Go.IntKind.i64 (z))] 3 false 1)), (Prod.mk 901 (AObj.cells [(Go.Value.int Go.IntKind.i64 (lo))] 3 false 1)), (Prod.mk 902 (AObj.cells [(Go.Value.int Go.IntKind.i64 (hi))] 3 false 1))])
 (K (Go.Value.int Go.IntKind.i64 (0 : Int)) [(Prod.mk 900 (AObj.cells [(Go.Value.int Go.IntKind.i64 (x)), (Go.Value.int Go.IntKind.i64 (y)), (Go.Value.int Go.IntKind.i64 (z))] 3 false 1)), (Prod.mk 901 (AObj.cells [(Go.Value.int Go.IntKind.i64 (lo))] 3 false 1)), (Prod.mk 902 (AObj.cells [(Go.Value.int Go.IntKind.i64 (hi))] 3 false 1))]))))))) := by kernel_rfl
def lm4 (cap : Nat) (lo hi x y z u : Int) (K : Value → Blocks → Prop) : Prop := wpFn Try.prog (fun _ _ _ _ _ => False) (fun _ _ _ => False) 6 87 #[.slice (some ⟨900, 0, none⟩) 4 cap, .pointer (some ⟨901, 0, none⟩), .pointer (some ⟨902, 0, none⟩)] (heapOf [(900, .cells [.int .i64 x, .int .i64 y, .int .i64 z, .int .i64 u] 3 false 1), (901, .cells [.int .i64 lo] 3 false 1), (902, .cells [.int .i64 hi] 3 false 1)]) (stateK K)
theorem lm4_text (cap : Nat) (lo : Int) (hi : Int) (x : Int) (y : Int) (z : Int) (u : Int) (K : Go.Value → Blocks → Prop) : lm4 cap lo hi x y z u K =
 (bcase (decide (x < lo))
 (K (Go.Value.int Go.IntKind.i64 (2 : Int)) [(Prod.mk 900 (AObj.cells [(Go.Value.int Go.IntKind.i64 (x)), (Go.Value.int Go.IntKind.i64 (y)), (Go.Value.int Go.IntKind.i64 (z)), (Go.Value.int Go.IntKind.i64 (u))] 3 false 1)), (Prod.mk 901 (AObj.cells [(Go.Value.int Go.IntKind.i64 (lo))] 3 false 1)), (Prod.mk 902 (AObj.cells [(Go.Value.int Go.IntKind.i64 (hi))] 3 false 1))])
 (bcase (decide (x > hi))
 (K (Go.Value.int Go.IntKind.i64 (2 : Int)) [(Prod.mk 900 (AObj.cells [(Go.Value.int Go.IntKind.i64 (x)), (Go.Value.int Go.IntKind.i64 (y)), (Go.Value.int Go.IntKind.i64 (z)), (Go.Value.int Go.IntKind.i64 (u))] 3 false 1)), (Prod.mk 901 (AObj.cells [(Go.Value.int Go.IntKind.i64 (lo))] 3 false 1)), (Prod.mk 902 (AObj.cells [(Go.Value.int Go.IntKind.i64 (hi))] 3 false 1))])
 (bcase (decide (y < lo))
 (K (Go.Value.int Go.IntKind.i64 (2 : Int)) [(Prod.mk 900 (AObj.cells [(Go.Value.int Go.IntKind.i64 (x)), (Go.Value.int Go.IntKind.i64 (y)), (Go.Value.int Go.IntKind.i64 (z)), (Go.Value.int Go.IntKind.i64 (u))] 3 false 1)), (Prod.mk 901 (AObj.cells [(Go.Value.int Go.IntKind.i64 (lo))] 3 false 1)), (Prod.mk 902 (AObj.cells [(Go.Value.int Go.IntKind.i64 (hi))] 3 false 1))])
 (bcase (decide (y > hi))
 (K (Go.Value.int Go.IntKind.i64 (2 : Int)) [(Prod.mk 900 (AObj.cells [(Go.Value.int Go.IntKind.i64 (x)), (Go.Value.int Go.IntKind.i64 (y)), (Go.Value.int Go.IntKind.i64 (z)), (Go.Value.int Go.IntKind.i64 (u))] 3 false 1)), (Prod.mk 901 (AObj.cells [(Go.Value.int Go.IntKind.i64 (lo))] 3 false 1)), (Prod.mk 902 (AObj.cells [(Go.Value.int Go.IntKind.i64 (hi))] 3 false 1))])
 (bcase (decide (z < lo))
 (K (Go.Value.int Go.IntKind.i64 (2 : Int)) [(Prod.mk 900 (AObj.cells [(Go.Value.int Go.IntKind.i64 (x)), (Go.Value.int Go.IntKind.i64 (y)), (Go.Value.int Go.IntKind.i64 (z)), (Go.Value.int Go.IntKind.i64 (u))] 3 false 1)), (Prod.mk 901 (AObj.cells [(Go.Value.int Go.IntKind.i64 (lo))] 3 false 1)), (Prod.mk 902 (AObj.cells [(Go.Value.int Go.IntKind.i64 (hi))] 3 false 1))])
 (bcase (decide (z > hi))
 (K (Go.Value.int Go.IntKind.i64 (2 : Int)) [(Prod.mk 900 (AObj.cells [(Go.Value.int Go.IntKind.i64 (x)), (Go.Value.int Go.IntKind.i64 (y)), (Go.Value.int Go.IntKind.i64 (z)), (Go.Value.int Go.IntKind.i64 (u))] 3 false 1)), (Prod.mk 901 (AObj.cells [(Go.Value.int Go.IntKind.i64 (lo))] 3 false 1)), (Prod.mk 902 (AObj.cells [(Go.Value.int Go.IntKind.i64 (hi))] 3 false 1))])
 (bcase (decide (u < lo))
 (K (Go.Value.int Go.IntKind.i64 (2 : Int)) [(Prod.mk 900 (AObj.cells [(Go.Value.int Go.IntKind.i64 (x)), (Go.Value.int Go.IntKind.i64 (y)), (Go.Value.int Go.IntKind.i64 (z)), (Go.Value.int Go.IntKind.i64 (u))] 3 false 1)), (Prod.mk 901 (AObj.cells [(Go.Value.int Go.IntKind.i64 (lo))] 3 false 1)), (Prod.mk 902 (AObj.cells [(Go.Value.int Go.IntKind.i64 (hi))] 3 false 1))])
 (bcase (decide (u > hi))
 (K (Go.Value.int Go.IntKind.i64 (2 : Int)) [(Prod.mk 900 (AObj.cells [(Go.Value.int Go.IntKind.i64 (x)), (Go.Value.int Go.IntKind.i64 (y)), (Go.Value.int Go.IntKind.i64 (z)), (Go.Value.int Go.IntKind.i64 (u))] 3 false 1)), (Prod.mk 901 (AObj.cells [(Go.Value.int Go.IntKind.i64 (lo))] 3 false 1)), (Prod.mk 902 (AObj.cells [(Go.Value.int Go.IntKind.i64 (hi))] 3 false 1))])
 (K (Go.Value.int Go.IntKind.i64 (0 : Int)) [(Prod.mk 900 (AObj.cells [(Go.Value.int Go.IntKind.i64 (x)), (Go.Value.int Go.IntKind.i64 (y)), (Go.Value.int Go.IntKind.i64 (z)), (Go.Value.int Go.IntKind.i64 (u))] 3 false 1)), (Prod.mk 901 (AObj.cells [(Go.Value.int Go.IntKind.i64 (lo))] 3 false 1)), (Prod.mk 902 (AObj.cells [(Go.Value.int Go.IntKind.i64 (hi))] 3 false 1))]))))))))) := by kernel_rfl
end Go.Proofs.M4
