/- What is left to show of each function, written out; the kernel reckons it. -/
import Derived.Test.YtiahlinolhpecaaAbsLoop
import Derived.Test.YtiahlinolhpecaaProg
import Derived.KernelRfl
namespace Go.Proofs
open Go Go.Abs
set_option maxRecDepth 100000
set_option linter.unusedVariables false
abbrev Ct := FuncId → List D → List D → Prop
abbrev hB (C : Ct) : Handler := handlerN Try.prog C (fun g => [14, 37, 62, 61, 64, 65, 66, 71].contains g) 4 5
abbrev A500 (ps : List Value) : Nat × AObj := (500, .sym ps false 1)
abbrev S500 (n cap : Nat) : Value := .slice (some ⟨500, 0, none⟩) n cap
def g37 (C : Ct) (L : AtLoop) (n cap : Nat) (ps : List Value) (k : List D → Prop) : Prop := wpFn Try.prog (hB C) L 0 37 #[S500 n cap] (heapOf [A500 ps]) (dataK k)
theorem g37_text (C : Ct) (L : AtLoop) (n : Nat) (cap : Nat) (ps : List Go.Value) (k : List D → Prop) : g37 C L n cap ps k =
 (bcase (decide (0 + n * 1 ≤ List.length ps))
 (bcase (n == 0)
 (((0 = 0) ∧
 (0 = 0)) ∧
 (k [(D.sl 0 1 [])]))
 (bcase (decide (0 < 0 + n))
 (bcase (decide ((2 * (0 + n) + 768) * 8 ≤ 281474976710656))
 (bcase (decide (0 + n ≤ 1099511627776))
 ((((0 + n) = (0 + n)) ∧
 ((List.length (List.take 0 (List.drop 0 (Array.toList (Go.Builtin.zeroCells (Go.Value.cells (Go.Value.int Go.IntKind.i64 0)) 0))) ++ List.take (n * 1) (List.drop 0 ps))) = ((0 + n) * 1))) ∧
 (k [(D.sl (0 + n) 1 (List.take 0 (List.drop 0 (Array.toList (Go.Builtin.zeroCells (Go.Value.cells (Go.Value.int Go.IntKind.i64 0)) 0))) ++ List.take (n * 1) (List.drop 0 ps)))]))
 False)
 False)
 False))
 False) := by kernel_rfl
def g62 (C : Ct) (L : AtLoop) (n cap : Nat) (ps : List Value) (beat : Int) (k : List D → Prop) : Prop := wpFn Try.prog (hB C) L 0 62 #[.agg #[S500 n cap, .int .i64 beat]] (heapOf [A500 ps]) (dataK k)
theorem g62_text (C : Ct) (L : AtLoop) (n : Nat) (cap : Nat) (ps : List Go.Value) (beat : Int) (k : List D → Prop) : g62 C L n cap ps beat k =
 ((((Go.Value.int Go.IntKind.i64 (beat)) = (Go.Value.int Go.IntKind.i64 (beat))) ∧
 (((Go.Value.pointer (Option.some (Go.Addr.mk 1000 1 Option.none))) = (Go.Value.pointer (Option.some (Go.Addr.mk 1000 1 Option.none)))) ∧
 (((Go.Value.slice (Option.some (Go.Addr.mk 500 0 Option.none)) (n) (cap)) = (Go.Value.slice (Option.some (Go.Addr.mk 500 0 Option.none)) (n) (cap))) ∧
 (((Go.Value.pointer (Option.some (Go.Addr.mk 1000 0 Option.none))) = (Go.Value.pointer (Option.some (Go.Addr.mk 1000 0 Option.none)))) ∧
 True)))) ∧
 (bcase (decide (0 + n * 1 ≤ List.length ps))
 (((Says C 37 [(D.sl (n) 1 (List.take (n * 1) (List.drop 0 ps)))] [D.nil]) ∧
 ((((Go.Value.agg [(Go.Value.slice Option.none 0 0), (Go.Value.int Go.IntKind.i64 (beat))].toArray) = (Go.Value.agg [(Go.Value.slice Option.none 0 0), (Go.Value.int Go.IntKind.i64 (beat))].toArray)) ∧
 (((Go.Value.int Go.IntKind.i64 (beat)) = (Go.Value.int Go.IntKind.i64 (beat))) ∧
 (((Go.Value.pointer (Option.some (Go.Addr.mk 1000 1 Option.none))) = (Go.Value.pointer (Option.some (Go.Addr.mk 1000 1 Option.none)))) ∧
 (((Go.Value.pointer (Option.some (Go.Addr.mk 1000 0 Option.none))) = (Go.Value.pointer (Option.some (Go.Addr.mk 1000 0 Option.none)))) ∧
 True)))) ∧
 (True ∧
 (k [(D.agg [D.nil, (D.val (Go.Value.int Go.IntKind.i64 (beat)))])])))) ∨
 (∃ n1 : Nat,
 (∃ cs1 : List Go.Value,
 ((Says C 37 [(D.sl (n) 1 (List.take (n * 1) (List.drop 0 ps)))] [(D.sl (n1) 1 (cs1))]) ∧
 ((((Go.Value.agg [(Go.Value.slice (Option.some (Go.Addr.mk 1002 0 Option.none)) (n1) (n1)), (Go.Value.int Go.IntKind.i64 (beat))].toArray) = (Go.Value.agg [(Go.Value.slice (Option.some (Go.Addr.mk 1002 0 Option.none)) (n1) (n1)), (Go.Value.int Go.IntKind.i64 (beat))].toArray)) ∧
 (((Go.Value.int Go.IntKind.i64 (beat)) = (Go.Value.int Go.IntKind.i64 (beat))) ∧
 (((Go.Value.pointer (Option.some (Go.Addr.mk 1000 1 Option.none))) = (Go.Value.pointer (Option.some (Go.Addr.mk 1000 1 Option.none)))) ∧
 (((Go.Value.pointer (Option.some (Go.Addr.mk 1000 0 Option.none))) = (Go.Value.pointer (Option.some (Go.Addr.mk 1000 0 Option.none)))) ∧
 True)))) ∧
 (True ∧
 ((((n1) = (n1)) ∧
 ((List.length cs1) = (n1 * 1))) ∧
 (k [(D.agg [(D.sl (n1) 1 (cs1)), (D.val (Go.Value.int Go.IntKind.i64 (beat)))])]))))))))
 False)) := by kernel_rfl
def g61 (C : Ct) (L : AtLoop) (n cap : Nat) (ps : List Value) (beat : Int) (k : List D → Prop) : Prop := wpFn Try.prog (hB C) L 0 61 #[.agg #[S500 n cap, .int .i64 beat]] (heapOf [A500 ps]) (dataK k)
theorem g61_text (C : Ct) (L : AtLoop) (n : Nat) (cap : Nat) (ps : List Go.Value) (beat : Int) (k : List D → Prop) : g61 C L n cap ps beat k =
 (bcase ((↑n : Int) == 0)
 (k [(D.val (Go.Value.int Go.IntKind.i64 (0 : Int))), (D.val (Go.Value.int Go.IntKind.i64 (10 : Int)))])
 (bcase (decide ((↑n : Int) > 5))
 (k [(D.val (Go.Value.int Go.IntKind.i64 (0 : Int))), (D.val (Go.Value.int Go.IntKind.i64 (8 : Int)))])
 (((((Go.Value.slice (Option.some (Go.Addr.mk 1001 0 Option.none)) 1 1) = (Go.Value.slice (Option.some (Go.Addr.mk 1001 0 Option.none)) 1 1)) ∧
 ((Option.some (AObj.cells [(Go.Value.int Go.IntKind.i64 (beat))] 3 false 1)) = (Option.some (AObj.cells [(Go.Value.int Go.IntKind.i64 (beat))] 3 false 1)))) ∧
 (((Go.Value.int Go.IntKind.i64 (beat)) = (Go.Value.int Go.IntKind.i64 (beat))) ∧
 (((Go.Value.pointer (Option.some (Go.Addr.mk 1000 1 Option.none))) = (Go.Value.pointer (Option.some (Go.Addr.mk 1000 1 Option.none)))) ∧
 True))) ∧
 (((((Go.Value.slice (Option.some (Go.Addr.mk 1001 0 Option.none)) 1 1) = (Go.Value.slice (Option.some (Go.Addr.mk 1001 0 Option.none)) 1 1)) ∧
 ((Option.some (AObj.cells [(Go.Value.int Go.IntKind.i64 (beat))] 3 false 1)) = (Option.some (AObj.cells [(Go.Value.int Go.IntKind.i64 (beat))] 3 false 1)))) ∧
 (((Go.Value.int Go.IntKind.i64 (beat)) = (Go.Value.int Go.IntKind.i64 (beat))) ∧
 (((Go.Value.pointer (Option.some (Go.Addr.mk 1000 1 Option.none))) = (Go.Value.pointer (Option.some (Go.Addr.mk 1000 1 Option.none)))) ∧
 True))) ∧
 (bcase (decide (beat < 1))
 ((((Go.Value.int Go.IntKind.i64 (beat)) = (Go.Value.int Go.IntKind.i64 (beat))) ∧
 (((Go.Value.pointer (Option.some (Go.Addr.mk 1000 1 Option.none))) = (Go.Value.pointer (Option.some (Go.Addr.mk 1000 1 Option.none)))) ∧
 True)) ∧
 (True ∧
 (k [(D.val (Go.Value.int Go.IntKind.i64 (0 : Int))), (D.val (Go.Value.int Go.IntKind.i64 (2 : Int)))])))
 (bcase (decide (beat > 1000))
 ((((Go.Value.int Go.IntKind.i64 (beat)) = (Go.Value.int Go.IntKind.i64 (beat))) ∧
 (((Go.Value.pointer (Option.some (Go.Addr.mk 1000 1 Option.none))) = (Go.Value.pointer (Option.some (Go.Addr.mk 1000 1 Option.none)))) ∧
 True)) ∧
 (True ∧
 (k [(D.val (Go.Value.int Go.IntKind.i64 (0 : Int))), (D.val (Go.Value.int Go.IntKind.i64 (2 : Int)))])))
 ((((Go.Value.int Go.IntKind.i64 (beat)) = (Go.Value.int Go.IntKind.i64 (beat))) ∧
 (((Go.Value.pointer (Option.some (Go.Addr.mk 1000 1 Option.none))) = (Go.Value.pointer (Option.some (Go.Addr.mk 1000 1 Option.none)))) ∧
 True)) ∧
 (True ∧
 (L 1 [(Prod.mk 27 (Go.Value.slice (Option.some (Go.Addr.mk 500 0 Option.none)) (n) (cap))), (Prod.mk 28 (Go.Value.int Go.IntKind.i64 ((↑n : Int)))), (Prod.mk 29 (Go.Value.int Go.IntKind.i64 (0 : Int)))] [(Prod.mk 500 (AObj.sym (ps) false 1))]))))))))) := by kernel_rfl
def g66 (C : Ct) (L : AtLoop) (n cap : Nat) (ps : List Value) (beat : Int) (k : List D → Prop) : Prop := wpFn Try.prog (hB C) L 0 66 #[.agg #[S500 n cap, .int .i64 beat]] (heapOf [A500 ps]) (dataK k)
theorem g66_text (C : Ct) (L : AtLoop) (n : Nat) (cap : Nat) (ps : List Go.Value) (beat : Int) (k : List D → Prop) : g66 C L n cap ps beat k =
 (bcase ((↑n : Int) == 0)
 (k [(D.val (Go.Value.int Go.IntKind.i64 (0 : Int))), (D.val (Go.Value.int Go.IntKind.i64 (10 : Int)))])
 (bcase (decide ((↑n : Int) > 5))
 (k [(D.val (Go.Value.int Go.IntKind.i64 (0 : Int))), (D.val (Go.Value.int Go.IntKind.i64 (8 : Int)))])
 (bcase (decide (1 ≤ beat))
 (bcase (decide (beat ≤ 1000))
 (L 0 [(Prod.mk 1 (Go.Value.pointer (Option.some (Go.Addr.mk 1000 0 Option.none)))), (Prod.mk 4 (Go.Value.int Go.IntKind.i64 (0 : Int)))] [(Prod.mk 1000 (AObj.cells [(Go.Value.slice (Option.some (Go.Addr.mk 500 0 Option.none)) (n) (cap)), (Go.Value.int Go.IntKind.i64 (beat))] 107 false 1)), (Prod.mk 500 (AObj.sym (ps) false 1))])
 (k [(D.val (Go.Value.int Go.IntKind.i64 (0 : Int))), (D.val (Go.Value.int Go.IntKind.i64 (2 : Int)))]))
 (k [(D.val (Go.Value.int Go.IntKind.i64 (0 : Int))), (D.val (Go.Value.int Go.IntKind.i64 (2 : Int)))])))) := by kernel_rfl
def g71 (C : Ct) (L : AtLoop) (n cap : Nat) (ps : List Value) (beat : Int) (k : List D → Prop) : Prop := wpFn Try.prog (hB C) L 0 71 #[.agg #[S500 n cap, .int .i64 beat]] (heapOf [A500 ps]) (dataK k)
theorem g71_text (C : Ct) (L : AtLoop) (n : Nat) (cap : Nat) (ps : List Go.Value) (beat : Int) (k : List D → Prop) : g71 C L n cap ps beat k =
 (bcase (decide (0 + n * 1 ≤ List.length ps))
 (∃ n1 : Int,
 (∃ n2 : Int,
 ((Says C 66 [(D.agg [(D.sl (n) 1 (List.take (n * 1) (List.drop 0 ps))), (D.val (Go.Value.int Go.IntKind.i64 (beat)))])] [(D.val (Go.Value.int Go.IntKind.i64 (n1))), (D.val (Go.Value.int Go.IntKind.i64 (n2)))]) ∧
 (k [(D.val (Go.Value.int Go.IntKind.i64 (n2)))]))))
 False) := by kernel_rfl
def g64 (C : Ct) (L : AtLoop) (n cap : Nat) (ps : List Value) (beat ch tk : Int) (k : List D → Prop) : Prop := wpFn Try.prog (hB C) L 0 64 #[.agg #[S500 n cap, .int .i64 beat], .int .i64 ch, .int .i64 tk] (heapOf [A500 ps]) (dataK k)
theorem g64_text (C : Ct) (L : AtLoop) (n : Nat) (cap : Nat) (ps : List Go.Value) (beat : Int) (ch : Int) (tk : Int) (k : List D → Prop) : g64 C L n cap ps beat ch tk k =
 (bcase (decide (0 + n * 1 ≤ List.length ps))
 (∃ n1 : Int,
 (∃ n2 : Int,
 ((Says C 61 [(D.agg [(D.sl (n) 1 (List.take (n * 1) (List.drop 0 ps))), (D.val (Go.Value.int Go.IntKind.i64 (beat)))])] [(D.val (Go.Value.int Go.IntKind.i64 (n1))), (D.val (Go.Value.int Go.IntKind.i64 (n2)))]) ∧
 (bcase (decide (ch < 0))
 (bcase (n2 != 0)
 (bcase (n2 != 0)
 (k [(D.val (Go.Value.int Go.IntKind.i64 (0 : Int))), (D.val (Go.Value.int Go.IntKind.i64 (n2)))])
 (bcase (decide (tk < ch))
 (k [(D.val (Go.Value.int Go.IntKind.i64 (0 : Int))), (D.val (Go.Value.int Go.IntKind.i64 (9 : Int)))])
 (bcase (beat != 0)
 (L 0 [(Prod.mk 11 (Go.Value.int Go.IntKind.i64 (Go.IntKind.wrap Go.IntKind.i64 (Int.tdiv (Go.IntKind.wrap Go.IntKind.i64 (tk - ch)) beat)))), (Prod.mk 39 (Go.Value.slice (Option.some (Go.Addr.mk 500 0 Option.none)) (n) (cap))), (Prod.mk 40 (Go.Value.int Go.IntKind.i64 ((↑n : Int)))), (Prod.mk 41 (Go.Value.int Go.IntKind.i64 (0 : Int)))] [(Prod.mk 500 (AObj.sym (ps) false 1))])
 False)))
 (k [(D.val (Go.Value.int Go.IntKind.i64 (0 : Int))), (D.val (Go.Value.int Go.IntKind.i64 (2 : Int)))]))
 (bcase (decide (ch > 1000000000000))
 (bcase (n2 != 0)
 (bcase (n2 != 0)
 (k [(D.val (Go.Value.int Go.IntKind.i64 (0 : Int))), (D.val (Go.Value.int Go.IntKind.i64 (n2)))])
 (bcase (decide (tk < ch))
 (k [(D.val (Go.Value.int Go.IntKind.i64 (0 : Int))), (D.val (Go.Value.int Go.IntKind.i64 (9 : Int)))])
 (bcase (beat != 0)
 (L 0 [(Prod.mk 11 (Go.Value.int Go.IntKind.i64 (Go.IntKind.wrap Go.IntKind.i64 (Int.tdiv (Go.IntKind.wrap Go.IntKind.i64 (tk - ch)) beat)))), (Prod.mk 39 (Go.Value.slice (Option.some (Go.Addr.mk 500 0 Option.none)) (n) (cap))), (Prod.mk 40 (Go.Value.int Go.IntKind.i64 ((↑n : Int)))), (Prod.mk 41 (Go.Value.int Go.IntKind.i64 (0 : Int)))] [(Prod.mk 500 (AObj.sym (ps) false 1))])
 False)))
 (k [(D.val (Go.Value.int Go.IntKind.i64 (0 : Int))), (D.val (Go.Value.int Go.IntKind.i64 (2 : Int)))]))
 (bcase (decide (tk < 0))
 (bcase (n2 != 0)
 (bcase (n2 != 0)
 (k [(D.val (Go.Value.int Go.IntKind.i64 (0 : Int))), (D.val (Go.Value.int Go.IntKind.i64 (n2)))])
 (bcase (decide (tk < ch))
 (k [(D.val (Go.Value.int Go.IntKind.i64 (0 : Int))), (D.val (Go.Value.int Go.IntKind.i64 (9 : Int)))])
 (bcase (beat != 0)
 (L 0 [(Prod.mk 11 (Go.Value.int Go.IntKind.i64 (Go.IntKind.wrap Go.IntKind.i64 (Int.tdiv (Go.IntKind.wrap Go.IntKind.i64 (tk - ch)) beat)))), (Prod.mk 39 (Go.Value.slice (Option.some (Go.Addr.mk 500 0 Option.none)) (n) (cap))), (Prod.mk 40 (Go.Value.int Go.IntKind.i64 ((↑n : Int)))), (Prod.mk 41 (Go.Value.int Go.IntKind.i64 (0 : Int)))] [(Prod.mk 500 (AObj.sym (ps) false 1))])
 False)))
 (k [(D.val (Go.Value.int Go.IntKind.i64 (0 : Int))), (D.val (Go.Value.int Go.IntKind.i64 (2 : Int)))]))
 (bcase (decide (tk > 1000000000000))
 (bcase (n2 != 0)
 (bcase (n2 != 0)
 (k [(D.val (Go.Value.int Go.IntKind.i64 (0 : Int))), (D.val (Go.Value.int Go.IntKind.i64 (n2)))])
 (bcase (decide (tk < ch))
 (k [(D.val (Go.Value.int Go.IntKind.i64 (0 : Int))), (D.val (Go.Value.int Go.IntKind.i64 (9 : Int)))])
 (bcase (beat != 0)
 (L 0 [(Prod.mk 11 (Go.Value.int Go.IntKind.i64 (Go.IntKind.wrap Go.IntKind.i64 (Int.tdiv (Go.IntKind.wrap Go.IntKind.i64 (tk - ch)) beat)))), (Prod.mk 39 (Go.Value.slice (Option.some (Go.Addr.mk 500 0 Option.none)) (n) (cap))), (Prod.mk 40 (Go.Value.int Go.IntKind.i64 ((↑n : Int)))), (Prod.mk 41 (Go.Value.int Go.IntKind.i64 (0 : Int)))] [(Prod.mk 500 (AObj.sym (ps) false 1))])
 False)))
 (k [(D.val (Go.Value.int Go.IntKind.i64 (0 : Int))), (D.val (Go.Value.int Go.IntKind.i64 (2 : Int)))]))
 (bcase (n2 != 0)
 (bcase (n2 != 0)
 (k [(D.val (Go.Value.int Go.IntKind.i64 (0 : Int))), (D.val (Go.Value.int Go.IntKind.i64 (n2)))])
 (bcase (decide (tk < ch))
 (k [(D.val (Go.Value.int Go.IntKind.i64 (0 : Int))), (D.val (Go.Value.int Go.IntKind.i64 (9 : Int)))])
 (bcase (beat != 0)
 (L 0 [(Prod.mk 11 (Go.Value.int Go.IntKind.i64 (Go.IntKind.wrap Go.IntKind.i64 (Int.tdiv (Go.IntKind.wrap Go.IntKind.i64 (tk - ch)) beat)))), (Prod.mk 39 (Go.Value.slice (Option.some (Go.Addr.mk 500 0 Option.none)) (n) (cap))), (Prod.mk 40 (Go.Value.int Go.IntKind.i64 ((↑n : Int)))), (Prod.mk 41 (Go.Value.int Go.IntKind.i64 (0 : Int)))] [(Prod.mk 500 (AObj.sym (ps) false 1))])
 False)))
 (bcase (decide (tk < ch))
 (k [(D.val (Go.Value.int Go.IntKind.i64 (0 : Int))), (D.val (Go.Value.int Go.IntKind.i64 (9 : Int)))])
 (bcase (beat != 0)
 (L 0 [(Prod.mk 11 (Go.Value.int Go.IntKind.i64 (Go.IntKind.wrap Go.IntKind.i64 (Int.tdiv (Go.IntKind.wrap Go.IntKind.i64 (tk - ch)) beat)))), (Prod.mk 39 (Go.Value.slice (Option.some (Go.Addr.mk 500 0 Option.none)) (n) (cap))), (Prod.mk 40 (Go.Value.int Go.IntKind.i64 ((↑n : Int)))), (Prod.mk 41 (Go.Value.int Go.IntKind.i64 (0 : Int)))] [(Prod.mk 500 (AObj.sym (ps) false 1))])
 False))))))))))
 False) := by kernel_rfl
def g65 (C : Ct) (L : AtLoop) (n cap : Nat) (ps : List Value) (beat d : Int) (k : List D → Prop) : Prop := wpFn Try.prog (hB C) L 0 65 #[.agg #[S500 n cap, .int .i64 beat], .int .i64 d] (heapOf [A500 ps]) (dataK k)
theorem g65_text (C : Ct) (L : AtLoop) (n : Nat) (cap : Nat) (ps : List Go.Value) (beat : Int) (d : Int) (k : List D → Prop) : g65 C L n cap ps beat d k =
 (bcase (decide (0 + n * 1 ≤ List.length ps))
 (∃ n1 : Int,
 (∃ n2 : Int,
 ((Says C 61 [(D.agg [(D.sl (n) 1 (List.take (n * 1) (List.drop 0 ps))), (D.val (Go.Value.int Go.IntKind.i64 (beat)))])] [(D.val (Go.Value.int Go.IntKind.i64 (n1))), (D.val (Go.Value.int Go.IntKind.i64 (n2)))]) ∧
 (bcase (decide (d < 0))
 (bcase (n2 != 0)
 (bcase (n2 != 0)
 (k [(D.val (Go.Value.int Go.IntKind.i64 (0 : Int))), (D.val (Go.Value.int Go.IntKind.i64 (n2)))])
 (L 0 [(Prod.mk 2 (Go.Value.pointer (Option.some (Go.Addr.mk 1000 0 Option.none)))), (Prod.mk 9 (Go.Value.int Go.IntKind.i64 (d))), (Prod.mk 28 (Go.Value.slice (Option.some (Go.Addr.mk 500 0 Option.none)) (n) (cap))), (Prod.mk 29 (Go.Value.int Go.IntKind.i64 ((↑n : Int)))), (Prod.mk 30 (Go.Value.int Go.IntKind.i64 (0 : Int)))] [(Prod.mk 1000 (AObj.cells [(Go.Value.slice (Option.some (Go.Addr.mk 500 0 Option.none)) (n) (cap)), (Go.Value.int Go.IntKind.i64 (beat))] 107 false 1)), (Prod.mk 500 (AObj.sym (ps) false 1))]))
 (k [(D.val (Go.Value.int Go.IntKind.i64 (0 : Int))), (D.val (Go.Value.int Go.IntKind.i64 (2 : Int)))]))
 (bcase (decide (d > 1000000000000))
 (bcase (n2 != 0)
 (bcase (n2 != 0)
 (k [(D.val (Go.Value.int Go.IntKind.i64 (0 : Int))), (D.val (Go.Value.int Go.IntKind.i64 (n2)))])
 (L 0 [(Prod.mk 2 (Go.Value.pointer (Option.some (Go.Addr.mk 1000 0 Option.none)))), (Prod.mk 9 (Go.Value.int Go.IntKind.i64 (d))), (Prod.mk 28 (Go.Value.slice (Option.some (Go.Addr.mk 500 0 Option.none)) (n) (cap))), (Prod.mk 29 (Go.Value.int Go.IntKind.i64 ((↑n : Int)))), (Prod.mk 30 (Go.Value.int Go.IntKind.i64 (0 : Int)))] [(Prod.mk 1000 (AObj.cells [(Go.Value.slice (Option.some (Go.Addr.mk 500 0 Option.none)) (n) (cap)), (Go.Value.int Go.IntKind.i64 (beat))] 107 false 1)), (Prod.mk 500 (AObj.sym (ps) false 1))]))
 (k [(D.val (Go.Value.int Go.IntKind.i64 (0 : Int))), (D.val (Go.Value.int Go.IntKind.i64 (2 : Int)))]))
 (bcase (n2 != 0)
 (bcase (n2 != 0)
 (k [(D.val (Go.Value.int Go.IntKind.i64 (0 : Int))), (D.val (Go.Value.int Go.IntKind.i64 (n2)))])
 (L 0 [(Prod.mk 2 (Go.Value.pointer (Option.some (Go.Addr.mk 1000 0 Option.none)))), (Prod.mk 9 (Go.Value.int Go.IntKind.i64 (d))), (Prod.mk 28 (Go.Value.slice (Option.some (Go.Addr.mk 500 0 Option.none)) (n) (cap))), (Prod.mk 29 (Go.Value.int Go.IntKind.i64 ((↑n : Int)))), (Prod.mk 30 (Go.Value.int Go.IntKind.i64 (0 : Int)))] [(Prod.mk 1000 (AObj.cells [(Go.Value.slice (Option.some (Go.Addr.mk 500 0 Option.none)) (n) (cap)), (Go.Value.int Go.IntKind.i64 (beat))] 107 false 1)), (Prod.mk 500 (AObj.sym (ps) false 1))]))
 (L 0 [(Prod.mk 2 (Go.Value.pointer (Option.some (Go.Addr.mk 1000 0 Option.none)))), (Prod.mk 9 (Go.Value.int Go.IntKind.i64 (d))), (Prod.mk 28 (Go.Value.slice (Option.some (Go.Addr.mk 500 0 Option.none)) (n) (cap))), (Prod.mk 29 (Go.Value.int Go.IntKind.i64 ((↑n : Int)))), (Prod.mk 30 (Go.Value.int Go.IntKind.i64 (0 : Int)))] [(Prod.mk 1000 (AObj.cells [(Go.Value.slice (Option.some (Go.Addr.mk 500 0 Option.none)) (n) (cap)), (Go.Value.int Go.IntKind.i64 (beat))] 107 false 1)), (Prod.mk 500 (AObj.sym (ps) false 1))])))))))
 False) := by kernel_rfl
def g11 (C : Ct) (L : AtLoop) (n cap : Nat) (ps : List Value) (beat d after : Int) (k : List D → Prop) : Prop := wpFn Try.prog (hB C) L 0 11 #[.agg #[S500 n cap, .int .i64 beat], .int .i64 d, .int .i64 after] (heapOf [A500 ps]) (dataK k)
abbrev Bx := Slots → Blocks → Prop
abbrev Xx := Nat → Slots → Blocks → Prop
def bxB (n cap : Nat) (ps : List Value) (beat : Int) : Blocks := [(1000, .cells [S500 n cap, .int .i64 beat] 107 false 1), A500 ps]
def s66 (i : Int) : Slots := [(1, .pointer (some ⟨1000, 0, none⟩)), (4, .int .i64 i)]
def r66 (C : Ct) (L : AtLoop) (n cap : Nat) (ps : List Value) (beat i : Int) (B : Bx) (X : Xx) (k : List D → Prop) : Prop := wpRound Try.prog (hB C) L 66 0 (s66 i) (bxB n cap ps beat) B X (dataK k)
theorem r66_text (C : Ct) (L : AtLoop) (n : Nat) (cap : Nat) (ps : List Go.Value) (beat : Int) (i : Int) (B : Bx) (X : Xx) (k : List D → Prop) : r66 C L n cap ps beat i B X k =
 (bcase (decide (i < (↑n : Int)))
 (bcase (decide (0 ≤ i))
 (bcase (decide (i < (↑n : Int)))
 (∃ n1 : Int,
 ((At (ps) (0 + Int.toNat i * 1) 1 [(Go.Value.int Go.IntKind.i64 (n1))]) ∧
 (bcase (decide (1 ≤ n1))
 (bcase (decide (n1 ≤ 200))
 (B [(Prod.mk 1 (Go.Value.pointer (Option.some (Go.Addr.mk 1000 0 Option.none)))), (Prod.mk 4 (Go.Value.int Go.IntKind.i64 (Go.IntKind.wrap Go.IntKind.i64 (i + 1))))] [(Prod.mk 1000 (AObj.cells [(Go.Value.slice (Option.some (Go.Addr.mk 500 0 Option.none)) (n) (cap)), (Go.Value.int Go.IntKind.i64 (beat))] 107 false 1)), (Prod.mk 500 (AObj.sym (ps) false 1))])
 (k [(D.val (Go.Value.int Go.IntKind.i64 (i))), (D.val (Go.Value.int Go.IntKind.i64 (2 : Int)))]))
 (k [(D.val (Go.Value.int Go.IntKind.i64 (i))), (D.val (Go.Value.int Go.IntKind.i64 (2 : Int)))]))))
 False)
 False)
 (X 0 [] [])) := by kernel_rfl
def s61 (n cap : Nat) (i : Int) : Slots := [(27, S500 n cap), (28, .int .i64 n), (29, .int .i64 i)]
def r61 (C : Ct) (L : AtLoop) (n cap : Nat) (ps : List Value) (i : Int) (B : Bx) (X : Xx) (k : List D → Prop) : Prop := wpRound Try.prog (hB C) L 61 1 (s61 n cap i) [A500 ps] B X (dataK k)
theorem r61_text (C : Ct) (L : AtLoop) (n : Nat) (cap : Nat) (ps : List Go.Value) (i : Int) (B : Bx) (X : Xx) (k : List D → Prop) : r61 C L n cap ps i B X k =
 (bcase (decide (i < (↑n : Int)))
 (bcase (decide (0 ≤ i))
 (bcase (decide (i < (↑n : Int)))
 (∃ n1 : Int,
 ((At (ps) (0 + Int.toNat i * 1) 1 [(Go.Value.int Go.IntKind.i64 (n1))]) ∧
 (bcase (decide (n1 < 1))
 (k [(D.val (Go.Value.int Go.IntKind.i64 (i))), (D.val (Go.Value.int Go.IntKind.i64 (2 : Int)))])
 (bcase (decide (n1 > 200))
 (k [(D.val (Go.Value.int Go.IntKind.i64 (i))), (D.val (Go.Value.int Go.IntKind.i64 (2 : Int)))])
 (B [(Prod.mk 27 (Go.Value.slice (Option.some (Go.Addr.mk 500 0 Option.none)) (n) (cap))), (Prod.mk 28 (Go.Value.int Go.IntKind.i64 ((↑n : Int)))), (Prod.mk 29 (Go.Value.int Go.IntKind.i64 (Go.IntKind.wrap Go.IntKind.i64 (i + 1))))] [(Prod.mk 500 (AObj.sym (ps) false 1))])))))
 False)
 False)
 (X 1 [] [])) := by kernel_rfl
def s64 (n cap : Nat) (pos i : Int) : Slots := [(11, .int .i64 pos), (39, S500 n cap), (40, .int .i64 n), (41, .int .i64 i)]
def r64 (C : Ct) (L : AtLoop) (n cap : Nat) (ps : List Value) (pos i : Int) (B : Bx) (X : Xx) (k : List D → Prop) : Prop := wpRound Try.prog (hB C) L 64 0 (s64 n cap pos i) [A500 ps] B X (dataK k)
theorem r64_text (C : Ct) (L : AtLoop) (n : Nat) (cap : Nat) (ps : List Go.Value) (pos : Int) (i : Int) (B : Bx) (X : Xx) (k : List D → Prop) : r64 C L n cap ps pos i B X k =
 (bcase (decide (i < (↑n : Int)))
 (bcase (decide (0 ≤ i))
 (bcase (decide (i < (↑n : Int)))
 (∃ n1 : Int,
 ((At (ps) (0 + Int.toNat i * 1) 1 [(Go.Value.int Go.IntKind.i64 (n1))]) ∧
 (bcase (decide (pos < n1))
 (k [(D.val (Go.Value.int Go.IntKind.i64 (i))), (D.val (Go.Value.int Go.IntKind.i64 (0 : Int)))])
 (B [(Prod.mk 11 (Go.Value.int Go.IntKind.i64 (Go.IntKind.wrap Go.IntKind.i64 (pos - n1)))), (Prod.mk 39 (Go.Value.slice (Option.some (Go.Addr.mk 500 0 Option.none)) (n) (cap))), (Prod.mk 40 (Go.Value.int Go.IntKind.i64 ((↑n : Int)))), (Prod.mk 41 (Go.Value.int Go.IntKind.i64 (Go.IntKind.wrap Go.IntKind.i64 (i + 1))))] [(Prod.mk 500 (AObj.sym (ps) false 1))]))))
 False)
 False)
 (X 0 [] [])) := by kernel_rfl
def s65 (n cap : Nat) (c i : Int) : Slots := [(2, .pointer (some ⟨1000, 0, none⟩)), (9, .int .i64 c), (28, S500 n cap), (29, .int .i64 n), (30, .int .i64 i)]
def r65 (C : Ct) (L : AtLoop) (n cap : Nat) (ps : List Value) (beat c i : Int) (B : Bx) (X : Xx) (k : List D → Prop) : Prop := wpRound Try.prog (hB C) L 65 0 (s65 n cap c i) (bxB n cap ps beat) B X (dataK k)
theorem r65_text (C : Ct) (L : AtLoop) (n : Nat) (cap : Nat) (ps : List Go.Value) (beat : Int) (c : Int) (i : Int) (B : Bx) (X : Xx) (k : List D → Prop) : r65 C L n cap ps beat c i B X k =
 (bcase (decide (i < (↑n : Int)))
 (bcase (decide (0 ≤ i))
 (bcase (decide (i < (↑n : Int)))
 (∃ n1 : Int,
 ((At (ps) (0 + Int.toNat i * 1) 1 [(Go.Value.int Go.IntKind.i64 (n1))]) ∧
 (B [(Prod.mk 2 (Go.Value.pointer (Option.some (Go.Addr.mk 1000 0 Option.none)))), (Prod.mk 9 (Go.Value.int Go.IntKind.i64 (Go.IntKind.wrap Go.IntKind.i64 (c - Go.IntKind.wrap Go.IntKind.i64 (n1 * beat))))), (Prod.mk 28 (Go.Value.slice (Option.some (Go.Addr.mk 500 0 Option.none)) (n) (cap))), (Prod.mk 29 (Go.Value.int Go.IntKind.i64 ((↑n : Int)))), (Prod.mk 30 (Go.Value.int Go.IntKind.i64 (Go.IntKind.wrap Go.IntKind.i64 (i + 1))))] [(Prod.mk 1000 (AObj.cells [(Go.Value.slice (Option.some (Go.Addr.mk 500 0 Option.none)) (n) (cap)), (Go.Value.int Go.IntKind.i64 (beat))] 107 false 1)), (Prod.mk 500 (AObj.sym (ps) false 1))])))
 False)
 False)
 (X 0 [(Prod.mk 9 (Go.Value.int Go.IntKind.i64 (c)))] [])) := by kernel_rfl
def n65 (C : Ct) (L : AtLoop) (c : Int) (k : List D → Prop) : Prop := wpNext Try.prog (hB C) L 65 0 .normal [(9, .int .i64 c)] [] (dataK k)
theorem n65_text (C : Ct) (L : AtLoop) (c : Int) (k : List D → Prop) : n65 C L c k =
 (bcase (decide (c < 0))
 (k [(D.val (Go.Value.int Go.IntKind.i64 (0 : Int))), (D.val (Go.Value.int Go.IntKind.i64 (12 : Int)))])
 (k [(D.val (Go.Value.int Go.IntKind.i64 (c))), (D.val (Go.Value.int Go.IntKind.i64 (0 : Int)))])) := by kernel_rfl
def n66 (C : Ct) (L : AtLoop) (k : List D → Prop) : Prop := wpNext Try.prog (hB C) L 66 0 .normal [] [] (dataK k)
theorem n66_text (C : Ct) (L : AtLoop) (k : List D → Prop) : n66 C L k =
 (k [(D.val (Go.Value.int Go.IntKind.i64 (0 : Int))), (D.val (Go.Value.int Go.IntKind.i64 (0 : Int)))]) := by kernel_rfl
def n61 (C : Ct) (L : AtLoop) (k : List D → Prop) : Prop := wpNext Try.prog (hB C) L 61 1 .normal [] [] (dataK k)
theorem n61_text (C : Ct) (L : AtLoop) (k : List D → Prop) : n61 C L k =
 (k [(D.val (Go.Value.int Go.IntKind.i64 (0 : Int))), (D.val (Go.Value.int Go.IntKind.i64 (0 : Int)))]) := by kernel_rfl
def n64 (C : Ct) (L : AtLoop) (k : List D → Prop) : Prop := wpNext Try.prog (hB C) L 64 0 .normal [] [] (dataK k)
theorem n64_text (C : Ct) (L : AtLoop) (k : List D → Prop) : n64 C L k =
 (k [(D.val (Go.Value.int Go.IntKind.i64 (0 : Int))), (D.val (Go.Value.int Go.IntKind.i64 (12 : Int)))]) := by kernel_rfl
end Go.Proofs
