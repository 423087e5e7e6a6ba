/- What is left to show of each function, written out; the kernel reckons it. -/
import Derived.Test.YtiahlinolhpecaaAbsSame
import Derived.Test.YtiahlinolhpecaaF2T
namespace Go.Proofs
open Go Go.Abs
set_option maxRecDepth 100000
set_option linter.unusedVariables false
abbrev hT (C : Ct) : Handler := handlerN Try.prog C (fun g => [14, 16, 17, 18, 19, 21, 88, 89, 91, 92].contains g) 4 5
abbrev hTS (C : Ct) : Handler := handlerS C (fun g => g == 17) (hT C)
abbrev B500 (ps : List Value) : Nat × AObj := (500, .sym ps false 2)
def gT (C : Ct) (L : AtLoop) (n cap : Nat) (ps : List Value) (tm : Int) (k : List D → Prop) : Prop := wpFn Try.prog (hTS C) L 0 0 #[.agg #[S500 n cap], .int .i64 tm] (heapOf [B500 ps]) (dataK k)
def g17 (C : Ct) (L : AtLoop) (n cap : Nat) (ps : List Value) (k : List D → Prop) : Prop := wpFn Try.prog (hT C) L 0 17 #[.agg #[S500 n cap]] (heapOf [B500 ps]) (dataK k)
theorem g17_text (C : Ct) (L : AtLoop) (n : Nat) (cap : Nat) (ps : List Go.Value) (k : List D → Prop) : g17 C L n cap ps k =
 (bcase (decide (0 + n * 2 ≤ List.length ps))
 (bcase (n == 0)
 (((0 = 0) ∧
 (0 = 0)) ∧
 (k [(D.agg [(D.sl 0 2 [])])]))
 (bcase (decide (0 < 0 + n))
 (bcase (decide ((2 * (0 + n) + 768) * 16 ≤ 281474976710656))
 (bcase (decide (0 + n ≤ 1099511627776))
 ((((0 + n) = (0 + n)) ∧
 ((List.length (List.take 0 (List.drop 0 []) ++ List.take (n * 2) (List.drop 0 ps))) = ((0 + n) * 2))) ∧
 (k [(D.agg [(D.sl (0 + n) 2 (List.take 0 (List.drop 0 []) ++ List.take (n * 2) (List.drop 0 ps)))])]))
 False)
 False)
 False))
 False) := by kernel_rfl
def g17n (C : Ct) (L : AtLoop) (k : List D → Prop) : Prop := wpFn Try.prog (hT C) L 0 17 #[.agg #[.slice none 0 0]] (heapOf []) (dataK k)
theorem g17n_text (C : Ct) (L : AtLoop) (k : List D → Prop) : g17n C L k =
 (((0 = 0) ∧
 (0 = 0)) ∧
 (k [(D.agg [(D.sl 0 2 [])])])) := by kernel_rfl
def g3 (C : Ct) (L : AtLoop) (n cap : Nat) (ps : List Value) (tm : Int) (k : List D → Prop) : Prop := wpFn Try.prog (hTS C) L 0 3 #[.agg #[S500 n cap], .int .i64 tm] (heapOf [B500 ps]) (dataK k)
theorem g3_text (C : Ct) (L : AtLoop) (n : Nat) (cap : Nat) (ps : List Go.Value) (tm : Int) (k : List D → Prop) : g3 C L n cap ps tm k =
 (((Says C 14 [] [(D.val (Go.Value.bool true))]) ∧
 (bcase (decide ((↑n : Int) ≤ 12))
 (bcase (decide (0 + n * 2 ≤ List.length ps))
 ((Says C 17 [(D.agg [(D.sl (n) 2 (List.take (n * 2) (List.drop 0 ps)))])] [(D.agg [(D.sl (n) 2 (List.take (n * 2) (List.drop 0 ps)))])]) ∧
 (bcase (decide (0 + n * 2 ≤ List.length (List.take (n * 2) (List.drop 0 ps))))
 (∃ n1 : Int,
 (∃ n2 : Int,
 ((Says C 16 [(D.agg [(D.sl (n) 2 (List.take (n * 2) (List.drop 0 (List.take (n * 2) (List.drop 0 ps)))))])] [(D.val (Go.Value.int Go.IntKind.i64 (n1))), (D.val (Go.Value.int Go.IntKind.i64 (n2)))]) ∧
 (bcase (decide (0 + n * 2 ≤ List.length ps))
 ((Says C 17 [(D.agg [(D.sl (n) 2 (List.take (n * 2) (List.drop 0 ps)))])] [(D.agg [(D.sl (n) 2 (List.take (n * 2) (List.drop 0 ps)))])]) ∧
 (bcase (decide (0 + n * 2 ≤ List.length (List.take (n * 2) (List.drop 0 ps))))
 (∃ n3 : Int,
 (∃ n4 : Int,
 ((Says C 18 [(D.agg [(D.sl (n) 2 (List.take (n * 2) (List.drop 0 (List.take (n * 2) (List.drop 0 ps)))))]), (D.val (Go.Value.int Go.IntKind.i64 (tm)))] [(D.val (Go.Value.int Go.IntKind.i64 (n3))), (D.val (Go.Value.int Go.IntKind.i64 (n4)))]) ∧
 (bcase (decide (0 + n * 2 ≤ List.length ps))
 (∃ n5 : Int,
 (∃ n6 : Int,
 ((Says C 19 [(D.agg [(D.sl (n) 2 (List.take (n * 2) (List.drop 0 ps)))])] [(D.val (Go.Value.int Go.IntKind.i64 (n5))), (D.val (Go.Value.int Go.IntKind.i64 (n6)))]) ∧
 (bcase (n2 != n6)
 (k [(D.val (Go.Value.bool false))])
 (bcase (n1 != n5)
 (k [(D.val (Go.Value.bool false))])
 (bcase (n6 == 0)
 (bcase (decide (0 ≤ tm))
 (bcase (decide (tm ≤ 20000))
 (bcase (n4 == 0)
 (bcase (decide (0 + n * 2 ≤ List.length ps))
 (∃ n7 : Int,
 ((Says C 21 [(D.agg [(D.sl (n) 2 (List.take (n * 2) (List.drop 0 ps)))]), (D.val (Go.Value.int Go.IntKind.i64 (tm)))] [(D.val (Go.Value.int Go.IntKind.i64 (n7)))]) ∧
 (bcase (n3 == n7)
 (k [(D.val (Go.Value.bool true))])
 (k [(D.val (Go.Value.bool false))]))))
 False)
 (k [(D.val (Go.Value.bool false))]))
 (bcase (n4 == 2)
 (bcase (n3 == 0)
 (k [(D.val (Go.Value.bool true))])
 (k [(D.val (Go.Value.bool false))]))
 (k [(D.val (Go.Value.bool false))])))
 (bcase (n4 == 2)
 (bcase (n3 == 0)
 (k [(D.val (Go.Value.bool true))])
 (k [(D.val (Go.Value.bool false))]))
 (k [(D.val (Go.Value.bool false))])))
 (bcase (n6 != 0)
 (bcase (n4 == n6)
 (bcase (n3 == 0)
 (k [(D.val (Go.Value.bool true))])
 (k [(D.val (Go.Value.bool false))]))
 (k [(D.val (Go.Value.bool false))]))
 (bcase (n4 == 0)
 (bcase (decide (0 + n * 2 ≤ List.length ps))
 (∃ n7 : Int,
 ((Says C 21 [(D.agg [(D.sl (n) 2 (List.take (n * 2) (List.drop 0 ps)))]), (D.val (Go.Value.int Go.IntKind.i64 (tm)))] [(D.val (Go.Value.int Go.IntKind.i64 (n7)))]) ∧
 (bcase (n3 == n7)
 (k [(D.val (Go.Value.bool true))])
 (k [(D.val (Go.Value.bool false))]))))
 False)
 (k [(D.val (Go.Value.bool false))])))))))))
 False))))
 False))
 False))))
 False))
 False)
 (k [(D.val (Go.Value.bool true))]))) ∨
 ((Says C 14 [] [(D.val (Go.Value.bool false))]) ∧
 (k [(D.val (Go.Value.bool false))]))) := by kernel_rfl
def g3n (C : Ct) (L : AtLoop) (tm : Int) (k : List D → Prop) : Prop := wpFn Try.prog (hT C) L 0 3 #[.agg #[.slice none 0 0], .int .i64 tm] (heapOf []) (dataK k)
theorem g3n_text (C : Ct) (L : AtLoop) (tm : Int) (k : List D → Prop) : g3n C L tm k =
 (((Says C 14 [] [(D.val (Go.Value.bool true))]) ∧
 (((Says C 17 [(D.agg [D.nil])] [(D.agg [D.nil])]) ∧
 (∃ n1 : Int,
 (∃ n2 : Int,
 ((Says C 16 [(D.agg [D.nil])] [(D.val (Go.Value.int Go.IntKind.i64 (n1))), (D.val (Go.Value.int Go.IntKind.i64 (n2)))]) ∧
 (((Says C 17 [(D.agg [D.nil])] [(D.agg [D.nil])]) ∧
 (∃ n3 : Int,
 (∃ n4 : Int,
 ((Says C 18 [(D.agg [D.nil]), (D.val (Go.Value.int Go.IntKind.i64 (tm)))] [(D.val (Go.Value.int Go.IntKind.i64 (n3))), (D.val (Go.Value.int Go.IntKind.i64 (n4)))]) ∧
 (∃ n5 : Int,
 (∃ n6 : Int,
 ((Says C 19 [(D.agg [D.nil])] [(D.val (Go.Value.int Go.IntKind.i64 (n5))), (D.val (Go.Value.int Go.IntKind.i64 (n6)))]) ∧
 (bcase (n2 != n6)
 (k [(D.val (Go.Value.bool false))])
 (bcase (n1 != n5)
 (k [(D.val (Go.Value.bool false))])
 (bcase (n6 == 0)
 (bcase (decide (0 ≤ tm))
 (bcase (decide (tm ≤ 20000))
 (bcase (n4 == 0)
 (∃ n7 : Int,
 ((Says C 21 [(D.agg [D.nil]), (D.val (Go.Value.int Go.IntKind.i64 (tm)))] [(D.val (Go.Value.int Go.IntKind.i64 (n7)))]) ∧
 (bcase (n3 == n7)
 (k [(D.val (Go.Value.bool true))])
 (k [(D.val (Go.Value.bool false))]))))
 (k [(D.val (Go.Value.bool false))]))
 (bcase (n4 == 2)
 (bcase (n3 == 0)
 (k [(D.val (Go.Value.bool true))])
 (k [(D.val (Go.Value.bool false))]))
 (k [(D.val (Go.Value.bool false))])))
 (bcase (n4 == 2)
 (bcase (n3 == 0)
 (k [(D.val (Go.Value.bool true))])
 (k [(D.val (Go.Value.bool false))]))
 (k [(D.val (Go.Value.bool false))])))
 (bcase (n6 != 0)
 (bcase (n4 == n6)
 (bcase (n3 == 0)
 (k [(D.val (Go.Value.bool true))])
 (k [(D.val (Go.Value.bool false))]))
 (k [(D.val (Go.Value.bool false))]))
 (bcase (n4 == 0)
 (∃ n7 : Int,
 ((Says C 21 [(D.agg [D.nil]), (D.val (Go.Value.int Go.IntKind.i64 (tm)))] [(D.val (Go.Value.int Go.IntKind.i64 (n7)))]) ∧
 (bcase (n3 == n7)
 (k [(D.val (Go.Value.bool true))])
 (k [(D.val (Go.Value.bool false))]))))
 (k [(D.val (Go.Value.bool false))]))))))))))))) ∨
 (∃ n3 : Nat,
 (∃ cs1 : List Go.Value,
 ((Says C 17 [(D.agg [D.nil])] [(D.agg [(D.sl (n3) 2 (cs1))])]) ∧
 (bcase (decide (0 + n3 * 2 ≤ List.length cs1))
 (∃ n4 : Int,
 (∃ n5 : Int,
 ((Says C 18 [(D.agg [(D.sl (n3) 2 (List.take (n3 * 2) (List.drop 0 cs1)))]), (D.val (Go.Value.int Go.IntKind.i64 (tm)))] [(D.val (Go.Value.int Go.IntKind.i64 (n4))), (D.val (Go.Value.int Go.IntKind.i64 (n5)))]) ∧
 (∃ n6 : Int,
 (∃ n7 : Int,
 ((Says C 19 [(D.agg [D.nil])] [(D.val (Go.Value.int Go.IntKind.i64 (n6))), (D.val (Go.Value.int Go.IntKind.i64 (n7)))]) ∧
 (bcase (n2 != n7)
 (k [(D.val (Go.Value.bool false))])
 (bcase (n1 != n6)
 (k [(D.val (Go.Value.bool false))])
 (bcase (n7 == 0)
 (bcase (decide (0 ≤ tm))
 (bcase (decide (tm ≤ 20000))
 (bcase (n5 == 0)
 (∃ n8 : Int,
 ((Says C 21 [(D.agg [D.nil]), (D.val (Go.Value.int Go.IntKind.i64 (tm)))] [(D.val (Go.Value.int Go.IntKind.i64 (n8)))]) ∧
 (bcase (n4 == n8)
 (k [(D.val (Go.Value.bool true))])
 (k [(D.val (Go.Value.bool false))]))))
 (k [(D.val (Go.Value.bool false))]))
 (bcase (n5 == 2)
 (bcase (n4 == 0)
 (k [(D.val (Go.Value.bool true))])
 (k [(D.val (Go.Value.bool false))]))
 (k [(D.val (Go.Value.bool false))])))
 (bcase (n5 == 2)
 (bcase (n4 == 0)
 (k [(D.val (Go.Value.bool true))])
 (k [(D.val (Go.Value.bool false))]))
 (k [(D.val (Go.Value.bool false))])))
 (bcase (n7 != 0)
 (bcase (n5 == n7)
 (bcase (n4 == 0)
 (k [(D.val (Go.Value.bool true))])
 (k [(D.val (Go.Value.bool false))]))
 (k [(D.val (Go.Value.bool false))]))
 (bcase (n5 == 0)
 (∃ n8 : Int,
 ((Says C 21 [(D.agg [D.nil]), (D.val (Go.Value.int Go.IntKind.i64 (tm)))] [(D.val (Go.Value.int Go.IntKind.i64 (n8)))]) ∧
 (bcase (n4 == n8)
 (k [(D.val (Go.Value.bool true))])
 (k [(D.val (Go.Value.bool false))]))))
 (k [(D.val (Go.Value.bool false))]))))))))))))
 False))))))))) ∨
 (∃ n1 : Nat,
 (∃ cs1 : List Go.Value,
 ((Says C 17 [(D.agg [D.nil])] [(D.agg [(D.sl (n1) 2 (cs1))])]) ∧
 (bcase (decide (0 + n1 * 2 ≤ List.length cs1))
 (∃ n2 : Int,
 (∃ n3 : Int,
 ((Says C 16 [(D.agg [(D.sl (n1) 2 (List.take (n1 * 2) (List.drop 0 cs1)))])] [(D.val (Go.Value.int Go.IntKind.i64 (n2))), (D.val (Go.Value.int Go.IntKind.i64 (n3)))]) ∧
 (((Says C 17 [(D.agg [D.nil])] [(D.agg [D.nil])]) ∧
 (∃ n4 : Int,
 (∃ n5 : Int,
 ((Says C 18 [(D.agg [D.nil]), (D.val (Go.Value.int Go.IntKind.i64 (tm)))] [(D.val (Go.Value.int Go.IntKind.i64 (n4))), (D.val (Go.Value.int Go.IntKind.i64 (n5)))]) ∧
 (∃ n6 : Int,
 (∃ n7 : Int,
 ((Says C 19 [(D.agg [D.nil])] [(D.val (Go.Value.int Go.IntKind.i64 (n6))), (D.val (Go.Value.int Go.IntKind.i64 (n7)))]) ∧
 (bcase (n3 != n7)
 (k [(D.val (Go.Value.bool false))])
 (bcase (n2 != n6)
 (k [(D.val (Go.Value.bool false))])
 (bcase (n7 == 0)
 (bcase (decide (0 ≤ tm))
 (bcase (decide (tm ≤ 20000))
 (bcase (n5 == 0)
 (∃ n8 : Int,
 ((Says C 21 [(D.agg [D.nil]), (D.val (Go.Value.int Go.IntKind.i64 (tm)))] [(D.val (Go.Value.int Go.IntKind.i64 (n8)))]) ∧
 (bcase (n4 == n8)
 (k [(D.val (Go.Value.bool true))])
 (k [(D.val (Go.Value.bool false))]))))
 (k [(D.val (Go.Value.bool false))]))
 (bcase (n5 == 2)
 (bcase (n4 == 0)
 (k [(D.val (Go.Value.bool true))])
 (k [(D.val (Go.Value.bool false))]))
 (k [(D.val (Go.Value.bool false))])))
 (bcase (n5 == 2)
 (bcase (n4 == 0)
 (k [(D.val (Go.Value.bool true))])
 (k [(D.val (Go.Value.bool false))]))
 (k [(D.val (Go.Value.bool false))])))
 (bcase (n7 != 0)
 (bcase (n5 == n7)
 (bcase (n4 == 0)
 (k [(D.val (Go.Value.bool true))])
 (k [(D.val (Go.Value.bool false))]))
 (k [(D.val (Go.Value.bool false))]))
 (bcase (n5 == 0)
 (∃ n8 : Int,
 ((Says C 21 [(D.agg [D.nil]), (D.val (Go.Value.int Go.IntKind.i64 (tm)))] [(D.val (Go.Value.int Go.IntKind.i64 (n8)))]) ∧
 (bcase (n4 == n8)
 (k [(D.val (Go.Value.bool true))])
 (k [(D.val (Go.Value.bool false))]))))
 (k [(D.val (Go.Value.bool false))]))))))))))))) ∨
 (∃ n4 : Nat,
 (∃ cs2 : List Go.Value,
 ((Says C 17 [(D.agg [D.nil])] [(D.agg [(D.sl (n4) 2 (cs2))])]) ∧
 (bcase (decide (0 + n4 * 2 ≤ List.length cs2))
 (∃ n5 : Int,
 (∃ n6 : Int,
 ((Says C 18 [(D.agg [(D.sl (n4) 2 (List.take (n4 * 2) (List.drop 0 cs2)))]), (D.val (Go.Value.int Go.IntKind.i64 (tm)))] [(D.val (Go.Value.int Go.IntKind.i64 (n5))), (D.val (Go.Value.int Go.IntKind.i64 (n6)))]) ∧
 (∃ n7 : Int,
 (∃ n8 : Int,
 ((Says C 19 [(D.agg [D.nil])] [(D.val (Go.Value.int Go.IntKind.i64 (n7))), (D.val (Go.Value.int Go.IntKind.i64 (n8)))]) ∧
 (bcase (n3 != n8)
 (k [(D.val (Go.Value.bool false))])
 (bcase (n2 != n7)
 (k [(D.val (Go.Value.bool false))])
 (bcase (n8 == 0)
 (bcase (decide (0 ≤ tm))
 (bcase (decide (tm ≤ 20000))
 (bcase (n6 == 0)
 (∃ n9 : Int,
 ((Says C 21 [(D.agg [D.nil]), (D.val (Go.Value.int Go.IntKind.i64 (tm)))] [(D.val (Go.Value.int Go.IntKind.i64 (n9)))]) ∧
 (bcase (n5 == n9)
 (k [(D.val (Go.Value.bool true))])
 (k [(D.val (Go.Value.bool false))]))))
 (k [(D.val (Go.Value.bool false))]))
 (bcase (n6 == 2)
 (bcase (n5 == 0)
 (k [(D.val (Go.Value.bool true))])
 (k [(D.val (Go.Value.bool false))]))
 (k [(D.val (Go.Value.bool false))])))
 (bcase (n6 == 2)
 (bcase (n5 == 0)
 (k [(D.val (Go.Value.bool true))])
 (k [(D.val (Go.Value.bool false))]))
 (k [(D.val (Go.Value.bool false))])))
 (bcase (n8 != 0)
 (bcase (n6 == n8)
 (bcase (n5 == 0)
 (k [(D.val (Go.Value.bool true))])
 (k [(D.val (Go.Value.bool false))]))
 (k [(D.val (Go.Value.bool false))]))
 (bcase (n6 == 0)
 (∃ n9 : Int,
 ((Says C 21 [(D.agg [D.nil]), (D.val (Go.Value.int Go.IntKind.i64 (tm)))] [(D.val (Go.Value.int Go.IntKind.i64 (n9)))]) ∧
 (bcase (n5 == n9)
 (k [(D.val (Go.Value.bool true))])
 (k [(D.val (Go.Value.bool false))]))))
 (k [(D.val (Go.Value.bool false))]))))))))))))
 False))))))))
 False)))))) ∨
 ((Says C 14 [] [(D.val (Go.Value.bool false))]) ∧
 (k [(D.val (Go.Value.bool false))]))) := by kernel_rfl
def g16 (C : Ct) (L : AtLoop) (n cap : Nat) (ps : List Value) (k : List D → Prop) : Prop := wpFn Try.prog (hT C) L 0 16 #[.agg #[S500 n cap]] (heapOf [B500 ps]) (dataK k)
theorem g16_text (C : Ct) (L : AtLoop) (n : Nat) (cap : Nat) (ps : List Go.Value) (k : List D → Prop) : g16 C L n cap ps k =
 (bcase ((↑n : Int) == 0)
 (k [(D.val (Go.Value.int Go.IntKind.i64 (0 : Int))), (D.val (Go.Value.int Go.IntKind.i64 (10 : Int)))])
 (bcase (decide ((↑n : Int) > 10))
 (k [(D.val (Go.Value.int Go.IntKind.i64 (0 : Int))), (D.val (Go.Value.int Go.IntKind.i64 (8 : Int)))])
 (L 1 [(Prod.mk 1 (Go.Value.pointer (Option.some (Go.Addr.mk 1000 0 Option.none)))), (Prod.mk 18 (Go.Value.slice (Option.some (Go.Addr.mk 500 0 Option.none)) (n) (cap))), (Prod.mk 19 (Go.Value.int Go.IntKind.i64 ((↑n : Int)))), (Prod.mk 20 (Go.Value.int Go.IntKind.i64 (0 : Int)))] [(Prod.mk 1000 (AObj.cells [(Go.Value.slice (Option.some (Go.Addr.mk 500 0 Option.none)) (n) (cap))] 24 false 1)), (Prod.mk 500 (AObj.sym (ps) false 2))]))) := by kernel_rfl
def g18 (C : Ct) (L : AtLoop) (n cap : Nat) (ps : List Value) (tm : Int) (k : List D → Prop) : Prop := wpFn Try.prog (hT C) L 0 18 #[.agg #[S500 n cap], .int .i64 tm] (heapOf [B500 ps]) (dataK k)
theorem g18_text (C : Ct) (L : AtLoop) (n : Nat) (cap : Nat) (ps : List Go.Value) (tm : Int) (k : List D → Prop) : g18 C L n cap ps tm k =
 (bcase (decide (0 + n * 2 ≤ List.length ps))
 (∃ n1 : Int,
 (∃ n2 : Int,
 ((Says C 16 [(D.agg [(D.sl (n) 2 (List.take (n * 2) (List.drop 0 ps)))])] [(D.val (Go.Value.int Go.IntKind.i64 (n1))), (D.val (Go.Value.int Go.IntKind.i64 (n2)))]) ∧
 (∃ n3 : Int,
 ((Says C 89 [(D.sl 1 1 [(Go.Value.int Go.IntKind.i64 (tm))])] [(D.val (Go.Value.int Go.IntKind.i64 (n3)))]) ∧
 (∃ n4 : Int,
 ((Says C 88 [(D.sl 2 1 [(Go.Value.int Go.IntKind.i64 (n2)), (Go.Value.int Go.IntKind.i64 (n3))])] [(D.val (Go.Value.int Go.IntKind.i64 (n4)))]) ∧
 (bcase (n4 != 0)
 (k [(D.val (Go.Value.int Go.IntKind.i64 (0 : Int))), (D.val (Go.Value.int Go.IntKind.i64 (n4)))])
 (bcase (decide (0 + n * 2 ≤ List.length ps))
 (∃ n5 : Int,
 ((Says C 92 [(D.agg [(D.sl (n) 2 (List.take (n * 2) (List.drop 0 ps)))]), (D.val (Go.Value.int Go.IntKind.i64 (tm)))] [(D.val (Go.Value.int Go.IntKind.i64 (n5)))]) ∧
 (k [(D.val (Go.Value.int Go.IntKind.i64 (n5))), (D.val (Go.Value.int Go.IntKind.i64 (0 : Int)))])))
 False)))))))))
 False) := by kernel_rfl
def g19 (C : Ct) (L : AtLoop) (n cap : Nat) (ps : List Value) (k : List D → Prop) : Prop := wpFn Try.prog (hT C) L 0 19 #[.agg #[S500 n cap]] (heapOf [B500 ps]) (dataK k)
theorem g19_text (C : Ct) (L : AtLoop) (n : Nat) (cap : Nat) (ps : List Go.Value) (k : List D → Prop) : g19 C L n cap ps k =
 (bcase ((↑n : Int) == 0)
 (k [(D.val (Go.Value.int Go.IntKind.i64 (0 : Int))), (D.val (Go.Value.int Go.IntKind.i64 (10 : Int)))])
 (bcase (decide ((↑n : Int) > 10))
 (k [(D.val (Go.Value.int Go.IntKind.i64 (0 : Int))), (D.val (Go.Value.int Go.IntKind.i64 (8 : Int)))])
 (L 0 [(Prod.mk 1 (Go.Value.pointer (Option.some (Go.Addr.mk 1000 0 Option.none)))), (Prod.mk 4 (Go.Value.int Go.IntKind.i64 (0 : Int)))] [(Prod.mk 1000 (AObj.cells [(Go.Value.slice (Option.some (Go.Addr.mk 500 0 Option.none)) (n) (cap))] 24 false 1)), (Prod.mk 500 (AObj.sym (ps) false 2))]))) := by kernel_rfl
def g19n (C : Ct) (L : AtLoop) (k : List D → Prop) : Prop := wpFn Try.prog (hT C) L 0 19 #[.agg #[.slice none 0 0]] (heapOf []) (dataK k)
theorem g19n_text (C : Ct) (L : AtLoop) (k : List D → Prop) : g19n C L k =
 (k [(D.val (Go.Value.int Go.IntKind.i64 (0 : Int))), (D.val (Go.Value.int Go.IntKind.i64 (10 : Int)))]) := by kernel_rfl
def g21 (C : Ct) (L : AtLoop) (n cap : Nat) (ps : List Value) (tm : Int) (k : List D → Prop) : Prop := wpFn Try.prog (hT C) L 0 21 #[.agg #[S500 n cap], .int .i64 tm] (heapOf [B500 ps]) (dataK k)
theorem g21_text (C : Ct) (L : AtLoop) (n : Nat) (cap : Nat) (ps : List Go.Value) (tm : Int) (k : List D → Prop) : g21 C L n cap ps tm k =
 (bcase (decide (0 < (↑n : Int)))
 (∃ n1 : Int,
 ((At (ps) 0 1 [(Go.Value.int Go.IntKind.i64 (n1))]) ∧
 (bcase (decide (tm ≤ n1))
 (bcase (decide (0 < (↑n : Int)))
 (∃ n2 : Int,
 ((At (ps) 1 1 [(Go.Value.int Go.IntKind.i64 (n2))]) ∧
 (k [(D.val (Go.Value.int Go.IntKind.i64 (n2)))])))
 False)
 (L 0 [(Prod.mk 1 (Go.Value.int Go.IntKind.i64 (tm))), (Prod.mk 5 (Go.Value.slice (Option.some (Go.Addr.mk 500 0 Option.none)) (n) (cap))), (Prod.mk 6 (Go.Value.int Go.IntKind.i64 (1 : Int)))] [(Prod.mk 500 (AObj.sym (ps) false 2))]))))
 False) := by kernel_rfl
def g92 (C : Ct) (L : AtLoop) (n cap : Nat) (ps : List Value) (tm : Int) (k : List D → Prop) : Prop := wpFn Try.prog (hT C) L 0 92 #[.agg #[S500 n cap], .int .i64 tm] (heapOf [B500 ps]) (dataK k)
theorem g92_text (C : Ct) (L : AtLoop) (n : Nat) (cap : Nat) (ps : List Go.Value) (tm : Int) (k : List D → Prop) : g92 C L n cap ps tm k =
 (L 0 [(Prod.mk 1 (Go.Value.int Go.IntKind.i64 (tm))), (Prod.mk 2 (Go.Value.pointer (Option.some (Go.Addr.mk 1000 0 Option.none)))), (Prod.mk 5 (Go.Value.int Go.IntKind.i64 (0 : Int)))] [(Prod.mk 1000 (AObj.cells [(Go.Value.slice (Option.some (Go.Addr.mk 500 0 Option.none)) (n) (cap))] 24 false 1)), (Prod.mk 500 (AObj.sym (ps) false 2))]) := by kernel_rfl
def g88 (C : Ct) (L : AtLoop) (n cap : Nat) (ps : List Value) (k : List D → Prop) : Prop := wpFn Try.prog (hT C) L 0 88 #[S500 n cap] (heapOf [(500, .sym ps false 1)]) (dataK k)
theorem g88_text (C : Ct) (L : AtLoop) (n : Nat) (cap : Nat) (ps : List Go.Value) (k : List D → Prop) : g88 C L n cap ps k =
 (L 0 [(Prod.mk 5 (Go.Value.slice (Option.some (Go.Addr.mk 500 0 Option.none)) (n) (cap))), (Prod.mk 6 (Go.Value.int Go.IntKind.i64 ((↑n : Int)))), (Prod.mk 7 (Go.Value.int Go.IntKind.i64 (0 : Int)))] [(Prod.mk 500 (AObj.sym (ps) false 1))]) := by kernel_rfl
def g89 (C : Ct) (L : AtLoop) (cap : Nat) (a : Int) (k : List D → Prop) : Prop := wpFn Try.prog (hT C) L 0 89 #[S500 1 cap] (heapOf [(500, .sym [.int .i64 a] false 1)]) (dataK k)
theorem g89_text (C : Ct) (L : AtLoop) (cap : Nat) (a : Int) (k : List D → Prop) : g89 C L cap a k =
 (∃ n1 : Int,
 ((At [(Go.Value.int Go.IntKind.i64 (a))] 0 1 [(Go.Value.int Go.IntKind.i64 (n1))]) ∧
 (bcase (decide (n1 < 0))
 (k [(D.val (Go.Value.int Go.IntKind.i64 (2 : Int)))])
 (bcase (decide (n1 > 20000))
 (k [(D.val (Go.Value.int Go.IntKind.i64 (2 : Int)))])
 (k [(D.val (Go.Value.int Go.IntKind.i64 (0 : Int)))]))))) := by kernel_rfl
def g91 (C : Ct) (L : AtLoop) (a b c d : Int) (k : List D → Prop) : Prop := wpFn Try.prog (hT C) L 0 91 #[.agg #[.int .i64 a, .int .i64 b], .agg #[.int .i64 c, .int .i64 d]] (heapOf []) (dataK k)
theorem g91_text (C : Ct) (L : AtLoop) (a : Int) (b : Int) (c : Int) (d : Int) (k : List D → Prop) : g91 C L a b c d k =
 (bcase (decide (c ≤ a))
 (k [(D.val (Go.Value.int Go.IntKind.i64 (9 : Int)))])
 (bcase (decide (d < b))
 (k [(D.val (Go.Value.int Go.IntKind.i64 (9 : Int)))])
 (bcase (decide (Go.IntKind.wrap Go.IntKind.i64 (d - b) > Go.IntKind.wrap Go.IntKind.i64 (c - a)))
 (k [(D.val (Go.Value.int Go.IntKind.i64 (22 : Int)))])
 (k [(D.val (Go.Value.int Go.IntKind.i64 (0 : Int)))])))) := by kernel_rfl
def tb (n cap : Nat) (ps : List Value) : Blocks := [(1000, .cells [S500 n cap] 24 false 1), B500 ps]
def s16 (n cap : Nat) (i : Int) : Slots := [(1, .pointer (some ⟨1000, 0, none⟩)), (18, S500 n cap), (19, .int .i64 n), (20, .int .i64 i)]
def r16 (C : Ct) (L : AtLoop) (n cap : Nat) (ps : List Value) (i : Int) (B : Bx) (X : Xx) (k : List D → Prop) : Prop := wpRound Try.prog (hT C) L 16 1 (s16 n cap i) (tb n cap ps) B X (dataK k)
theorem r16_text (C : Ct) (L : AtLoop) (n : Nat) (cap : Nat) (ps : List Go.Value) (i : Int) (B : Bx) (X : Xx) (k : List D → Prop) : r16 C L n cap ps i B X k =
 (bcase (decide (i < (↑n : Int)))
 (bcase (decide (0 ≤ i))
 (bcase (decide (i < (↑n : Int)))
 (∃ n1 : Int,
 (∃ n2 : Int,
 ((At (ps) (0 + Int.toNat i * 2) 2 [(Go.Value.int Go.IntKind.i64 (n1)), (Go.Value.int Go.IntKind.i64 (n2))]) ∧
 (((((Go.Value.slice (Option.some (Go.Addr.mk 1003 0 Option.none)) 1 1) = (Go.Value.slice (Option.some (Go.Addr.mk 1003 0 Option.none)) 1 1)) ∧
 ((Option.some (AObj.cells [(Go.Value.int Go.IntKind.i64 (n2))] 3 false 1)) = (Option.some (AObj.cells [(Go.Value.int Go.IntKind.i64 (n2))] 3 false 1)))) ∧
 (((Go.Value.int Go.IntKind.i64 (n2)) = (Go.Value.int Go.IntKind.i64 (n2))) ∧
 (((Go.Value.pointer (Option.some (Go.Addr.mk 1001 1 Option.none))) = (Go.Value.pointer (Option.some (Go.Addr.mk 1001 1 Option.none)))) ∧
 ((((Go.Value.slice (Option.some (Go.Addr.mk 1002 0 Option.none)) 1 1) = (Go.Value.slice (Option.some (Go.Addr.mk 1002 0 Option.none)) 1 1)) ∧
 ((Option.some (AObj.cells [(Go.Value.int Go.IntKind.i64 (n1))] 3 false 1)) = (Option.some (AObj.cells [(Go.Value.int Go.IntKind.i64 (n1))] 3 false 1)))) ∧
 (((Go.Value.int Go.IntKind.i64 (n1)) = (Go.Value.int Go.IntKind.i64 (n1))) ∧
 (((Go.Value.pointer (Option.some (Go.Addr.mk 1001 0 Option.none))) = (Go.Value.pointer (Option.some (Go.Addr.mk 1001 0 Option.none)))) ∧
 True)))))) ∧
 (∃ n3 : Int,
 ((Says C 89 [(D.sl 1 1 [(Go.Value.int Go.IntKind.i64 (n1))])] [(D.val (Go.Value.int Go.IntKind.i64 (n3)))]) ∧
 (((((Go.Value.slice (Option.some (Go.Addr.mk 1003 0 Option.none)) 1 1) = (Go.Value.slice (Option.some (Go.Addr.mk 1003 0 Option.none)) 1 1)) ∧
 ((Option.some (AObj.cells [(Go.Value.int Go.IntKind.i64 (n2))] 3 false 1)) = (Option.some (AObj.cells [(Go.Value.int Go.IntKind.i64 (n2))] 3 false 1)))) ∧
 (((Go.Value.int Go.IntKind.i64 (n2)) = (Go.Value.int Go.IntKind.i64 (n2))) ∧
 (((Go.Value.pointer (Option.some (Go.Addr.mk 1001 1 Option.none))) = (Go.Value.pointer (Option.some (Go.Addr.mk 1001 1 Option.none)))) ∧
 (((Go.Value.int Go.IntKind.i64 (n1)) = (Go.Value.int Go.IntKind.i64 (n1))) ∧
 (((Go.Value.pointer (Option.some (Go.Addr.mk 1001 0 Option.none))) = (Go.Value.pointer (Option.some (Go.Addr.mk 1001 0 Option.none)))) ∧
 True))))) ∧
 (((((Go.Value.slice (Option.some (Go.Addr.mk 1003 0 Option.none)) 1 1) = (Go.Value.slice (Option.some (Go.Addr.mk 1003 0 Option.none)) 1 1)) ∧
 ((Option.some (AObj.cells [(Go.Value.int Go.IntKind.i64 (n2))] 3 false 1)) = (Option.some (AObj.cells [(Go.Value.int Go.IntKind.i64 (n2))] 3 false 1)))) ∧
 (((Go.Value.int Go.IntKind.i64 (n2)) = (Go.Value.int Go.IntKind.i64 (n2))) ∧
 (((Go.Value.pointer (Option.some (Go.Addr.mk 1001 1 Option.none))) = (Go.Value.pointer (Option.some (Go.Addr.mk 1001 1 Option.none)))) ∧
 (((Go.Value.int Go.IntKind.i64 (n1)) = (Go.Value.int Go.IntKind.i64 (n1))) ∧
 (((Go.Value.pointer (Option.some (Go.Addr.mk 1001 0 Option.none))) = (Go.Value.pointer (Option.some (Go.Addr.mk 1001 0 Option.none)))) ∧
 True))))) ∧
 (bcase (decide (n2 < 0))
 (((((Go.Value.slice (Option.some (Go.Addr.mk 1006 0 Option.none)) 2 2) = (Go.Value.slice (Option.some (Go.Addr.mk 1006 0 Option.none)) 2 2)) ∧
 ((Option.some (AObj.cells [(Go.Value.int Go.IntKind.i64 (n3)), (Go.Value.int Go.IntKind.i64 (2 : Int))] 27 false 1)) = (Option.some (AObj.cells [(Go.Value.int Go.IntKind.i64 (n3)), (Go.Value.int Go.IntKind.i64 (2 : Int))] 27 false 1)))) ∧
 (((Go.Value.int Go.IntKind.i64 (n2)) = (Go.Value.int Go.IntKind.i64 (n2))) ∧
 (((Go.Value.pointer (Option.some (Go.Addr.mk 1001 1 Option.none))) = (Go.Value.pointer (Option.some (Go.Addr.mk 1001 1 Option.none)))) ∧
 (((Go.Value.int Go.IntKind.i64 (n1)) = (Go.Value.int Go.IntKind.i64 (n1))) ∧
 (((Go.Value.pointer (Option.some (Go.Addr.mk 1001 0 Option.none))) = (Go.Value.pointer (Option.some (Go.Addr.mk 1001 0 Option.none)))) ∧
 True))))) ∧
 (∃ n4 : Int,
 ((Says C 88 [(D.sl 2 1 [(Go.Value.int Go.IntKind.i64 (n3)), (Go.Value.int Go.IntKind.i64 (2 : Int))])] [(D.val (Go.Value.int Go.IntKind.i64 (n4)))]) ∧
 ((((Go.Value.int Go.IntKind.i64 (n2)) = (Go.Value.int Go.IntKind.i64 (n2))) ∧
 (((Go.Value.pointer (Option.some (Go.Addr.mk 1001 1 Option.none))) = (Go.Value.pointer (Option.some (Go.Addr.mk 1001 1 Option.none)))) ∧
 (((Go.Value.int Go.IntKind.i64 (n1)) = (Go.Value.int Go.IntKind.i64 (n1))) ∧
 (((Go.Value.pointer (Option.some (Go.Addr.mk 1001 0 Option.none))) = (Go.Value.pointer (Option.some (Go.Addr.mk 1001 0 Option.none)))) ∧
 True)))) ∧
 (True ∧
 (bcase (decide (i > 0))
 (bcase (decide (0 ≤ Go.IntKind.wrap Go.IntKind.i64 (i - 1)))
 (bcase (decide (Go.IntKind.wrap Go.IntKind.i64 (i - 1) < (↑n : Int)))
 (∃ n5 : Int,
 (∃ n6 : Int,
 ((At (ps) (0 + Int.toNat (Go.IntKind.wrap Go.IntKind.i64 (i - 1)) * 2) 2 [(Go.Value.int Go.IntKind.i64 (n5)), (Go.Value.int Go.IntKind.i64 (n6))]) ∧
 ((((Go.Value.agg [(Go.Value.int Go.IntKind.i64 (n1)), (Go.Value.int Go.IntKind.i64 (n2))].toArray) = (Go.Value.agg [(Go.Value.int Go.IntKind.i64 (n1)), (Go.Value.int Go.IntKind.i64 (n2))].toArray)) ∧
 ((∃ n7 : Int,
 (∃ n8 : Int,
 ((At (ps) (0 + Int.toNat (Go.IntKind.wrap Go.IntKind.i64 (i - 1)) * 2) 2 [(Go.Value.int Go.IntKind.i64 (n7)), (Go.Value.int Go.IntKind.i64 (n8))]) ∧
 ((Go.Value.agg [(Go.Value.int Go.IntKind.i64 (n7)), (Go.Value.int Go.IntKind.i64 (n8))].toArray) = (Go.Value.agg [(Go.Value.int Go.IntKind.i64 (n5)), (Go.Value.int Go.IntKind.i64 (n6))].toArray))))) ∧
 ((bcase (decide (0 ≤ Go.IntKind.wrap Go.IntKind.i64 (i - 1)))
 (bcase (decide (Go.IntKind.wrap Go.IntKind.i64 (i - 1) < (↑n : Int)))
 ((Go.Value.pointer (Option.some (Go.Addr.mk 500 (0 + Int.toNat (Go.IntKind.wrap Go.IntKind.i64 (i - 1)) * 2) Option.none))) = (Go.Value.pointer (Option.some (Go.Addr.mk 500 (0 + Int.toNat (Go.IntKind.wrap Go.IntKind.i64 (i - 1)) * 2) Option.none))))
 False)
 False) ∧
 (((Go.Value.int Go.IntKind.i64 (Go.IntKind.wrap Go.IntKind.i64 (i - 1))) = (Go.Value.int Go.IntKind.i64 (Go.IntKind.wrap Go.IntKind.i64 (i - 1)))) ∧
 (((Go.Value.int Go.IntKind.i64 (i)) = (Go.Value.int Go.IntKind.i64 (i))) ∧
 (((Go.Value.slice (Option.some (Go.Addr.mk 500 0 Option.none)) (n) (cap)) = (Go.Value.slice (Option.some (Go.Addr.mk 500 0 Option.none)) (n) (cap))) ∧
 (((Go.Value.pointer (Option.some (Go.Addr.mk 1000 0 Option.none))) = (Go.Value.pointer (Option.some (Go.Addr.mk 1000 0 Option.none)))) ∧
 (((Go.Value.int Go.IntKind.i64 (n4)) = (Go.Value.int Go.IntKind.i64 (n4))) ∧
 True)))))))) ∧
 (∃ n7 : Int,
 ((Says C 91 [(D.agg [(D.val (Go.Value.int Go.IntKind.i64 (n5))), (D.val (Go.Value.int Go.IntKind.i64 (n6)))]), (D.agg [(D.val (Go.Value.int Go.IntKind.i64 (n1))), (D.val (Go.Value.int Go.IntKind.i64 (n2)))])] [(D.val (Go.Value.int Go.IntKind.i64 (n7)))]) ∧
 (((((Go.Value.slice (Option.some (Go.Addr.mk 1007 0 Option.none)) 2 2) = (Go.Value.slice (Option.some (Go.Addr.mk 1007 0 Option.none)) 2 2)) ∧
 ((Option.some (AObj.cells [(Go.Value.int Go.IntKind.i64 (n4)), (Go.Value.int Go.IntKind.i64 (n7))] 27 false 1)) = (Option.some (AObj.cells [(Go.Value.int Go.IntKind.i64 (n4)), (Go.Value.int Go.IntKind.i64 (n7))] 27 false 1)))) ∧
 ((bcase (decide (0 ≤ Go.IntKind.wrap Go.IntKind.i64 (i - 1)))
 (bcase (decide (Go.IntKind.wrap Go.IntKind.i64 (i - 1) < (↑n : Int)))
 ((Go.Value.pointer (Option.some (Go.Addr.mk 500 (0 + Int.toNat (Go.IntKind.wrap Go.IntKind.i64 (i - 1)) * 2) Option.none))) = (Go.Value.pointer (Option.some (Go.Addr.mk 500 (0 + Int.toNat (Go.IntKind.wrap Go.IntKind.i64 (i - 1)) * 2) Option.none))))
 False)
 False) ∧
 (((Go.Value.int Go.IntKind.i64 (Go.IntKind.wrap Go.IntKind.i64 (i - 1))) = (Go.Value.int Go.IntKind.i64 (Go.IntKind.wrap Go.IntKind.i64 (i - 1)))) ∧
 (((Go.Value.int Go.IntKind.i64 (i)) = (Go.Value.int Go.IntKind.i64 (i))) ∧
 (((Go.Value.slice (Option.some (Go.Addr.mk 500 0 Option.none)) (n) (cap)) = (Go.Value.slice (Option.some (Go.Addr.mk 500 0 Option.none)) (n) (cap))) ∧
 (((Go.Value.pointer (Option.some (Go.Addr.mk 1000 0 Option.none))) = (Go.Value.pointer (Option.some (Go.Addr.mk 1000 0 Option.none)))) ∧
 (((Go.Value.int Go.IntKind.i64 (n4)) = (Go.Value.int Go.IntKind.i64 (n4))) ∧
 True))))))) ∧
 (∃ n8 : Int,
 ((Says C 88 [(D.sl 2 1 [(Go.Value.int Go.IntKind.i64 (n4)), (Go.Value.int Go.IntKind.i64 (n7))])] [(D.val (Go.Value.int Go.IntKind.i64 (n8)))]) ∧
 (((bcase (decide (0 ≤ Go.IntKind.wrap Go.IntKind.i64 (i - 1)))
 (bcase (decide (Go.IntKind.wrap Go.IntKind.i64 (i - 1) < (↑n : Int)))
 ((Go.Value.pointer (Option.some (Go.Addr.mk 500 (0 + Int.toNat (Go.IntKind.wrap Go.IntKind.i64 (i - 1)) * 2) Option.none))) = (Go.Value.pointer (Option.some (Go.Addr.mk 500 (0 + Int.toNat (Go.IntKind.wrap Go.IntKind.i64 (i - 1)) * 2) Option.none))))
 False)
 False) ∧
 (((Go.Value.int Go.IntKind.i64 (Go.IntKind.wrap Go.IntKind.i64 (i - 1))) = (Go.Value.int Go.IntKind.i64 (Go.IntKind.wrap Go.IntKind.i64 (i - 1)))) ∧
 (((Go.Value.int Go.IntKind.i64 (i)) = (Go.Value.int Go.IntKind.i64 (i))) ∧
 (((Go.Value.slice (Option.some (Go.Addr.mk 500 0 Option.none)) (n) (cap)) = (Go.Value.slice (Option.some (Go.Addr.mk 500 0 Option.none)) (n) (cap))) ∧
 (((Go.Value.pointer (Option.some (Go.Addr.mk 1000 0 Option.none))) = (Go.Value.pointer (Option.some (Go.Addr.mk 1000 0 Option.none)))) ∧
 (((Go.Value.int Go.IntKind.i64 (n4)) = (Go.Value.int Go.IntKind.i64 (n4))) ∧
 True)))))) ∧
 (True ∧
 (bcase (n8 != 0)
 (k [(D.val (Go.Value.int Go.IntKind.i64 (i))), (D.val (Go.Value.int Go.IntKind.i64 (n8)))])
 (B [(Prod.mk 1 (Go.Value.pointer (Option.some (Go.Addr.mk 1000 0 Option.none)))), (Prod.mk 18 (Go.Value.slice (Option.some (Go.Addr.mk 500 0 Option.none)) (n) (cap))), (Prod.mk 19 (Go.Value.int Go.IntKind.i64 ((↑n : Int)))), (Prod.mk 20 (Go.Value.int Go.IntKind.i64 (Go.IntKind.wrap Go.IntKind.i64 (i + 1))))] [(Prod.mk 1000 (AObj.cells [(Go.Value.slice (Option.some (Go.Addr.mk 500 0 Option.none)) (n) (cap))] 24 false 1)), (Prod.mk 500 (AObj.sym (ps) false 2))])))))))))))))
 False)
 False)
 (bcase (n4 != 0)
 (k [(D.val (Go.Value.int Go.IntKind.i64 (i))), (D.val (Go.Value.int Go.IntKind.i64 (n4)))])
 (B [(Prod.mk 1 (Go.Value.pointer (Option.some (Go.Addr.mk 1000 0 Option.none)))), (Prod.mk 18 (Go.Value.slice (Option.some (Go.Addr.mk 500 0 Option.none)) (n) (cap))), (Prod.mk 19 (Go.Value.int Go.IntKind.i64 ((↑n : Int)))), (Prod.mk 20 (Go.Value.int Go.IntKind.i64 (Go.IntKind.wrap Go.IntKind.i64 (i + 1))))] [(Prod.mk 1000 (AObj.cells [(Go.Value.slice (Option.some (Go.Addr.mk 500 0 Option.none)) (n) (cap))] 24 false 1)), (Prod.mk 500 (AObj.sym (ps) false 2))]))))))))
 (bcase (decide (n2 > 20000))
 (((((Go.Value.slice (Option.some (Go.Addr.mk 1006 0 Option.none)) 2 2) = (Go.Value.slice (Option.some (Go.Addr.mk 1006 0 Option.none)) 2 2)) ∧
 ((Option.some (AObj.cells [(Go.Value.int Go.IntKind.i64 (n3)), (Go.Value.int Go.IntKind.i64 (2 : Int))] 27 false 1)) = (Option.some (AObj.cells [(Go.Value.int Go.IntKind.i64 (n3)), (Go.Value.int Go.IntKind.i64 (2 : Int))] 27 false 1)))) ∧
 (((Go.Value.int Go.IntKind.i64 (n2)) = (Go.Value.int Go.IntKind.i64 (n2))) ∧
 (((Go.Value.pointer (Option.some (Go.Addr.mk 1001 1 Option.none))) = (Go.Value.pointer (Option.some (Go.Addr.mk 1001 1 Option.none)))) ∧
 (((Go.Value.int Go.IntKind.i64 (n1)) = (Go.Value.int Go.IntKind.i64 (n1))) ∧
 (((Go.Value.pointer (Option.some (Go.Addr.mk 1001 0 Option.none))) = (Go.Value.pointer (Option.some (Go.Addr.mk 1001 0 Option.none)))) ∧
 True))))) ∧
 (∃ n4 : Int,
 ((Says C 88 [(D.sl 2 1 [(Go.Value.int Go.IntKind.i64 (n3)), (Go.Value.int Go.IntKind.i64 (2 : Int))])] [(D.val (Go.Value.int Go.IntKind.i64 (n4)))]) ∧
 ((((Go.Value.int Go.IntKind.i64 (n2)) = (Go.Value.int Go.IntKind.i64 (n2))) ∧
 (((Go.Value.pointer (Option.some (Go.Addr.mk 1001 1 Option.none))) = (Go.Value.pointer (Option.some (Go.Addr.mk 1001 1 Option.none)))) ∧
 (((Go.Value.int Go.IntKind.i64 (n1)) = (Go.Value.int Go.IntKind.i64 (n1))) ∧
 (((Go.Value.pointer (Option.some (Go.Addr.mk 1001 0 Option.none))) = (Go.Value.pointer (Option.some (Go.Addr.mk 1001 0 Option.none)))) ∧
 True)))) ∧
 (True ∧
 (bcase (decide (i > 0))
 (bcase (decide (0 ≤ Go.IntKind.wrap Go.IntKind.i64 (i - 1)))
 (bcase (decide (Go.IntKind.wrap Go.IntKind.i64 (i - 1) < (↑n : Int)))
 (∃ n5 : Int,
 (∃ n6 : Int,
 ((At (ps) (0 + Int.toNat (Go.IntKind.wrap Go.IntKind.i64 (i - 1)) * 2) 2 [(Go.Value.int Go.IntKind.i64 (n5)), (Go.Value.int Go.IntKind.i64 (n6))]) ∧
 ((((Go.Value.agg [(Go.Value.int Go.IntKind.i64 (n1)), (Go.Value.int Go.IntKind.i64 (n2))].toArray) = (Go.Value.agg [(Go.Value.int Go.IntKind.i64 (n1)), (Go.Value.int Go.IntKind.i64 (n2))].toArray)) ∧
 ((∃ n7 : Int,
 (∃ n8 : Int,
 ((At (ps) (0 + Int.toNat (Go.IntKind.wrap Go.IntKind.i64 (i - 1)) * 2) 2 [(Go.Value.int Go.IntKind.i64 (n7)), (Go.Value.int Go.IntKind.i64 (n8))]) ∧
 ((Go.Value.agg [(Go.Value.int Go.IntKind.i64 (n7)), (Go.Value.int Go.IntKind.i64 (n8))].toArray) = (Go.Value.agg [(Go.Value.int Go.IntKind.i64 (n5)), (Go.Value.int Go.IntKind.i64 (n6))].toArray))))) ∧
 ((bcase (decide (0 ≤ Go.IntKind.wrap Go.IntKind.i64 (i - 1)))
 (bcase (decide (Go.IntKind.wrap Go.IntKind.i64 (i - 1) < (↑n : Int)))
 ((Go.Value.pointer (Option.some (Go.Addr.mk 500 (0 + Int.toNat (Go.IntKind.wrap Go.IntKind.i64 (i - 1)) * 2) Option.none))) = (Go.Value.pointer (Option.some (Go.Addr.mk 500 (0 + Int.toNat (Go.IntKind.wrap Go.IntKind.i64 (i - 1)) * 2) Option.none))))
 False)
 False) ∧
 (((Go.Value.int Go.IntKind.i64 (Go.IntKind.wrap Go.IntKind.i64 (i - 1))) = (Go.Value.int Go.IntKind.i64 (Go.IntKind.wrap Go.IntKind.i64 (i - 1)))) ∧
 (((Go.Value.int Go.IntKind.i64 (i)) = (Go.Value.int Go.IntKind.i64 (i))) ∧
 (((Go.Value.slice (Option.some (Go.Addr.mk 500 0 Option.none)) (n) (cap)) = (Go.Value.slice (Option.some (Go.Addr.mk 500 0 Option.none)) (n) (cap))) ∧
 (((Go.Value.pointer (Option.some (Go.Addr.mk 1000 0 Option.none))) = (Go.Value.pointer (Option.some (Go.Addr.mk 1000 0 Option.none)))) ∧
 (((Go.Value.int Go.IntKind.i64 (n4)) = (Go.Value.int Go.IntKind.i64 (n4))) ∧
 True)))))))) ∧
 (∃ n7 : Int,
 ((Says C 91 [(D.agg [(D.val (Go.Value.int Go.IntKind.i64 (n5))), (D.val (Go.Value.int Go.IntKind.i64 (n6)))]), (D.agg [(D.val (Go.Value.int Go.IntKind.i64 (n1))), (D.val (Go.Value.int Go.IntKind.i64 (n2)))])] [(D.val (Go.Value.int Go.IntKind.i64 (n7)))]) ∧
 (((((Go.Value.slice (Option.some (Go.Addr.mk 1007 0 Option.none)) 2 2) = (Go.Value.slice (Option.some (Go.Addr.mk 1007 0 Option.none)) 2 2)) ∧
 ((Option.some (AObj.cells [(Go.Value.int Go.IntKind.i64 (n4)), (Go.Value.int Go.IntKind.i64 (n7))] 27 false 1)) = (Option.some (AObj.cells [(Go.Value.int Go.IntKind.i64 (n4)), (Go.Value.int Go.IntKind.i64 (n7))] 27 false 1)))) ∧
 ((bcase (decide (0 ≤ Go.IntKind.wrap Go.IntKind.i64 (i - 1)))
 (bcase (decide (Go.IntKind.wrap Go.IntKind.i64 (i - 1) < (↑n : Int)))
 ((Go.Value.pointer (Option.some (Go.Addr.mk 500 (0 + Int.toNat (Go.IntKind.wrap Go.IntKind.i64 (i - 1)) * 2) Option.none))) = (Go.Value.pointer (Option.some (Go.Addr.mk 500 (0 + Int.toNat (Go.IntKind.wrap Go.IntKind.i64 (i - 1)) * 2) Option.none))))
 False)
 False) ∧
 (((Go.Value.int Go.IntKind.i64 (Go.IntKind.wrap Go.IntKind.i64 (i - 1))) = (Go.Value.int Go.IntKind.i64 (Go.IntKind.wrap Go.IntKind.i64 (i - 1)))) ∧
 (((Go.Value.int Go.IntKind.i64 (i)) = (Go.Value.int Go.IntKind.i64 (i))) ∧
 (((Go.Value.slice (Option.some (Go.Addr.mk 500 0 Option.none)) (n) (cap)) = (Go.Value.slice (Option.some (Go.Addr.mk 500 0 Option.none)) (n) (cap))) ∧
 (((Go.Value.pointer (Option.some (Go.Addr.mk 1000 0 Option.none))) = (Go.Value.pointer (Option.some (Go.Addr.mk 1000 0 Option.none)))) ∧
 (((Go.Value.int Go.IntKind.i64 (n4)) = (Go.Value.int Go.IntKind.i64 (n4))) ∧
 True))))))) ∧
 (∃ n8 : Int,
 ((Says C 88 [(D.sl 2 1 [(Go.Value.int Go.IntKind.i64 (n4)), (Go.Value.int Go.IntKind.i64 (n7))])] [(D.val (Go.Value.int Go.IntKind.i64 (n8)))]) ∧
 (((bcase (decide (0 ≤ Go.IntKind.wrap Go.IntKind.i64 (i - 1)))
 (bcase (decide (Go.IntKind.wrap Go.IntKind.i64 (i - 1) < (↑n : Int)))
 ((Go.Value.pointer (Option.some (Go.Addr.mk 500 (0 + Int.toNat (Go.IntKind.wrap Go.IntKind.i64 (i - 1)) * 2) Option.none))) = (Go.Value.pointer (Option.some (Go.Addr.mk 500 (0 + Int.toNat (Go.IntKind.wrap Go.IntKind.i64 (i - 1)) * 2) Option.none))))
 False)
 False) ∧
 (((Go.Value.int Go.IntKind.i64 (Go.IntKind.wrap Go.IntKind.i64 (i - 1))) = (Go.Value.int Go.IntKind.i64 (Go.IntKind.wrap Go.IntKind.i64 (i - 1)))) ∧
 (((Go.Value.int Go.IntKind.i64 (i)) = (Go.Value.int Go.IntKind.i64 (i))) ∧
 (((Go.Value.slice (Option.some (Go.Addr.mk 500 0 Option.none)) (n) (cap)) = (Go.Value.slice (Option.some (Go.Addr.mk 500 0 Option.none)) (n) (cap))) ∧
 (((Go.Value.pointer (Option.some (Go.Addr.mk 1000 0 Option.none))) = (Go.Value.pointer (Option.some (Go.Addr.mk 1000 0 Option.none)))) ∧
 (((Go.Value.int Go.IntKind.i64 (n4)) = (Go.Value.int Go.IntKind.i64 (n4))) ∧
 True)))))) ∧
 (True ∧
 (bcase (n8 != 0)
 (k [(D.val (Go.Value.int Go.IntKind.i64 (i))), (D.val (Go.Value.int Go.IntKind.i64 (n8)))])
 (B [(Prod.mk 1 (Go.Value.pointer (Option.some (Go.Addr.mk 1000 0 Option.none)))), (Prod.mk 18 (Go.Value.slice (Option.some (Go.Addr.mk 500 0 Option.none)) (n) (cap))), (Prod.mk 19 (Go.Value.int Go.IntKind.i64 ((↑n : Int)))), (Prod.mk 20 (Go.Value.int Go.IntKind.i64 (Go.IntKind.wrap Go.IntKind.i64 (i + 1))))] [(Prod.mk 1000 (AObj.cells [(Go.Value.slice (Option.some (Go.Addr.mk 500 0 Option.none)) (n) (cap))] 24 false 1)), (Prod.mk 500 (AObj.sym (ps) false 2))])))))))))))))
 False)
 False)
 (bcase (n4 != 0)
 (k [(D.val (Go.Value.int Go.IntKind.i64 (i))), (D.val (Go.Value.int Go.IntKind.i64 (n4)))])
 (B [(Prod.mk 1 (Go.Value.pointer (Option.some (Go.Addr.mk 1000 0 Option.none)))), (Prod.mk 18 (Go.Value.slice (Option.some (Go.Addr.mk 500 0 Option.none)) (n) (cap))), (Prod.mk 19 (Go.Value.int Go.IntKind.i64 ((↑n : Int)))), (Prod.mk 20 (Go.Value.int Go.IntKind.i64 (Go.IntKind.wrap Go.IntKind.i64 (i + 1))))] [(Prod.mk 1000 (AObj.cells [(Go.Value.slice (Option.some (Go.Addr.mk 500 0 Option.none)) (n) (cap))] 24 false 1)), (Prod.mk 500 (AObj.sym (ps) false 2))]))))))))
 (((((Go.Value.slice (Option.some (Go.Addr.mk 1006 0 Option.none)) 2 2) = (Go.Value.slice (Option.some (Go.Addr.mk 1006 0 Option.none)) 2 2)) ∧
 ((Option.some (AObj.cells [(Go.Value.int Go.IntKind.i64 (n3)), (Go.Value.int Go.IntKind.i64 (0 : Int))] 27 false 1)) = (Option.some (AObj.cells [(Go.Value.int Go.IntKind.i64 (n3)), (Go.Value.int Go.IntKind.i64 (0 : Int))] 27 false 1)))) ∧
 (((Go.Value.int Go.IntKind.i64 (n2)) = (Go.Value.int Go.IntKind.i64 (n2))) ∧
 (((Go.Value.pointer (Option.some (Go.Addr.mk 1001 1 Option.none))) = (Go.Value.pointer (Option.some (Go.Addr.mk 1001 1 Option.none)))) ∧
 (((Go.Value.int Go.IntKind.i64 (n1)) = (Go.Value.int Go.IntKind.i64 (n1))) ∧
 (((Go.Value.pointer (Option.some (Go.Addr.mk 1001 0 Option.none))) = (Go.Value.pointer (Option.some (Go.Addr.mk 1001 0 Option.none)))) ∧
 True))))) ∧
 (∃ n4 : Int,
 ((Says C 88 [(D.sl 2 1 [(Go.Value.int Go.IntKind.i64 (n3)), (Go.Value.int Go.IntKind.i64 (0 : Int))])] [(D.val (Go.Value.int Go.IntKind.i64 (n4)))]) ∧
 ((((Go.Value.int Go.IntKind.i64 (n2)) = (Go.Value.int Go.IntKind.i64 (n2))) ∧
 (((Go.Value.pointer (Option.some (Go.Addr.mk 1001 1 Option.none))) = (Go.Value.pointer (Option.some (Go.Addr.mk 1001 1 Option.none)))) ∧
 (((Go.Value.int Go.IntKind.i64 (n1)) = (Go.Value.int Go.IntKind.i64 (n1))) ∧
 (((Go.Value.pointer (Option.some (Go.Addr.mk 1001 0 Option.none))) = (Go.Value.pointer (Option.some (Go.Addr.mk 1001 0 Option.none)))) ∧
 True)))) ∧
 (True ∧
 (bcase (decide (i > 0))
 (bcase (decide (0 ≤ Go.IntKind.wrap Go.IntKind.i64 (i - 1)))
 (bcase (decide (Go.IntKind.wrap Go.IntKind.i64 (i - 1) < (↑n : Int)))
 (∃ n5 : Int,
 (∃ n6 : Int,
 ((At (ps) (0 + Int.toNat (Go.IntKind.wrap Go.IntKind.i64 (i - 1)) * 2) 2 [(Go.Value.int Go.IntKind.i64 (n5)), (Go.Value.int Go.IntKind.i64 (n6))]) ∧
 ((((Go.Value.agg [(Go.Value.int Go.IntKind.i64 (n1)), (Go.Value.int Go.IntKind.i64 (n2))].toArray) = (Go.Value.agg [(Go.Value.int Go.IntKind.i64 (n1)), (Go.Value.int Go.IntKind.i64 (n2))].toArray)) ∧
 ((∃ n7 : Int,
 (∃ n8 : Int,
 ((At (ps) (0 + Int.toNat (Go.IntKind.wrap Go.IntKind.i64 (i - 1)) * 2) 2 [(Go.Value.int Go.IntKind.i64 (n7)), (Go.Value.int Go.IntKind.i64 (n8))]) ∧
 ((Go.Value.agg [(Go.Value.int Go.IntKind.i64 (n7)), (Go.Value.int Go.IntKind.i64 (n8))].toArray) = (Go.Value.agg [(Go.Value.int Go.IntKind.i64 (n5)), (Go.Value.int Go.IntKind.i64 (n6))].toArray))))) ∧
 ((bcase (decide (0 ≤ Go.IntKind.wrap Go.IntKind.i64 (i - 1)))
 (bcase (decide (Go.IntKind.wrap Go.IntKind.i64 (i - 1) < (↑n : Int)))
 ((Go.Value.pointer (Option.some (Go.Addr.mk 500 (0 + Int.toNat (Go.IntKind.wrap Go.IntKind.i64 (i - 1)) * 2) Option.none))) = (Go.Value.pointer (Option.some (Go.Addr.mk 500 (0 + Int.toNat (Go.IntKind.wrap Go.IntKind.i64 (i - 1)) * 2) Option.none))))
 False)
 False) ∧
 (((Go.Value.int Go.IntKind.i64 (Go.IntKind.wrap Go.IntKind.i64 (i - 1))) = (Go.Value.int Go.IntKind.i64 (Go.IntKind.wrap Go.IntKind.i64 (i - 1)))) ∧
 (((Go.Value.int Go.IntKind.i64 (i)) = (Go.Value.int Go.IntKind.i64 (i))) ∧
 (((Go.Value.slice (Option.some (Go.Addr.mk 500 0 Option.none)) (n) (cap)) = (Go.Value.slice (Option.some (Go.Addr.mk 500 0 Option.none)) (n) (cap))) ∧
 (((Go.Value.pointer (Option.some (Go.Addr.mk 1000 0 Option.none))) = (Go.Value.pointer (Option.some (Go.Addr.mk 1000 0 Option.none)))) ∧
 (((Go.Value.int Go.IntKind.i64 (n4)) = (Go.Value.int Go.IntKind.i64 (n4))) ∧
 True)))))))) ∧
 (∃ n7 : Int,
 ((Says C 91 [(D.agg [(D.val (Go.Value.int Go.IntKind.i64 (n5))), (D.val (Go.Value.int Go.IntKind.i64 (n6)))]), (D.agg [(D.val (Go.Value.int Go.IntKind.i64 (n1))), (D.val (Go.Value.int Go.IntKind.i64 (n2)))])] [(D.val (Go.Value.int Go.IntKind.i64 (n7)))]) ∧
 (((((Go.Value.slice (Option.some (Go.Addr.mk 1007 0 Option.none)) 2 2) = (Go.Value.slice (Option.some (Go.Addr.mk 1007 0 Option.none)) 2 2)) ∧
 ((Option.some (AObj.cells [(Go.Value.int Go.IntKind.i64 (n4)), (Go.Value.int Go.IntKind.i64 (n7))] 27 false 1)) = (Option.some (AObj.cells [(Go.Value.int Go.IntKind.i64 (n4)), (Go.Value.int Go.IntKind.i64 (n7))] 27 false 1)))) ∧
 ((bcase (decide (0 ≤ Go.IntKind.wrap Go.IntKind.i64 (i - 1)))
 (bcase (decide (Go.IntKind.wrap Go.IntKind.i64 (i - 1) < (↑n : Int)))
 ((Go.Value.pointer (Option.some (Go.Addr.mk 500 (0 + Int.toNat (Go.IntKind.wrap Go.IntKind.i64 (i - 1)) * 2) Option.none))) = (Go.Value.pointer (Option.some (Go.Addr.mk 500 (0 + Int.toNat (Go.IntKind.wrap Go.IntKind.i64 (i - 1)) * 2) Option.none))))
 False)
 False) ∧
 (((Go.Value.int Go.IntKind.i64 (Go.IntKind.wrap Go.IntKind.i64 (i - 1))) = (Go.Value.int Go.IntKind.i64 (Go.IntKind.wrap Go.IntKind.i64 (i - 1)))) ∧
 (((Go.Value.int Go.IntKind.i64 (i)) = (Go.Value.int Go.IntKind.i64 (i))) ∧
 (((Go.Value.slice (Option.some (Go.Addr.mk 500 0 Option.none)) (n) (cap)) = (Go.Value.slice (Option.some (Go.Addr.mk 500 0 Option.none)) (n) (cap))) ∧
 (((Go.Value.pointer (Option.some (Go.Addr.mk 1000 0 Option.none))) = (Go.Value.pointer (Option.some (Go.Addr.mk 1000 0 Option.none)))) ∧
 (((Go.Value.int Go.IntKind.i64 (n4)) = (Go.Value.int Go.IntKind.i64 (n4))) ∧
 True))))))) ∧
 (∃ n8 : Int,
 ((Says C 88 [(D.sl 2 1 [(Go.Value.int Go.IntKind.i64 (n4)), (Go.Value.int Go.IntKind.i64 (n7))])] [(D.val (Go.Value.int Go.IntKind.i64 (n8)))]) ∧
 (((bcase (decide (0 ≤ Go.IntKind.wrap Go.IntKind.i64 (i - 1)))
 (bcase (decide (Go.IntKind.wrap Go.IntKind.i64 (i - 1) < (↑n : Int)))
 ((Go.Value.pointer (Option.some (Go.Addr.mk 500 (0 + Int.toNat (Go.IntKind.wrap Go.IntKind.i64 (i - 1)) * 2) Option.none))) = (Go.Value.pointer (Option.some (Go.Addr.mk 500 (0 + Int.toNat (Go.IntKind.wrap Go.IntKind.i64 (i - 1)) * 2) Option.none))))
 False)
 False) ∧
 (((Go.Value.int Go.IntKind.i64 (Go.IntKind.wrap Go.IntKind.i64 (i - 1))) = (Go.Value.int Go.IntKind.i64 (Go.IntKind.wrap Go.IntKind.i64 (i - 1)))) ∧
 (((Go.Value.int Go.IntKind.i64 (i)) = (Go.Value.int Go.IntKind.i64 (i))) ∧
 (((Go.Value.slice (Option.some (Go.Addr.mk 500 0 Option.none)) (n) (cap)) = (Go.Value.slice (Option.some (Go.Addr.mk 500 0 Option.none)) (n) (cap))) ∧
 (((Go.Value.pointer (Option.some (Go.Addr.mk 1000 0 Option.none))) = (Go.Value.pointer (Option.some (Go.Addr.mk 1000 0 Option.none)))) ∧
 (((Go.Value.int Go.IntKind.i64 (n4)) = (Go.Value.int Go.IntKind.i64 (n4))) ∧
 True)))))) ∧
 (True ∧
 (bcase (n8 != 0)
 (k [(D.val (Go.Value.int Go.IntKind.i64 (i))), (D.val (Go.Value.int Go.IntKind.i64 (n8)))])
 (B [(Prod.mk 1 (Go.Value.pointer (Option.some (Go.Addr.mk 1000 0 Option.none)))), (Prod.mk 18 (Go.Value.slice (Option.some (Go.Addr.mk 500 0 Option.none)) (n) (cap))), (Prod.mk 19 (Go.Value.int Go.IntKind.i64 ((↑n : Int)))), (Prod.mk 20 (Go.Value.int Go.IntKind.i64 (Go.IntKind.wrap Go.IntKind.i64 (i + 1))))] [(Prod.mk 1000 (AObj.cells [(Go.Value.slice (Option.some (Go.Addr.mk 500 0 Option.none)) (n) (cap))] 24 false 1)), (Prod.mk 500 (AObj.sym (ps) false 2))])))))))))))))
 False)
 False)
 (bcase (n4 != 0)
 (k [(D.val (Go.Value.int Go.IntKind.i64 (i))), (D.val (Go.Value.int Go.IntKind.i64 (n4)))])
 (B [(Prod.mk 1 (Go.Value.pointer (Option.some (Go.Addr.mk 1000 0 Option.none)))), (Prod.mk 18 (Go.Value.slice (Option.some (Go.Addr.mk 500 0 Option.none)) (n) (cap))), (Prod.mk 19 (Go.Value.int Go.IntKind.i64 ((↑n : Int)))), (Prod.mk 20 (Go.Value.int Go.IntKind.i64 (Go.IntKind.wrap Go.IntKind.i64 (i + 1))))] [(Prod.mk 1000 (AObj.cells [(Go.Value.slice (Option.some (Go.Addr.mk 500 0 Option.none)) (n) (cap))] 24 false 1)), (Prod.mk 500 (AObj.sym (ps) false 2))]))))))))))))))))))
 False)
 False)
 (X 1 [] [])) := by kernel_rfl
def s19 (i : Int) : Slots := [(1, .pointer (some ⟨1000, 0, none⟩)), (4, .int .i64 i)]
def r19 (C : Ct) (L : AtLoop) (n cap : Nat) (ps : List Value) (i : Int) (B : Bx) (X : Xx) (k : List D → Prop) : Prop := wpRound Try.prog (hT C) L 19 0 (s19 i) (tb n cap ps) B X (dataK k)
theorem r19_text (C : Ct) (L : AtLoop) (n : Nat) (cap : Nat) (ps : List Go.Value) (i : Int) (B : Bx) (X : Xx) (k : List D → Prop) : r19 C L n cap ps i B X k =
 (bcase (decide (i < (↑n : Int)))
 (bcase (decide (0 ≤ i))
 (bcase (decide (i < (↑n : Int)))
 (∃ n1 : Int,
 (∃ n2 : Int,
 ((At (ps) (0 + Int.toNat i * 2) 2 [(Go.Value.int Go.IntKind.i64 (n1)), (Go.Value.int Go.IntKind.i64 (n2))]) ∧
 (bcase (decide (0 ≤ n1))
 (bcase (decide (n1 ≤ 20000))
 (bcase (decide (0 ≤ n2))
 (bcase (decide (n2 ≤ 20000))
 (bcase (i == 0)
 (B [(Prod.mk 1 (Go.Value.pointer (Option.some (Go.Addr.mk 1000 0 Option.none)))), (Prod.mk 4 (Go.Value.int Go.IntKind.i64 (Go.IntKind.wrap Go.IntKind.i64 (i + 1))))] [(Prod.mk 1000 (AObj.cells [(Go.Value.slice (Option.some (Go.Addr.mk 500 0 Option.none)) (n) (cap))] 24 false 1)), (Prod.mk 500 (AObj.sym (ps) false 2))])
 (bcase (decide (0 ≤ Go.IntKind.wrap Go.IntKind.i64 (i - 1)))
 (bcase (decide (Go.IntKind.wrap Go.IntKind.i64 (i - 1) < (↑n : Int)))
 (∃ n3 : Int,
 (∃ n4 : Int,
 ((At (ps) (0 + Int.toNat (Go.IntKind.wrap Go.IntKind.i64 (i - 1)) * 2) 2 [(Go.Value.int Go.IntKind.i64 (n3)), (Go.Value.int Go.IntKind.i64 (n4))]) ∧
 (bcase (decide (n1 ≤ n3))
 (k [(D.val (Go.Value.int Go.IntKind.i64 (i))), (D.val (Go.Value.int Go.IntKind.i64 (9 : Int)))])
 (bcase (decide (n2 < n4))
 (k [(D.val (Go.Value.int Go.IntKind.i64 (i))), (D.val (Go.Value.int Go.IntKind.i64 (9 : Int)))])
 (bcase (decide (Go.IntKind.wrap Go.IntKind.i64 (n2 - n4) > Go.IntKind.wrap Go.IntKind.i64 (n1 - n3)))
 (k [(D.val (Go.Value.int Go.IntKind.i64 (i))), (D.val (Go.Value.int Go.IntKind.i64 (22 : Int)))])
 (B [(Prod.mk 1 (Go.Value.pointer (Option.some (Go.Addr.mk 1000 0 Option.none)))), (Prod.mk 4 (Go.Value.int Go.IntKind.i64 (Go.IntKind.wrap Go.IntKind.i64 (i + 1))))] [(Prod.mk 1000 (AObj.cells [(Go.Value.slice (Option.some (Go.Addr.mk 500 0 Option.none)) (n) (cap))] 24 false 1)), (Prod.mk 500 (AObj.sym (ps) false 2))])))))))
 False)
 False))
 (k [(D.val (Go.Value.int Go.IntKind.i64 (i))), (D.val (Go.Value.int Go.IntKind.i64 (2 : Int)))]))
 (k [(D.val (Go.Value.int Go.IntKind.i64 (i))), (D.val (Go.Value.int Go.IntKind.i64 (2 : Int)))]))
 (k [(D.val (Go.Value.int Go.IntKind.i64 (i))), (D.val (Go.Value.int Go.IntKind.i64 (2 : Int)))]))
 (k [(D.val (Go.Value.int Go.IntKind.i64 (i))), (D.val (Go.Value.int Go.IntKind.i64 (2 : Int)))])))))
 False)
 False)
 (X 0 [] [])) := by kernel_rfl
def s21 (n cap : Nat) (tm i : Int) : Slots := [(1, .int .i64 tm), (5, S500 n cap), (6, .int .i64 i)]
def r21 (C : Ct) (L : AtLoop) (n cap : Nat) (ps : List Value) (tm i : Int) (B : Bx) (X : Xx) (k : List D → Prop) : Prop := wpRound Try.prog (hT C) L 21 0 (s21 n cap tm i) [B500 ps] B X (dataK k)
theorem r21_text (C : Ct) (L : AtLoop) (n : Nat) (cap : Nat) (ps : List Go.Value) (tm : Int) (i : Int) (B : Bx) (X : Xx) (k : List D → Prop) : r21 C L n cap ps tm i B X k =
 (bcase (decide (i < (↑n : Int)))
 (bcase (decide (0 ≤ i))
 (bcase (decide (i < (↑n : Int)))
 (∃ n1 : Int,
 ((At (ps) (0 + Int.toNat i * 2) 1 [(Go.Value.int Go.IntKind.i64 (n1))]) ∧
 (bcase (decide (tm ≤ n1))
 (bcase (decide (0 ≤ Go.IntKind.wrap Go.IntKind.i64 (i - 1)))
 (bcase (decide (Go.IntKind.wrap Go.IntKind.i64 (i - 1) < (↑n : Int)))
 (∃ n2 : Int,
 (∃ n3 : Int,
 ((At (ps) (0 + Int.toNat (Go.IntKind.wrap Go.IntKind.i64 (i - 1)) * 2) 2 [(Go.Value.int Go.IntKind.i64 (n2)), (Go.Value.int Go.IntKind.i64 (n3))]) ∧
 (bcase (decide (0 ≤ i))
 (bcase (decide (i < (↑n : Int)))
 (∃ n4 : Int,
 (∃ n5 : Int,
 ((At (ps) (0 + Int.toNat i * 2) 2 [(Go.Value.int Go.IntKind.i64 (n4)), (Go.Value.int Go.IntKind.i64 (n5))]) ∧
 (((((Go.Value.pointer (Option.some (Go.Addr.mk 1001 0 Option.none))) = (Go.Value.pointer (Option.some (Go.Addr.mk 1001 0 Option.none)))) ∧
 ((Option.some (AObj.cells [(Go.Value.int Go.IntKind.i64 (0 : Int)), (Go.Value.int Go.IntKind.i64 (0 : Int))] 154 false 2)) = (Option.some (AObj.cells [(Go.Value.int Go.IntKind.i64 (0 : Int)), (Go.Value.int Go.IntKind.i64 (0 : Int))] 154 false 2)))) ∧
 ((((Go.Value.pointer (Option.some (Go.Addr.mk 1000 0 Option.none))) = (Go.Value.pointer (Option.some (Go.Addr.mk 1000 0 Option.none)))) ∧
 ((Option.some (AObj.cells [(Go.Value.int Go.IntKind.i64 (0 : Int)), (Go.Value.int Go.IntKind.i64 (0 : Int))] 154 false 2)) = (Option.some (AObj.cells [(Go.Value.int Go.IntKind.i64 (0 : Int)), (Go.Value.int Go.IntKind.i64 (0 : Int))] 154 false 2)))) ∧
 ((∃ n6 : Int,
 (∃ n7 : Int,
 ((At (ps) (0 + Int.toNat i * 2) 2 [(Go.Value.int Go.IntKind.i64 (n6)), (Go.Value.int Go.IntKind.i64 (n7))]) ∧
 ((Go.Value.agg [(Go.Value.int Go.IntKind.i64 (n6)), (Go.Value.int Go.IntKind.i64 (n7))].toArray) = (Go.Value.agg [(Go.Value.int Go.IntKind.i64 (n4)), (Go.Value.int Go.IntKind.i64 (n5))].toArray))))) ∧
 ((bcase (decide (0 ≤ i))
 (bcase (decide (i < (↑n : Int)))
 ((Go.Value.pointer (Option.some (Go.Addr.mk 500 (0 + Int.toNat i * 2) Option.none))) = (Go.Value.pointer (Option.some (Go.Addr.mk 500 (0 + Int.toNat i * 2) Option.none))))
 False)
 False) ∧
 (((Go.Value.int Go.IntKind.i64 (i)) = (Go.Value.int Go.IntKind.i64 (i))) ∧
 (((Go.Value.slice (Option.some (Go.Addr.mk 500 0 Option.none)) (n) (cap)) = (Go.Value.slice (Option.some (Go.Addr.mk 500 0 Option.none)) (n) (cap))) ∧
 ((∃ n6 : Int,
 (∃ n7 : Int,
 ((At (ps) (0 + Int.toNat (Go.IntKind.wrap Go.IntKind.i64 (i - 1)) * 2) 2 [(Go.Value.int Go.IntKind.i64 (n6)), (Go.Value.int Go.IntKind.i64 (n7))]) ∧
 ((Go.Value.agg [(Go.Value.int Go.IntKind.i64 (n6)), (Go.Value.int Go.IntKind.i64 (n7))].toArray) = (Go.Value.agg [(Go.Value.int Go.IntKind.i64 (n2)), (Go.Value.int Go.IntKind.i64 (n3))].toArray))))) ∧
 ((bcase (decide (0 ≤ Go.IntKind.wrap Go.IntKind.i64 (i - 1)))
 (bcase (decide (Go.IntKind.wrap Go.IntKind.i64 (i - 1) < (↑n : Int)))
 ((Go.Value.pointer (Option.some (Go.Addr.mk 500 (0 + Int.toNat (Go.IntKind.wrap Go.IntKind.i64 (i - 1)) * 2) Option.none))) = (Go.Value.pointer (Option.some (Go.Addr.mk 500 (0 + Int.toNat (Go.IntKind.wrap Go.IntKind.i64 (i - 1)) * 2) Option.none))))
 False)
 False) ∧
 (((Go.Value.int Go.IntKind.i64 (Go.IntKind.wrap Go.IntKind.i64 (i - 1))) = (Go.Value.int Go.IntKind.i64 (Go.IntKind.wrap Go.IntKind.i64 (i - 1)))) ∧
 (((Go.Value.int Go.IntKind.i64 (i)) = (Go.Value.int Go.IntKind.i64 (i))) ∧
 (((Go.Value.slice (Option.some (Go.Addr.mk 500 0 Option.none)) (n) (cap)) = (Go.Value.slice (Option.some (Go.Addr.mk 500 0 Option.none)) (n) (cap))) ∧
 True))))))))))) ∧
 (((∃ n6 : Int,
 (∃ n7 : Int,
 ((At (ps) (0 + Int.toNat i * 2) 2 [(Go.Value.int Go.IntKind.i64 (n6)), (Go.Value.int Go.IntKind.i64 (n7))]) ∧
 ((Go.Value.agg [(Go.Value.int Go.IntKind.i64 (n6)), (Go.Value.int Go.IntKind.i64 (n7))].toArray) = (Go.Value.agg [(Go.Value.int Go.IntKind.i64 (n4)), (Go.Value.int Go.IntKind.i64 (n5))].toArray))))) ∧
 ((bcase (decide (0 ≤ i))
 (bcase (decide (i < (↑n : Int)))
 ((Go.Value.pointer (Option.some (Go.Addr.mk 500 (0 + Int.toNat i * 2) Option.none))) = (Go.Value.pointer (Option.some (Go.Addr.mk 500 (0 + Int.toNat i * 2) Option.none))))
 False)
 False) ∧
 (((Go.Value.int Go.IntKind.i64 (i)) = (Go.Value.int Go.IntKind.i64 (i))) ∧
 (((Go.Value.slice (Option.some (Go.Addr.mk 500 0 Option.none)) (n) (cap)) = (Go.Value.slice (Option.some (Go.Addr.mk 500 0 Option.none)) (n) (cap))) ∧
 True)))) ∧
 (True ∧
 (bcase (Go.IntKind.wrap Go.IntKind.i64 (n4 - n2) != 0)
 ((((Go.Value.int Go.IntKind.i64 (Go.IntKind.wrap Go.IntKind.i64 (n3 + Go.IntKind.wrap Go.IntKind.i64 (Int.tdiv (Go.IntKind.wrap Go.IntKind.i64 (Go.IntKind.wrap Go.IntKind.i64 (tm - n2) * Go.IntKind.wrap Go.IntKind.i64 (n5 - n3))) (Go.IntKind.wrap Go.IntKind.i64 (n4 - n2)))))) = (Go.Value.int Go.IntKind.i64 (Go.IntKind.wrap Go.IntKind.i64 (n3 + Go.IntKind.wrap Go.IntKind.i64 (Int.tdiv (Go.IntKind.wrap Go.IntKind.i64 (Go.IntKind.wrap Go.IntKind.i64 (tm - n2) * Go.IntKind.wrap Go.IntKind.i64 (n5 - n3))) (Go.IntKind.wrap Go.IntKind.i64 (n4 - n2))))))) ∧
 ((bcase (Go.IntKind.wrap Go.IntKind.i64 (n4 - n2) != 0)
 ((Go.Value.int Go.IntKind.i64 (Go.IntKind.wrap Go.IntKind.i64 (Int.tdiv (Go.IntKind.wrap Go.IntKind.i64 (Go.IntKind.wrap Go.IntKind.i64 (tm - n2) * Go.IntKind.wrap Go.IntKind.i64 (n5 - n3))) (Go.IntKind.wrap Go.IntKind.i64 (n4 - n2))))) = (Go.Value.int Go.IntKind.i64 (Go.IntKind.wrap Go.IntKind.i64 (Int.tdiv (Go.IntKind.wrap Go.IntKind.i64 (Go.IntKind.wrap Go.IntKind.i64 (tm - n2) * Go.IntKind.wrap Go.IntKind.i64 (n5 - n3))) (Go.IntKind.wrap Go.IntKind.i64 (n4 - n2))))))
 False) ∧
 (((Go.Value.int Go.IntKind.i64 (Go.IntKind.wrap Go.IntKind.i64 (n4 - n2))) = (Go.Value.int Go.IntKind.i64 (Go.IntKind.wrap Go.IntKind.i64 (n4 - n2)))) ∧
 (((Go.Value.int Go.IntKind.i64 (n2)) = (Go.Value.int Go.IntKind.i64 (n2))) ∧
 (((Go.Value.pointer (Option.some (Go.Addr.mk 1000 0 Option.none))) = (Go.Value.pointer (Option.some (Go.Addr.mk 1000 0 Option.none)))) ∧
 (((Go.Value.int Go.IntKind.i64 (n4)) = (Go.Value.int Go.IntKind.i64 (n4))) ∧
 (((Go.Value.pointer (Option.some (Go.Addr.mk 1001 0 Option.none))) = (Go.Value.pointer (Option.some (Go.Addr.mk 1001 0 Option.none)))) ∧
 (((Go.Value.int Go.IntKind.i64 (Go.IntKind.wrap Go.IntKind.i64 (Go.IntKind.wrap Go.IntKind.i64 (tm - n2) * Go.IntKind.wrap Go.IntKind.i64 (n5 - n3)))) = (Go.Value.int Go.IntKind.i64 (Go.IntKind.wrap Go.IntKind.i64 (Go.IntKind.wrap Go.IntKind.i64 (tm - n2) * Go.IntKind.wrap Go.IntKind.i64 (n5 - n3))))) ∧
 (((Go.Value.int Go.IntKind.i64 (Go.IntKind.wrap Go.IntKind.i64 (n5 - n3))) = (Go.Value.int Go.IntKind.i64 (Go.IntKind.wrap Go.IntKind.i64 (n5 - n3)))) ∧
 (((Go.Value.int Go.IntKind.i64 (n3)) = (Go.Value.int Go.IntKind.i64 (n3))) ∧
 (((Go.Value.pointer (Option.some (Go.Addr.mk 1000 1 Option.none))) = (Go.Value.pointer (Option.some (Go.Addr.mk 1000 1 Option.none)))) ∧
 (((Go.Value.int Go.IntKind.i64 (n5)) = (Go.Value.int Go.IntKind.i64 (n5))) ∧
 (((Go.Value.pointer (Option.some (Go.Addr.mk 1001 1 Option.none))) = (Go.Value.pointer (Option.some (Go.Addr.mk 1001 1 Option.none)))) ∧
 (((Go.Value.int Go.IntKind.i64 (Go.IntKind.wrap Go.IntKind.i64 (tm - n2))) = (Go.Value.int Go.IntKind.i64 (Go.IntKind.wrap Go.IntKind.i64 (tm - n2)))) ∧
 (((Go.Value.int Go.IntKind.i64 (n2)) = (Go.Value.int Go.IntKind.i64 (n2))) ∧
 (((Go.Value.pointer (Option.some (Go.Addr.mk 1000 0 Option.none))) = (Go.Value.pointer (Option.some (Go.Addr.mk 1000 0 Option.none)))) ∧
 (((Go.Value.int Go.IntKind.i64 (tm)) = (Go.Value.int Go.IntKind.i64 (tm))) ∧
 (((Go.Value.int Go.IntKind.i64 (n3)) = (Go.Value.int Go.IntKind.i64 (n3))) ∧
 (((Go.Value.pointer (Option.some (Go.Addr.mk 1000 1 Option.none))) = (Go.Value.pointer (Option.some (Go.Addr.mk 1000 1 Option.none)))) ∧
 True))))))))))))))))))) ∧
 (True ∧
 (k [(D.val (Go.Value.int Go.IntKind.i64 (Go.IntKind.wrap Go.IntKind.i64 (n3 + Go.IntKind.wrap Go.IntKind.i64 (Int.tdiv (Go.IntKind.wrap Go.IntKind.i64 (Go.IntKind.wrap Go.IntKind.i64 (tm - n2) * Go.IntKind.wrap Go.IntKind.i64 (n5 - n3))) (Go.IntKind.wrap Go.IntKind.i64 (n4 - n2)))))))])))
 False)))))))
 False)
 False))))
 False)
 False)
 (B [(Prod.mk 1 (Go.Value.int Go.IntKind.i64 (tm))), (Prod.mk 5 (Go.Value.slice (Option.some (Go.Addr.mk 500 0 Option.none)) (n) (cap))), (Prod.mk 6 (Go.Value.int Go.IntKind.i64 (Go.IntKind.wrap Go.IntKind.i64 (i + 1))))] [(Prod.mk 500 (AObj.sym (ps) false 2))]))))
 False)
 False)
 (X 0 [(Prod.mk 5 (Go.Value.slice (Option.some (Go.Addr.mk 500 0 Option.none)) (n) (cap)))] [(Prod.mk 500 (AObj.sym (ps) false 2))])) := by kernel_rfl
def s92 (tm i : Int) : Slots := [(1, .int .i64 tm), (2, .pointer (some ⟨1000, 0, none⟩)), (5, .int .i64 i)]
def r92 (C : Ct) (L : AtLoop) (n cap : Nat) (ps : List Value) (tm i : Int) (B : Bx) (X : Xx) (k : List D → Prop) : Prop := wpRound Try.prog (hT C) L 92 0 (s92 tm i) (tb n cap ps) B X (dataK k)
theorem r92_text (C : Ct) (L : AtLoop) (n : Nat) (cap : Nat) (ps : List Go.Value) (tm : Int) (i : Int) (B : Bx) (X : Xx) (k : List D → Prop) : r92 C L n cap ps tm i B X k =
 (bcase (decide (i < (↑n : Int)))
 (bcase (decide (0 ≤ i))
 (bcase (decide (i < (↑n : Int)))
 (∃ n1 : Int,
 ((At (ps) (0 + Int.toNat i * 2) 1 [(Go.Value.int Go.IntKind.i64 (n1))]) ∧
 (bcase (decide (n1 < tm))
 (B [(Prod.mk 1 (Go.Value.int Go.IntKind.i64 (tm))), (Prod.mk 2 (Go.Value.pointer (Option.some (Go.Addr.mk 1000 0 Option.none)))), (Prod.mk 5 (Go.Value.int Go.IntKind.i64 (Go.IntKind.wrap Go.IntKind.i64 (i + 1))))] [(Prod.mk 1000 (AObj.cells [(Go.Value.slice (Option.some (Go.Addr.mk 500 0 Option.none)) (n) (cap))] 24 false 1)), (Prod.mk 500 (AObj.sym (ps) false 2))])
 (X 0 [(Prod.mk 1 (Go.Value.int Go.IntKind.i64 (tm))), (Prod.mk 2 (Go.Value.pointer (Option.some (Go.Addr.mk 1000 0 Option.none)))), (Prod.mk 5 (Go.Value.int Go.IntKind.i64 (i)))] [(Prod.mk 1000 (AObj.cells [(Go.Value.slice (Option.some (Go.Addr.mk 500 0 Option.none)) (n) (cap))] 24 false 1)), (Prod.mk 500 (AObj.sym (ps) false 2))]))))
 False)
 False)
 (X 0 [(Prod.mk 1 (Go.Value.int Go.IntKind.i64 (tm))), (Prod.mk 2 (Go.Value.pointer (Option.some (Go.Addr.mk 1000 0 Option.none)))), (Prod.mk 5 (Go.Value.int Go.IntKind.i64 (i)))] [(Prod.mk 1000 (AObj.cells [(Go.Value.slice (Option.some (Go.Addr.mk 500 0 Option.none)) (n) (cap))] 24 false 1)), (Prod.mk 500 (AObj.sym (ps) false 2))])) := by kernel_rfl
def n16 (C : Ct) (L : AtLoop) (k : List D → Prop) : Prop := wpNext Try.prog (hT C) L 16 1 .normal [] [] (dataK k)
theorem n16_text (C : Ct) (L : AtLoop) (k : List D → Prop) : n16 C L k =
 (k [(D.val (Go.Value.int Go.IntKind.i64 (0 : Int))), (D.val (Go.Value.int Go.IntKind.i64 (0 : Int)))]) := by kernel_rfl
def n19 (C : Ct) (L : AtLoop) (k : List D → Prop) : Prop := wpNext Try.prog (hT C) L 19 0 .normal [] [] (dataK k)
theorem n19_text (C : Ct) (L : AtLoop) (k : List D → Prop) : n19 C L k =
 (k [(D.val (Go.Value.int Go.IntKind.i64 (0 : Int))), (D.val (Go.Value.int Go.IntKind.i64 (0 : Int)))]) := by kernel_rfl
def n21 (C : Ct) (L : AtLoop) (n cap : Nat) (ps : List Value) (k : List D → Prop) : Prop := wpNext Try.prog (hT C) L 21 0 .normal [(5, S500 n cap)] [B500 ps] (dataK k)
theorem n21_text (C : Ct) (L : AtLoop) (n : Nat) (cap : Nat) (ps : List Go.Value) (k : List D → Prop) : n21 C L n cap ps k =
 (bcase (decide (0 ≤ Go.IntKind.wrap Go.IntKind.i64 ((↑n : Int) - 1)))
 (bcase (decide (Go.IntKind.wrap Go.IntKind.i64 ((↑n : Int) - 1) < (↑n : Int)))
 (∃ n1 : Int,
 ((At (ps) (Go.Addr.off { block := 500, off := 0 + Int.toNat (Go.IntKind.wrap Go.IntKind.i64 ((↑n : Int) - 1)) * 2 } + 1) 1 [(Go.Value.int Go.IntKind.i64 (n1))]) ∧
 (k [(D.val (Go.Value.int Go.IntKind.i64 (n1)))])))
 False)
 False) := by kernel_rfl
def n92 (C : Ct) (L : AtLoop) (n cap : Nat) (ps : List Value) (tm i : Int) (k : List D → Prop) : Prop := wpNext Try.prog (hT C) L 92 0 .normal (s92 tm i) (tb n cap ps) (dataK k)
theorem n92_text (C : Ct) (L : AtLoop) (n : Nat) (cap : Nat) (ps : List Go.Value) (tm : Int) (i : Int) (k : List D → Prop) : n92 C L n cap ps tm i k =
 (bcase (i == 0)
 (bcase (decide (0 < (↑n : Int)))
 (∃ n1 : Int,
 ((At (ps) 1 1 [(Go.Value.int Go.IntKind.i64 (n1))]) ∧
 (k [(D.val (Go.Value.int Go.IntKind.i64 (n1)))])))
 False)
 (bcase (i == (↑n : Int))
 (bcase (decide (0 ≤ Go.IntKind.wrap Go.IntKind.i64 (i - 1)))
 (bcase (decide (Go.IntKind.wrap Go.IntKind.i64 (i - 1) < (↑n : Int)))
 (∃ n1 : Int,
 ((At (ps) (Go.Addr.off { block := 500, off := 0 + Int.toNat (Go.IntKind.wrap Go.IntKind.i64 (i - 1)) * 2 } + 1) 1 [(Go.Value.int Go.IntKind.i64 (n1))]) ∧
 (k [(D.val (Go.Value.int Go.IntKind.i64 (n1)))])))
 False)
 False)
 (bcase (decide (0 ≤ Go.IntKind.wrap Go.IntKind.i64 (i - 1)))
 (bcase (decide (Go.IntKind.wrap Go.IntKind.i64 (i - 1) < (↑n : Int)))
 (∃ n1 : Int,
 (∃ n2 : Int,
 ((At (ps) (0 + Int.toNat (Go.IntKind.wrap Go.IntKind.i64 (i - 1)) * 2) 2 [(Go.Value.int Go.IntKind.i64 (n1)), (Go.Value.int Go.IntKind.i64 (n2))]) ∧
 (bcase (decide (0 ≤ i))
 (bcase (decide (i < (↑n : Int)))
 (∃ n3 : Int,
 (∃ n4 : Int,
 ((At (ps) (0 + Int.toNat i * 2) 2 [(Go.Value.int Go.IntKind.i64 (n3)), (Go.Value.int Go.IntKind.i64 (n4))]) ∧
 (((((Go.Value.pointer (Option.some (Go.Addr.mk 1002 0 Option.none))) = (Go.Value.pointer (Option.some (Go.Addr.mk 1002 0 Option.none)))) ∧
 ((Option.some (AObj.cells [(Go.Value.int Go.IntKind.i64 (0 : Int)), (Go.Value.int Go.IntKind.i64 (0 : Int))] 154 false 2)) = (Option.some (AObj.cells [(Go.Value.int Go.IntKind.i64 (0 : Int)), (Go.Value.int Go.IntKind.i64 (0 : Int))] 154 false 2)))) ∧
 ((((Go.Value.pointer (Option.some (Go.Addr.mk 1001 0 Option.none))) = (Go.Value.pointer (Option.some (Go.Addr.mk 1001 0 Option.none)))) ∧
 ((Option.some (AObj.cells [(Go.Value.int Go.IntKind.i64 (0 : Int)), (Go.Value.int Go.IntKind.i64 (0 : Int))] 154 false 2)) = (Option.some (AObj.cells [(Go.Value.int Go.IntKind.i64 (0 : Int)), (Go.Value.int Go.IntKind.i64 (0 : Int))] 154 false 2)))) ∧
 ((∃ n5 : Int,
 (∃ n6 : Int,
 ((At (ps) (0 + Int.toNat i * 2) 2 [(Go.Value.int Go.IntKind.i64 (n5)), (Go.Value.int Go.IntKind.i64 (n6))]) ∧
 ((Go.Value.agg [(Go.Value.int Go.IntKind.i64 (n5)), (Go.Value.int Go.IntKind.i64 (n6))].toArray) = (Go.Value.agg [(Go.Value.int Go.IntKind.i64 (n3)), (Go.Value.int Go.IntKind.i64 (n4))].toArray))))) ∧
 ((bcase (decide (0 ≤ i))
 (bcase (decide (i < (↑n : Int)))
 ((Go.Value.pointer (Option.some (Go.Addr.mk 500 (0 + Int.toNat i * 2) Option.none))) = (Go.Value.pointer (Option.some (Go.Addr.mk 500 (0 + Int.toNat i * 2) Option.none))))
 False)
 False) ∧
 (((Go.Value.int Go.IntKind.i64 (i)) = (Go.Value.int Go.IntKind.i64 (i))) ∧
 (((Go.Value.slice (Option.some (Go.Addr.mk 500 0 Option.none)) (n) (cap)) = (Go.Value.slice (Option.some (Go.Addr.mk 500 0 Option.none)) (n) (cap))) ∧
 (((Go.Value.pointer (Option.some (Go.Addr.mk 1000 0 Option.none))) = (Go.Value.pointer (Option.some (Go.Addr.mk 1000 0 Option.none)))) ∧
 ((∃ n5 : Int,
 (∃ n6 : Int,
 ((At (ps) (0 + Int.toNat (Go.IntKind.wrap Go.IntKind.i64 (i - 1)) * 2) 2 [(Go.Value.int Go.IntKind.i64 (n5)), (Go.Value.int Go.IntKind.i64 (n6))]) ∧
 ((Go.Value.agg [(Go.Value.int Go.IntKind.i64 (n5)), (Go.Value.int Go.IntKind.i64 (n6))].toArray) = (Go.Value.agg [(Go.Value.int Go.IntKind.i64 (n1)), (Go.Value.int Go.IntKind.i64 (n2))].toArray))))) ∧
 ((bcase (decide (0 ≤ Go.IntKind.wrap Go.IntKind.i64 (i - 1)))
 (bcase (decide (Go.IntKind.wrap Go.IntKind.i64 (i - 1) < (↑n : Int)))
 ((Go.Value.pointer (Option.some (Go.Addr.mk 500 (0 + Int.toNat (Go.IntKind.wrap Go.IntKind.i64 (i - 1)) * 2) Option.none))) = (Go.Value.pointer (Option.some (Go.Addr.mk 500 (0 + Int.toNat (Go.IntKind.wrap Go.IntKind.i64 (i - 1)) * 2) Option.none))))
 False)
 False) ∧
 (((Go.Value.int Go.IntKind.i64 (Go.IntKind.wrap Go.IntKind.i64 (i - 1))) = (Go.Value.int Go.IntKind.i64 (Go.IntKind.wrap Go.IntKind.i64 (i - 1)))) ∧
 (((Go.Value.int Go.IntKind.i64 (i)) = (Go.Value.int Go.IntKind.i64 (i))) ∧
 (((Go.Value.slice (Option.some (Go.Addr.mk 500 0 Option.none)) (n) (cap)) = (Go.Value.slice (Option.some (Go.Addr.mk 500 0 Option.none)) (n) (cap))) ∧
 (((Go.Value.pointer (Option.some (Go.Addr.mk 1000 0 Option.none))) = (Go.Value.pointer (Option.some (Go.Addr.mk 1000 0 Option.none)))) ∧
 True))))))))))))) ∧
 (((∃ n5 : Int,
 (∃ n6 : Int,
 ((At (ps) (0 + Int.toNat i * 2) 2 [(Go.Value.int Go.IntKind.i64 (n5)), (Go.Value.int Go.IntKind.i64 (n6))]) ∧
 ((Go.Value.agg [(Go.Value.int Go.IntKind.i64 (n5)), (Go.Value.int Go.IntKind.i64 (n6))].toArray) = (Go.Value.agg [(Go.Value.int Go.IntKind.i64 (n3)), (Go.Value.int Go.IntKind.i64 (n4))].toArray))))) ∧
 ((bcase (decide (0 ≤ i))
 (bcase (decide (i < (↑n : Int)))
 ((Go.Value.pointer (Option.some (Go.Addr.mk 500 (0 + Int.toNat i * 2) Option.none))) = (Go.Value.pointer (Option.some (Go.Addr.mk 500 (0 + Int.toNat i * 2) Option.none))))
 False)
 False) ∧
 (((Go.Value.int Go.IntKind.i64 (i)) = (Go.Value.int Go.IntKind.i64 (i))) ∧
 (((Go.Value.slice (Option.some (Go.Addr.mk 500 0 Option.none)) (n) (cap)) = (Go.Value.slice (Option.some (Go.Addr.mk 500 0 Option.none)) (n) (cap))) ∧
 (((Go.Value.pointer (Option.some (Go.Addr.mk 1000 0 Option.none))) = (Go.Value.pointer (Option.some (Go.Addr.mk 1000 0 Option.none)))) ∧
 True))))) ∧
 (True ∧
 (bcase (Go.IntKind.wrap Go.IntKind.i64 (n3 - n1) != 0)
 ((((Go.Value.int Go.IntKind.i64 (Go.IntKind.wrap Go.IntKind.i64 (n2 + Go.IntKind.wrap Go.IntKind.i64 (Int.tdiv (Go.IntKind.wrap Go.IntKind.i64 (Go.IntKind.wrap Go.IntKind.i64 (n4 - n2) * Go.IntKind.wrap Go.IntKind.i64 (tm - n1))) (Go.IntKind.wrap Go.IntKind.i64 (n3 - n1)))))) = (Go.Value.int Go.IntKind.i64 (Go.IntKind.wrap Go.IntKind.i64 (n2 + Go.IntKind.wrap Go.IntKind.i64 (Int.tdiv (Go.IntKind.wrap Go.IntKind.i64 (Go.IntKind.wrap Go.IntKind.i64 (n4 - n2) * Go.IntKind.wrap Go.IntKind.i64 (tm - n1))) (Go.IntKind.wrap Go.IntKind.i64 (n3 - n1))))))) ∧
 ((bcase (Go.IntKind.wrap Go.IntKind.i64 (n3 - n1) != 0)
 ((Go.Value.int Go.IntKind.i64 (Go.IntKind.wrap Go.IntKind.i64 (Int.tdiv (Go.IntKind.wrap Go.IntKind.i64 (Go.IntKind.wrap Go.IntKind.i64 (n4 - n2) * Go.IntKind.wrap Go.IntKind.i64 (tm - n1))) (Go.IntKind.wrap Go.IntKind.i64 (n3 - n1))))) = (Go.Value.int Go.IntKind.i64 (Go.IntKind.wrap Go.IntKind.i64 (Int.tdiv (Go.IntKind.wrap Go.IntKind.i64 (Go.IntKind.wrap Go.IntKind.i64 (n4 - n2) * Go.IntKind.wrap Go.IntKind.i64 (tm - n1))) (Go.IntKind.wrap Go.IntKind.i64 (n3 - n1))))))
 False) ∧
 (((Go.Value.int Go.IntKind.i64 (Go.IntKind.wrap Go.IntKind.i64 (n3 - n1))) = (Go.Value.int Go.IntKind.i64 (Go.IntKind.wrap Go.IntKind.i64 (n3 - n1)))) ∧
 (((Go.Value.int Go.IntKind.i64 (n1)) = (Go.Value.int Go.IntKind.i64 (n1))) ∧
 (((Go.Value.pointer (Option.some (Go.Addr.mk 1001 0 Option.none))) = (Go.Value.pointer (Option.some (Go.Addr.mk 1001 0 Option.none)))) ∧
 (((Go.Value.int Go.IntKind.i64 (n3)) = (Go.Value.int Go.IntKind.i64 (n3))) ∧
 (((Go.Value.pointer (Option.some (Go.Addr.mk 1002 0 Option.none))) = (Go.Value.pointer (Option.some (Go.Addr.mk 1002 0 Option.none)))) ∧
 (((Go.Value.int Go.IntKind.i64 (Go.IntKind.wrap Go.IntKind.i64 (Go.IntKind.wrap Go.IntKind.i64 (n4 - n2) * Go.IntKind.wrap Go.IntKind.i64 (tm - n1)))) = (Go.Value.int Go.IntKind.i64 (Go.IntKind.wrap Go.IntKind.i64 (Go.IntKind.wrap Go.IntKind.i64 (n4 - n2) * Go.IntKind.wrap Go.IntKind.i64 (tm - n1))))) ∧
 (((Go.Value.int Go.IntKind.i64 (Go.IntKind.wrap Go.IntKind.i64 (tm - n1))) = (Go.Value.int Go.IntKind.i64 (Go.IntKind.wrap Go.IntKind.i64 (tm - n1)))) ∧
 (((Go.Value.int Go.IntKind.i64 (n1)) = (Go.Value.int Go.IntKind.i64 (n1))) ∧
 (((Go.Value.pointer (Option.some (Go.Addr.mk 1001 0 Option.none))) = (Go.Value.pointer (Option.some (Go.Addr.mk 1001 0 Option.none)))) ∧
 (((Go.Value.int Go.IntKind.i64 (tm)) = (Go.Value.int Go.IntKind.i64 (tm))) ∧
 (((Go.Value.int Go.IntKind.i64 (Go.IntKind.wrap Go.IntKind.i64 (n4 - n2))) = (Go.Value.int Go.IntKind.i64 (Go.IntKind.wrap Go.IntKind.i64 (n4 - n2)))) ∧
 (((Go.Value.int Go.IntKind.i64 (n2)) = (Go.Value.int Go.IntKind.i64 (n2))) ∧
 (((Go.Value.pointer (Option.some (Go.Addr.mk 1001 1 Option.none))) = (Go.Value.pointer (Option.some (Go.Addr.mk 1001 1 Option.none)))) ∧
 (((Go.Value.int Go.IntKind.i64 (n4)) = (Go.Value.int Go.IntKind.i64 (n4))) ∧
 (((Go.Value.pointer (Option.some (Go.Addr.mk 1002 1 Option.none))) = (Go.Value.pointer (Option.some (Go.Addr.mk 1002 1 Option.none)))) ∧
 (((Go.Value.int Go.IntKind.i64 (n2)) = (Go.Value.int Go.IntKind.i64 (n2))) ∧
 (((Go.Value.pointer (Option.some (Go.Addr.mk 1001 1 Option.none))) = (Go.Value.pointer (Option.some (Go.Addr.mk 1001 1 Option.none)))) ∧
 True))))))))))))))))))) ∧
 (True ∧
 (k [(D.val (Go.Value.int Go.IntKind.i64 (Go.IntKind.wrap Go.IntKind.i64 (n2 + Go.IntKind.wrap Go.IntKind.i64 (Int.tdiv (Go.IntKind.wrap Go.IntKind.i64 (Go.IntKind.wrap Go.IntKind.i64 (n4 - n2) * Go.IntKind.wrap Go.IntKind.i64 (tm - n1))) (Go.IntKind.wrap Go.IntKind.i64 (n3 - n1)))))))])))
 False)))))))
 False)
 False))))
 False)
 False))) := by kernel_rfl
def s88 (n cap : Nat) (i : Int) : Slots := [(5, S500 n cap), (6, .int .i64 n), (7, .int .i64 i)]
def r88 (C : Ct) (L : AtLoop) (n cap : Nat) (ps : List Value) (i : Int) (B : Bx) (X : Xx) (k : List D → Prop) : Prop := wpRound Try.prog (hT C) L 88 0 (s88 n cap i) [(500, .sym ps false 1)] B X (dataK k)
theorem r88_text (C : Ct) (L : AtLoop) (n : Nat) (cap : Nat) (ps : List Go.Value) (i : Int) (B : Bx) (X : Xx) (k : List D → Prop) : r88 C L n cap ps i B X k =
 (bcase (decide (i < (↑n : Int)))
 (bcase (decide (0 ≤ i))
 (bcase (decide (i < (↑n : Int)))
 (∃ n1 : Int,
 ((At (ps) (0 + Int.toNat i * 1) 1 [(Go.Value.int Go.IntKind.i64 (n1))]) ∧
 (bcase (n1 != 0)
 (k [(D.val (Go.Value.int Go.IntKind.i64 (n1)))])
 (B [(Prod.mk 5 (Go.Value.slice (Option.some (Go.Addr.mk 500 0 Option.none)) (n) (cap))), (Prod.mk 6 (Go.Value.int Go.IntKind.i64 ((↑n : Int)))), (Prod.mk 7 (Go.Value.int Go.IntKind.i64 (Go.IntKind.wrap Go.IntKind.i64 (i + 1))))] [(Prod.mk 500 (AObj.sym (ps) false 1))]))))
 False)
 False)
 (X 0 [] [])) := by kernel_rfl
def n88 (C : Ct) (L : AtLoop) (k : List D → Prop) : Prop := wpNext Try.prog (hT C) L 88 0 .normal [] [] (dataK k)
theorem n88_text (C : Ct) (L : AtLoop) (k : List D → Prop) : n88 C L k =
 (k [(D.val (Go.Value.int Go.IntKind.i64 (0 : Int)))]) := by kernel_rfl
end Go.Proofs
