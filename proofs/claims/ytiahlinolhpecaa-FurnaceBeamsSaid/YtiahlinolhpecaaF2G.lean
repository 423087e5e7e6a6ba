/- What is left to show of each function, written out; the kernel reckons it. -/
import Derived.Test.YtiahlinolhpecaaAbsSame
import Derived.Test.YtiahlinolhpecaaF2T
namespace Go.Proofs
open Go Go.Abs
set_option maxRecDepth 100000
set_option linter.unusedVariables false
abbrev hS (C : Ct) : Handler := handlerS C (fun g => g == 62) (hB C)
def j11 (C : Ct) (L : AtLoop) (n cap : Nat) (ps : List Value) (beat d after : Int) (k : List D → Prop) : Prop := wpFn Try.prog (hS C) L 0 11 #[.agg #[S500 n cap, .int .i64 beat], .int .i64 d, .int .i64 after] (heapOf [A500 ps]) (dataK k)
theorem j11_text (C : Ct) (L : AtLoop) (n : Nat) (cap : Nat) (ps : List Go.Value) (beat : Int) (d : Int) (after : Int) (k : List D → Prop) : j11 C L n cap ps beat d after k =
 (((Says C 14 [] [(D.val (Go.Value.bool true))]) ∧
 (bcase (decide ((↑n : Int) > 5))
 (k [(D.val (Go.Value.bool true))])
 (bcase (decide (0 + n * 1 ≤ List.length ps))
 (∃ n1 : Int,
 ((Says C 71 [(D.agg [(D.sl (n) 1 (List.take (n * 1) (List.drop 0 ps))), (D.val (Go.Value.int Go.IntKind.i64 (beat)))])] [(D.val (Go.Value.int Go.IntKind.i64 (n1)))]) ∧
 (bcase (n1 != 0)
 (k [(D.val (Go.Value.bool true))])
 (bcase (decide (0 ≤ d))
 (bcase (decide (d ≤ 999999999999))
 (bcase (decide (0 ≤ after))
 (bcase (decide (after ≤ 100000000))
 (bcase (decide (0 + n * 1 ≤ List.length ps))
 ((Says C 62 [(D.agg [(D.sl (n) 1 (List.take (n * 1) (List.drop 0 ps))), (D.val (Go.Value.int Go.IntKind.i64 (beat)))])] [(D.agg [(D.sl (n) 1 (List.take (n * 1) (List.drop 0 ps))), (D.val (Go.Value.int Go.IntKind.i64 (beat)))])]) ∧
 (bcase (decide (0 + n * 1 ≤ List.length (List.take (n * 1) (List.drop 0 ps))))
 (∃ n2 : Int,
 (∃ n3 : Int,
 ((Says C 65 [(D.agg [(D.sl (n) 1 (List.take (n * 1) (List.drop 0 (List.take (n * 1) (List.drop 0 ps))))), (D.val (Go.Value.int Go.IntKind.i64 (beat)))]), (D.val (Go.Value.int Go.IntKind.i64 (d)))] [(D.val (Go.Value.int Go.IntKind.i64 (n2))), (D.val (Go.Value.int Go.IntKind.i64 (n3)))]) ∧
 (bcase (n3 != 0)
 (bcase (decide (0 + n * 1 ≤ List.length ps))
 ((Says C 62 [(D.agg [(D.sl (n) 1 (List.take (n * 1) (List.drop 0 ps))), (D.val (Go.Value.int Go.IntKind.i64 (beat)))])] [(D.agg [(D.sl (n) 1 (List.take (n * 1) (List.drop 0 ps))), (D.val (Go.Value.int Go.IntKind.i64 (beat)))])]) ∧
 (bcase (decide (0 + n * 1 ≤ List.length (List.take (n * 1) (List.drop 0 ps))))
 (∃ n4 : Int,
 (∃ n5 : Int,
 ((Says C 64 [(D.agg [(D.sl (n) 1 (List.take (n * 1) (List.drop 0 (List.take (n * 1) (List.drop 0 ps))))), (D.val (Go.Value.int Go.IntKind.i64 (beat)))]), (D.val (Go.Value.int Go.IntKind.i64 (0 : Int))), (D.val (Go.Value.int Go.IntKind.i64 (d)))] [(D.val (Go.Value.int Go.IntKind.i64 (n4))), (D.val (Go.Value.int Go.IntKind.i64 (n5)))]) ∧
 (bcase (n3 == 12)
 (bcase (n2 == 0)
 (bcase (n5 == 0)
 (k [(D.val (Go.Value.bool true))])
 (k [(D.val (Go.Value.bool false))]))
 (k [(D.val (Go.Value.bool false))]))
 (k [(D.val (Go.Value.bool false))])))))
 False))
 False)
 (bcase (decide (0 ≤ n2))
 (bcase (decide (n2 ≤ Go.IntKind.wrap Go.IntKind.i64 (d - 1)))
 (bcase (decide (0 + n * 1 ≤ List.length ps))
 ((Says C 62 [(D.agg [(D.sl (n) 1 (List.take (n * 1) (List.drop 0 ps))), (D.val (Go.Value.int Go.IntKind.i64 (beat)))])] [(D.agg [(D.sl (n) 1 (List.take (n * 1) (List.drop 0 ps))), (D.val (Go.Value.int Go.IntKind.i64 (beat)))])]) ∧
 (bcase (decide (0 + n * 1 ≤ List.length (List.take (n * 1) (List.drop 0 ps))))
 (∃ n4 : Int,
 (∃ n5 : Int,
 ((Says C 64 [(D.agg [(D.sl (n) 1 (List.take (n * 1) (List.drop 0 (List.take (n * 1) (List.drop 0 ps))))), (D.val (Go.Value.int Go.IntKind.i64 (beat)))]), (D.val (Go.Value.int Go.IntKind.i64 (n2))), (D.val (Go.Value.int Go.IntKind.i64 (Go.IntKind.wrap Go.IntKind.i64 (d - 1))))] [(D.val (Go.Value.int Go.IntKind.i64 (n4))), (D.val (Go.Value.int Go.IntKind.i64 (n5)))]) ∧
 (bcase (decide (0 + n * 1 ≤ List.length ps))
 ((Says C 62 [(D.agg [(D.sl (n) 1 (List.take (n * 1) (List.drop 0 ps))), (D.val (Go.Value.int Go.IntKind.i64 (beat)))])] [(D.agg [(D.sl (n) 1 (List.take (n * 1) (List.drop 0 ps))), (D.val (Go.Value.int Go.IntKind.i64 (beat)))])]) ∧
 (bcase (decide (0 + n * 1 ≤ List.length (List.take (n * 1) (List.drop 0 ps))))
 (∃ n6 : Int,
 (∃ n7 : Int,
 ((Says C 64 [(D.agg [(D.sl (n) 1 (List.take (n * 1) (List.drop 0 (List.take (n * 1) (List.drop 0 ps))))), (D.val (Go.Value.int Go.IntKind.i64 (beat)))]), (D.val (Go.Value.int Go.IntKind.i64 (n2))), (D.val (Go.Value.int Go.IntKind.i64 (d)))] [(D.val (Go.Value.int Go.IntKind.i64 (n6))), (D.val (Go.Value.int Go.IntKind.i64 (n7)))]) ∧
 (bcase (decide (0 + n * 1 ≤ List.length ps))
 ((Says C 62 [(D.agg [(D.sl (n) 1 (List.take (n * 1) (List.drop 0 ps))), (D.val (Go.Value.int Go.IntKind.i64 (beat)))])] [(D.agg [(D.sl (n) 1 (List.take (n * 1) (List.drop 0 ps))), (D.val (Go.Value.int Go.IntKind.i64 (beat)))])]) ∧
 (bcase (decide (0 + n * 1 ≤ List.length (List.take (n * 1) (List.drop 0 ps))))
 (∃ n8 : Int,
 (∃ n9 : Int,
 ((Says C 64 [(D.agg [(D.sl (n) 1 (List.take (n * 1) (List.drop 0 (List.take (n * 1) (List.drop 0 ps))))), (D.val (Go.Value.int Go.IntKind.i64 (beat)))]), (D.val (Go.Value.int Go.IntKind.i64 (Go.IntKind.wrap Go.IntKind.i64 (n2 + 1)))), (D.val (Go.Value.int Go.IntKind.i64 (d)))] [(D.val (Go.Value.int Go.IntKind.i64 (n8))), (D.val (Go.Value.int Go.IntKind.i64 (n9)))]) ∧
 (bcase (n5 != 0)
 (k [(D.val (Go.Value.bool false))])
 (bcase (n4 != Go.IntKind.wrap Go.IntKind.i64 ((↑n : Int) - 1))
 (k [(D.val (Go.Value.bool false))])
 (bcase (n7 != 12)
 (k [(D.val (Go.Value.bool false))])
 (bcase (n9 != 0)
 (k [(D.val (Go.Value.bool false))])
 (bcase (decide (Go.IntKind.wrap Go.IntKind.i64 (n2 + after) ≥ d))
 (k [(D.val (Go.Value.bool true))])
 (bcase (decide (0 + n * 1 ≤ List.length ps))
 ((Says C 62 [(D.agg [(D.sl (n) 1 (List.take (n * 1) (List.drop 0 ps))), (D.val (Go.Value.int Go.IntKind.i64 (beat)))])] [(D.agg [(D.sl (n) 1 (List.take (n * 1) (List.drop 0 ps))), (D.val (Go.Value.int Go.IntKind.i64 (beat)))])]) ∧
 (bcase (decide (0 + n * 1 ≤ List.length (List.take (n * 1) (List.drop 0 ps))))
 (∃ n10 : Int,
 (∃ n11 : Int,
 ((Says C 64 [(D.agg [(D.sl (n) 1 (List.take (n * 1) (List.drop 0 (List.take (n * 1) (List.drop 0 ps))))), (D.val (Go.Value.int Go.IntKind.i64 (beat)))]), (D.val (Go.Value.int Go.IntKind.i64 (n2))), (D.val (Go.Value.int Go.IntKind.i64 (Go.IntKind.wrap Go.IntKind.i64 (n2 + after))))] [(D.val (Go.Value.int Go.IntKind.i64 (n10))), (D.val (Go.Value.int Go.IntKind.i64 (n11)))]) ∧
 (bcase (decide (0 + n * 1 ≤ List.length ps))
 ((Says C 62 [(D.agg [(D.sl (n) 1 (List.take (n * 1) (List.drop 0 ps))), (D.val (Go.Value.int Go.IntKind.i64 (beat)))])] [(D.agg [(D.sl (n) 1 (List.take (n * 1) (List.drop 0 ps))), (D.val (Go.Value.int Go.IntKind.i64 (beat)))])]) ∧
 (bcase (decide (0 + n * 1 ≤ List.length (List.take (n * 1) (List.drop 0 ps))))
 (∃ n12 : Int,
 (∃ n13 : Int,
 ((Says C 64 [(D.agg [(D.sl (n) 1 (List.take (n * 1) (List.drop 0 (List.take (n * 1) (List.drop 0 ps))))), (D.val (Go.Value.int Go.IntKind.i64 (beat)))]), (D.val (Go.Value.int Go.IntKind.i64 (n2))), (D.val (Go.Value.int Go.IntKind.i64 (Go.IntKind.wrap Go.IntKind.i64 (Go.IntKind.wrap Go.IntKind.i64 (n2 + after) + 1))))] [(D.val (Go.Value.int Go.IntKind.i64 (n12))), (D.val (Go.Value.int Go.IntKind.i64 (n13)))]) ∧
 (bcase (n11 == 0)
 (bcase (decide (0 ≤ n10))
 (bcase (decide (n10 ≤ n4))
 (bcase (n13 == 0)
 (bcase (decide (n10 ≤ n12))
 (bcase (decide (n12 ≤ Go.IntKind.wrap Go.IntKind.i64 (n10 + 1)))
 (k [(D.val (Go.Value.bool true))])
 (bcase (Go.IntKind.wrap Go.IntKind.i64 (Go.IntKind.wrap Go.IntKind.i64 (n2 + after) + 1) == d)
 (bcase (n13 == 12)
 (k [(D.val (Go.Value.bool true))])
 (k [(D.val (Go.Value.bool false))]))
 (k [(D.val (Go.Value.bool false))])))
 (bcase (Go.IntKind.wrap Go.IntKind.i64 (Go.IntKind.wrap Go.IntKind.i64 (n2 + after) + 1) == d)
 (bcase (n13 == 12)
 (k [(D.val (Go.Value.bool true))])
 (k [(D.val (Go.Value.bool false))]))
 (k [(D.val (Go.Value.bool false))])))
 (bcase (Go.IntKind.wrap Go.IntKind.i64 (Go.IntKind.wrap Go.IntKind.i64 (n2 + after) + 1) == d)
 (bcase (n13 == 12)
 (k [(D.val (Go.Value.bool true))])
 (k [(D.val (Go.Value.bool false))]))
 (k [(D.val (Go.Value.bool false))])))
 (k [(D.val (Go.Value.bool false))]))
 (k [(D.val (Go.Value.bool false))]))
 (k [(D.val (Go.Value.bool false))])))))
 False))
 False))))
 False))
 False)))))))))
 False))
 False))))
 False))
 False))))
 False))
 False)
 (k [(D.val (Go.Value.bool false))]))
 (k [(D.val (Go.Value.bool false))]))))))
 False))
 False)
 (k [(D.val (Go.Value.bool true))]))
 (k [(D.val (Go.Value.bool true))]))
 (k [(D.val (Go.Value.bool true))]))
 (k [(D.val (Go.Value.bool true))])))))
 False))) ∨
 ((Says C 14 [] [(D.val (Go.Value.bool false))]) ∧
 (k [(D.val (Go.Value.bool false))]))) := by kernel_rfl
def g11n (C : Ct) (L : AtLoop) (beat d after : Int) (k : List D → Prop) : Prop := wpFn Try.prog (hS C) L 0 11 #[.agg #[.slice none 0 0, .int .i64 beat], .int .i64 d, .int .i64 after] (heapOf []) (dataK k)
theorem g11n_text (C : Ct) (L : AtLoop) (beat : Int) (d : Int) (after : Int) (k : List D → Prop) : g11n C L beat d after k =
 (((Says C 14 [] [(D.val (Go.Value.bool true))]) ∧
 (∃ n1 : Int,
 ((Says C 71 [(D.agg [D.nil, (D.val (Go.Value.int Go.IntKind.i64 (beat)))])] [(D.val (Go.Value.int Go.IntKind.i64 (n1)))]) ∧
 (bcase (n1 != 0)
 (k [(D.val (Go.Value.bool true))])
 (bcase (decide (0 ≤ d))
 (bcase (decide (d ≤ 999999999999))
 (bcase (decide (0 ≤ after))
 (bcase (decide (after ≤ 100000000))
 ((Says C 62 [(D.agg [D.nil, (D.val (Go.Value.int Go.IntKind.i64 (beat)))])] [(D.agg [D.nil, (D.val (Go.Value.int Go.IntKind.i64 (beat)))])]) ∧
 (∃ n2 : Int,
 (∃ n3 : Int,
 ((Says C 65 [(D.agg [D.nil, (D.val (Go.Value.int Go.IntKind.i64 (beat)))]), (D.val (Go.Value.int Go.IntKind.i64 (d)))] [(D.val (Go.Value.int Go.IntKind.i64 (n2))), (D.val (Go.Value.int Go.IntKind.i64 (n3)))]) ∧
 (bcase (n3 != 0)
 ((Says C 62 [(D.agg [D.nil, (D.val (Go.Value.int Go.IntKind.i64 (beat)))])] [(D.agg [D.nil, (D.val (Go.Value.int Go.IntKind.i64 (beat)))])]) ∧
 (∃ n4 : Int,
 (∃ n5 : Int,
 ((Says C 64 [(D.agg [D.nil, (D.val (Go.Value.int Go.IntKind.i64 (beat)))]), (D.val (Go.Value.int Go.IntKind.i64 (0 : Int))), (D.val (Go.Value.int Go.IntKind.i64 (d)))] [(D.val (Go.Value.int Go.IntKind.i64 (n4))), (D.val (Go.Value.int Go.IntKind.i64 (n5)))]) ∧
 (bcase (n3 == 12)
 (bcase (n2 == 0)
 (bcase (n5 == 0)
 (k [(D.val (Go.Value.bool true))])
 (k [(D.val (Go.Value.bool false))]))
 (k [(D.val (Go.Value.bool false))]))
 (k [(D.val (Go.Value.bool false))]))))))
 (bcase (decide (0 ≤ n2))
 (bcase (decide (n2 ≤ Go.IntKind.wrap Go.IntKind.i64 (d - 1)))
 ((Says C 62 [(D.agg [D.nil, (D.val (Go.Value.int Go.IntKind.i64 (beat)))])] [(D.agg [D.nil, (D.val (Go.Value.int Go.IntKind.i64 (beat)))])]) ∧
 (∃ n4 : Int,
 (∃ n5 : Int,
 ((Says C 64 [(D.agg [D.nil, (D.val (Go.Value.int Go.IntKind.i64 (beat)))]), (D.val (Go.Value.int Go.IntKind.i64 (n2))), (D.val (Go.Value.int Go.IntKind.i64 (Go.IntKind.wrap Go.IntKind.i64 (d - 1))))] [(D.val (Go.Value.int Go.IntKind.i64 (n4))), (D.val (Go.Value.int Go.IntKind.i64 (n5)))]) ∧
 ((Says C 62 [(D.agg [D.nil, (D.val (Go.Value.int Go.IntKind.i64 (beat)))])] [(D.agg [D.nil, (D.val (Go.Value.int Go.IntKind.i64 (beat)))])]) ∧
 (∃ n6 : Int,
 (∃ n7 : Int,
 ((Says C 64 [(D.agg [D.nil, (D.val (Go.Value.int Go.IntKind.i64 (beat)))]), (D.val (Go.Value.int Go.IntKind.i64 (n2))), (D.val (Go.Value.int Go.IntKind.i64 (d)))] [(D.val (Go.Value.int Go.IntKind.i64 (n6))), (D.val (Go.Value.int Go.IntKind.i64 (n7)))]) ∧
 ((Says C 62 [(D.agg [D.nil, (D.val (Go.Value.int Go.IntKind.i64 (beat)))])] [(D.agg [D.nil, (D.val (Go.Value.int Go.IntKind.i64 (beat)))])]) ∧
 (∃ n8 : Int,
 (∃ n9 : Int,
 ((Says C 64 [(D.agg [D.nil, (D.val (Go.Value.int Go.IntKind.i64 (beat)))]), (D.val (Go.Value.int Go.IntKind.i64 (Go.IntKind.wrap Go.IntKind.i64 (n2 + 1)))), (D.val (Go.Value.int Go.IntKind.i64 (d)))] [(D.val (Go.Value.int Go.IntKind.i64 (n8))), (D.val (Go.Value.int Go.IntKind.i64 (n9)))]) ∧
 (bcase (n5 != 0)
 (k [(D.val (Go.Value.bool false))])
 (bcase (n4 != Go.IntKind.wrap Go.IntKind.i64 ((↑0 : Int) - 1))
 (k [(D.val (Go.Value.bool false))])
 (bcase (n7 != 12)
 (k [(D.val (Go.Value.bool false))])
 (bcase (n9 != 0)
 (k [(D.val (Go.Value.bool false))])
 (bcase (decide (Go.IntKind.wrap Go.IntKind.i64 (n2 + after) ≥ d))
 (k [(D.val (Go.Value.bool true))])
 ((Says C 62 [(D.agg [D.nil, (D.val (Go.Value.int Go.IntKind.i64 (beat)))])] [(D.agg [D.nil, (D.val (Go.Value.int Go.IntKind.i64 (beat)))])]) ∧
 (∃ n10 : Int,
 (∃ n11 : Int,
 ((Says C 64 [(D.agg [D.nil, (D.val (Go.Value.int Go.IntKind.i64 (beat)))]), (D.val (Go.Value.int Go.IntKind.i64 (n2))), (D.val (Go.Value.int Go.IntKind.i64 (Go.IntKind.wrap Go.IntKind.i64 (n2 + after))))] [(D.val (Go.Value.int Go.IntKind.i64 (n10))), (D.val (Go.Value.int Go.IntKind.i64 (n11)))]) ∧
 ((Says C 62 [(D.agg [D.nil, (D.val (Go.Value.int Go.IntKind.i64 (beat)))])] [(D.agg [D.nil, (D.val (Go.Value.int Go.IntKind.i64 (beat)))])]) ∧
 (∃ n12 : Int,
 (∃ n13 : Int,
 ((Says C 64 [(D.agg [D.nil, (D.val (Go.Value.int Go.IntKind.i64 (beat)))]), (D.val (Go.Value.int Go.IntKind.i64 (n2))), (D.val (Go.Value.int Go.IntKind.i64 (Go.IntKind.wrap Go.IntKind.i64 (Go.IntKind.wrap Go.IntKind.i64 (n2 + after) + 1))))] [(D.val (Go.Value.int Go.IntKind.i64 (n12))), (D.val (Go.Value.int Go.IntKind.i64 (n13)))]) ∧
 (bcase (n11 == 0)
 (bcase (decide (0 ≤ n10))
 (bcase (decide (n10 ≤ n4))
 (bcase (n13 == 0)
 (bcase (decide (n10 ≤ n12))
 (bcase (decide (n12 ≤ Go.IntKind.wrap Go.IntKind.i64 (n10 + 1)))
 (k [(D.val (Go.Value.bool true))])
 (bcase (Go.IntKind.wrap Go.IntKind.i64 (Go.IntKind.wrap Go.IntKind.i64 (n2 + after) + 1) == d)
 (bcase (n13 == 12)
 (k [(D.val (Go.Value.bool true))])
 (k [(D.val (Go.Value.bool false))]))
 (k [(D.val (Go.Value.bool false))])))
 (bcase (Go.IntKind.wrap Go.IntKind.i64 (Go.IntKind.wrap Go.IntKind.i64 (n2 + after) + 1) == d)
 (bcase (n13 == 12)
 (k [(D.val (Go.Value.bool true))])
 (k [(D.val (Go.Value.bool false))]))
 (k [(D.val (Go.Value.bool false))])))
 (bcase (Go.IntKind.wrap Go.IntKind.i64 (Go.IntKind.wrap Go.IntKind.i64 (n2 + after) + 1) == d)
 (bcase (n13 == 12)
 (k [(D.val (Go.Value.bool true))])
 (k [(D.val (Go.Value.bool false))]))
 (k [(D.val (Go.Value.bool false))])))
 (k [(D.val (Go.Value.bool false))]))
 (k [(D.val (Go.Value.bool false))]))
 (k [(D.val (Go.Value.bool false))])))))))))))))))))))))))))))
 (k [(D.val (Go.Value.bool false))]))
 (k [(D.val (Go.Value.bool false))])))))))
 (k [(D.val (Go.Value.bool true))]))
 (k [(D.val (Go.Value.bool true))]))
 (k [(D.val (Go.Value.bool true))]))
 (k [(D.val (Go.Value.bool true))])))))) ∨
 ((Says C 14 [] [(D.val (Go.Value.bool false))]) ∧
 (k [(D.val (Go.Value.bool false))]))) := by kernel_rfl
def g66n (C : Ct) (L : AtLoop) (beat : Int) (k : List D → Prop) : Prop := wpFn Try.prog (hB C) L 0 66 #[.agg #[.slice none 0 0, .int .i64 beat]] (heapOf []) (dataK k)
theorem g66n_text (C : Ct) (L : AtLoop) (beat : Int) (k : List D → Prop) : g66n C L beat k =
 (k [(D.val (Go.Value.int Go.IntKind.i64 (0 : Int))), (D.val (Go.Value.int Go.IntKind.i64 (10 : Int)))]) := by kernel_rfl
def g71n (C : Ct) (L : AtLoop) (beat : Int) (k : List D → Prop) : Prop := wpFn Try.prog (hB C) L 0 71 #[.agg #[.slice none 0 0, .int .i64 beat]] (heapOf []) (dataK k)
theorem g71n_text (C : Ct) (L : AtLoop) (beat : Int) (k : List D → Prop) : g71n C L beat k =
 (∃ n1 : Int,
 (∃ n2 : Int,
 ((Says C 66 [(D.agg [D.nil, (D.val (Go.Value.int Go.IntKind.i64 (beat)))])] [(D.val (Go.Value.int Go.IntKind.i64 (n1))), (D.val (Go.Value.int Go.IntKind.i64 (n2)))]) ∧
 (k [(D.val (Go.Value.int Go.IntKind.i64 (n2)))])))) := by kernel_rfl
end Go.Proofs
