/- What is left to show of each function, written out; the kernel reckons it. -/
import Derived.Test.YtiahlinolhpecaaAbsLoop
import Derived.Test.YtiahlinolhpecaaAbsSame
import Derived.Test.YtiahlinolhpecaaProg
import Derived.KernelRfl
namespace Go.Proofs.B
open Go Go.Abs Go.Proofs
set_option maxRecDepth 100000
set_option linter.unusedVariables false
abbrev Ct := FuncId → List D → List D → Prop
abbrev hN (C : Ct) : Handler := handlerN Try.prog C (fun g => [14, 37, 61, 62, 63, 64, 65, 66, 67, 68, 69, 70, 71, 88, 89, 122, 124].contains g) 8 6
abbrev A500 (ps : List Value) : Nat × AObj := (500, .sym ps false 1)
abbrev S500 (n cap : Nat) : Value := .slice (some ⟨500, 0, none⟩) n cap
abbrev Bx := Slots → Blocks → Prop
abbrev Xx := Nat → Slots → Blocks → Prop
def g63 (C : Ct) (L : AtLoop) (n cap : Nat) (ps : List Value) (beat : Int) (m cap2 : Nat) (ss : List Value) (k : List D → Prop) : Prop := wpFn Try.prog (hN C) L 0 63 #[.agg #[S500 n cap, .int .i64 beat], .slice (some ⟨501, 0, none⟩) m cap2] (heapOf [A500 ps, (501, .sym ss false 1)]) (dataK k)
theorem g63_text (C : Ct) (L : AtLoop) (n : Nat) (cap : Nat) (ps : List Go.Value) (beat : Int) (m : Nat) (cap2 : Nat) (ss : List Go.Value) (k : List D → Prop) : g63 C L n cap ps beat m cap2 ss k =
 (bcase (decide (0 + n * 1 ≤ List.length ps))
 (∃ n1 : Int,
 (∃ n2 : Int,
 ((Says C 61 [(D.agg [(D.sl (n) 1 (List.take (n * 1) (List.drop 0 ps))), (D.val (Go.Value.int Go.IntKind.i64 (beat)))])] [(D.val (Go.Value.int Go.IntKind.i64 (n1))), (D.val (Go.Value.int Go.IntKind.i64 (n2)))]) ∧
 (bcase (n2 != 0)
 (k [D.nil, (D.val (Go.Value.int Go.IntKind.i64 (n2)))])
 (bcase ((↑m : Int) != (↑n : Int))
 (k [D.nil, (D.val (Go.Value.int Go.IntKind.i64 (10 : Int)))])
 (bcase (decide (0 + m * 1 ≤ List.length ss))
 (∃ n3 : Int,
 ((Says C 89 [(D.sl (m) 1 (List.take (m * 1) (List.drop 0 ss)))] [(D.val (Go.Value.int Go.IntKind.i64 (n3)))]) ∧
 (bcase (n3 != 0)
 (k [D.nil, (D.val (Go.Value.int Go.IntKind.i64 (n3)))])
 (L 0 [(Prod.mk 2 (Go.Value.pointer (Option.some (Go.Addr.mk 1000 0 Option.none)))), (Prod.mk 9 (Go.Value.slice Option.none 0 0)), (Prod.mk 32 (Go.Value.slice (Option.some (Go.Addr.mk 501 0 Option.none)) (m) (cap2))), (Prod.mk 33 (Go.Value.int Go.IntKind.i64 ((↑m : Int)))), (Prod.mk 34 (Go.Value.int Go.IntKind.i64 (0 : Int)))] [(Prod.mk 1000 (AObj.cells [(Go.Value.slice (Option.some (Go.Addr.mk 500 0 Option.none)) (n) (cap)), (Go.Value.int Go.IntKind.i64 (beat))] 107 false 1)), (Prod.mk 501 (AObj.sym (ss) false 1)), (Prod.mk 500 (AObj.sym (ps) false 1))]))))
 False))))))
 False) := by kernel_rfl
def g67 (C : Ct) (L : AtLoop) (n cap : Nat) (ps : List Value) (beat : Int) (m cap2 : Nat) (ss : List Value) (k : List D → Prop) : Prop := wpFn Try.prog (hN C) L 0 67 #[.agg #[S500 n cap, .int .i64 beat], .slice (some ⟨501, 0, none⟩) m cap2] (heapOf [A500 ps, (501, .sym ss false 1)]) (dataK k)
theorem g67_text (C : Ct) (L : AtLoop) (n : Nat) (cap : Nat) (ps : List Go.Value) (beat : Int) (m : Nat) (cap2 : Nat) (ss : List Go.Value) (k : List D → Prop) : g67 C L n cap ps beat m cap2 ss k =
 (bcase ((↑m : Int) != (↑n : Int))
 (k [D.nil, (D.val (Go.Value.int Go.IntKind.i64 (10 : Int)))])
 (L 0 [(Prod.mk 1 (Go.Value.slice (Option.some (Go.Addr.mk 501 0 Option.none)) (m) (cap2))), (Prod.mk 2 (Go.Value.pointer (Option.some (Go.Addr.mk 1000 0 Option.none)))), (Prod.mk 6 (Go.Value.int Go.IntKind.i64 (0 : Int)))] [(Prod.mk 501 (AObj.sym (ss) false 1)), (Prod.mk 1000 (AObj.cells [(Go.Value.slice (Option.some (Go.Addr.mk 500 0 Option.none)) (n) (cap)), (Go.Value.int Go.IntKind.i64 (beat))] 107 false 1)), (Prod.mk 500 (AObj.sym (ps) false 1))])) := by kernel_rfl
def g68 (C : Ct) (L : AtLoop) (n cap : Nat) (ps : List Value) (beat ch tk : Int) (k : List D → Prop) : Prop := wpFn Try.prog (hN C) L 0 68 #[.agg #[S500 n cap, .int .i64 beat], .int .i64 ch, .int .i64 tk] (heapOf [A500 ps]) (dataK k)
theorem g68_text (C : Ct) (L : AtLoop) (n : Nat) (cap : Nat) (ps : List Go.Value) (beat : Int) (ch : Int) (tk : Int) (k : List D → Prop) : g68 C L n cap ps beat ch tk k =
 (bcase (decide (0 ≤ ch))
 (bcase (decide (ch ≤ 1000000000000))
 (bcase (decide (0 ≤ tk))
 (bcase (decide (tk ≤ 1000000000000))
 (bcase (decide (tk < ch))
 (k [(D.val (Go.Value.int Go.IntKind.i64 (0 : Int))), (D.val (Go.Value.int Go.IntKind.i64 (9 : Int)))])
 (L 0 [(Prod.mk 2 (Go.Value.int Go.IntKind.i64 (tk))), (Prod.mk 3 (Go.Value.pointer (Option.some (Go.Addr.mk 1000 0 Option.none)))), (Prod.mk 8 (Go.Value.int Go.IntKind.i64 (ch))), (Prod.mk 9 (Go.Value.int Go.IntKind.i64 (0 : Int)))] [(Prod.mk 1000 (AObj.cells [(Go.Value.slice (Option.some (Go.Addr.mk 500 0 Option.none)) (n) (cap)), (Go.Value.int Go.IntKind.i64 (beat))] 107 false 1)), (Prod.mk 500 (AObj.sym (ps) false 1))]))
 (k [(D.val (Go.Value.int Go.IntKind.i64 (0 : Int))), (D.val (Go.Value.int Go.IntKind.i64 (2 : Int)))]))
 (k [(D.val (Go.Value.int Go.IntKind.i64 (0 : Int))), (D.val (Go.Value.int Go.IntKind.i64 (2 : Int)))]))
 (k [(D.val (Go.Value.int Go.IntKind.i64 (0 : Int))), (D.val (Go.Value.int Go.IntKind.i64 (2 : Int)))]))
 (k [(D.val (Go.Value.int Go.IntKind.i64 (0 : Int))), (D.val (Go.Value.int Go.IntKind.i64 (2 : Int)))])) := by kernel_rfl
def g69 (C : Ct) (L : AtLoop) (n cap : Nat) (ps : List Value) (beat d : Int) (k : List D → Prop) : Prop := wpFn Try.prog (hN C) L 0 69 #[.agg #[S500 n cap, .int .i64 beat], .int .i64 d] (heapOf [A500 ps]) (dataK k)
theorem g69_text (C : Ct) (L : AtLoop) (n : Nat) (cap : Nat) (ps : List Go.Value) (beat : Int) (d : Int) (k : List D → Prop) : g69 C L n cap ps beat d k =
 (bcase (decide (0 ≤ d))
 (bcase (decide (d ≤ 1000000000000))
 (bcase (decide (0 + n * 1 ≤ List.length ps))
 (∃ n1 : Int,
 ((Says C 124 [(D.agg [(D.sl (n) 1 (List.take (n * 1) (List.drop 0 ps))), (D.val (Go.Value.int Go.IntKind.i64 (beat)))])] [(D.val (Go.Value.int Go.IntKind.i64 (n1)))]) ∧
 (bcase (decide (d < n1))
 (k [(D.val (Go.Value.int Go.IntKind.i64 (0 : Int))), (D.val (Go.Value.int Go.IntKind.i64 (12 : Int)))])
 (bcase (decide (0 + n * 1 ≤ List.length ps))
 (∃ n2 : Int,
 ((Says C 124 [(D.agg [(D.sl (n) 1 (List.take (n * 1) (List.drop 0 ps))), (D.val (Go.Value.int Go.IntKind.i64 (beat)))])] [(D.val (Go.Value.int Go.IntKind.i64 (n2)))]) ∧
 (k [(D.val (Go.Value.int Go.IntKind.i64 (Go.IntKind.wrap Go.IntKind.i64 (d - n2)))), (D.val (Go.Value.int Go.IntKind.i64 (0 : Int)))])))
 False))))
 False)
 (k [(D.val (Go.Value.int Go.IntKind.i64 (0 : Int))), (D.val (Go.Value.int Go.IntKind.i64 (2 : Int)))]))
 (k [(D.val (Go.Value.int Go.IntKind.i64 (0 : Int))), (D.val (Go.Value.int Go.IntKind.i64 (2 : Int)))])) := by kernel_rfl
def g124 (C : Ct) (L : AtLoop) (n cap : Nat) (ps : List Value) (beat : Int) (k : List D → Prop) : Prop := wpFn Try.prog (hN C) L 0 124 #[.agg #[S500 n cap, .int .i64 beat]] (heapOf [A500 ps]) (dataK k)
theorem g124_text (C : Ct) (L : AtLoop) (n : Nat) (cap : Nat) (ps : List Go.Value) (beat : Int) (k : List D → Prop) : g124 C L n cap ps beat k =
 (L 0 [(Prod.mk 1 (Go.Value.pointer (Option.some (Go.Addr.mk 1000 0 Option.none)))), (Prod.mk 3 (Go.Value.int Go.IntKind.i64 (0 : Int))), (Prod.mk 4 (Go.Value.int Go.IntKind.i64 (0 : Int)))] [(Prod.mk 1000 (AObj.cells [(Go.Value.slice (Option.some (Go.Addr.mk 500 0 Option.none)) (n) (cap)), (Go.Value.int Go.IntKind.i64 (beat))] 107 false 1)), (Prod.mk 500 (AObj.sym (ps) false 1))]) := by kernel_rfl
def g70 (C : Ct) (L : AtLoop) (n cap : Nat) (ps : List Value) (m cap2 : Nat) (ss : List Value) (k : List D → Prop) : Prop := wpFn Try.prog (hN C) L 0 70 #[S500 n cap, .slice (some ⟨501, 0, none⟩) m cap2] (heapOf [(500, .sym ps false 2), (501, .sym ss false 2)]) (dataK k)
theorem g70_text (C : Ct) (L : AtLoop) (n : Nat) (cap : Nat) (ps : List Go.Value) (m : Nat) (cap2 : Nat) (ss : List Go.Value) (k : List D → Prop) : g70 C L n cap ps m cap2 ss k =
 (bcase ((↑n : Int) != (↑m : Int))
 (k [(D.val (Go.Value.bool false))])
 (L 0 [(Prod.mk 0 (Go.Value.slice (Option.some (Go.Addr.mk 500 0 Option.none)) (n) (cap))), (Prod.mk 1 (Go.Value.slice (Option.some (Go.Addr.mk 501 0 Option.none)) (m) (cap2))), (Prod.mk 5 (Go.Value.int Go.IntKind.i64 (0 : Int)))] [(Prod.mk 500 (AObj.sym (ps) false 2)), (Prod.mk 501 (AObj.sym (ss) false 2))])) := by kernel_rfl
def g70n (C : Ct) (L : AtLoop) (k : List D → Prop) : Prop := wpFn Try.prog (hN C) L 0 70 #[.slice none 0 0, .slice none 0 0] (heapOf []) (dataK k)
theorem g70n_text (C : Ct) (L : AtLoop) (k : List D → Prop) : g70n C L k =
 (L 0 [(Prod.mk 0 (Go.Value.slice Option.none 0 0)), (Prod.mk 1 (Go.Value.slice Option.none 0 0)), (Prod.mk 5 (Go.Value.int Go.IntKind.i64 (0 : Int)))] []) := by kernel_rfl
def g64 (C : Ct) (L : AtLoop) (n cap : Nat) (ps : List Value) (beat ch tk : Int) (k : List D → Prop) : Prop := wpFn Try.prog (hN C) L 0 64 #[.agg #[S500 n cap, .int .i64 beat], .int .i64 ch, .int .i64 tk] (heapOf [A500 ps]) (dataK k)
theorem g64_text (C : Ct) (L : AtLoop) (n : Nat) (cap : Nat) (ps : List Go.Value) (beat : Int) (ch : Int) (tk : Int) (k : List D → Prop) : g64 C L n cap ps beat ch tk k =
 (bcase (decide (0 + n * 1 ≤ List.length ps))
 (∃ n1 : Int,
 (∃ n2 : Int,
 ((Says C 61 [(D.agg [(D.sl (n) 1 (List.take (n * 1) (List.drop 0 ps))), (D.val (Go.Value.int Go.IntKind.i64 (beat)))])] [(D.val (Go.Value.int Go.IntKind.i64 (n1))), (D.val (Go.Value.int Go.IntKind.i64 (n2)))]) ∧
 (∃ n3 : Int,
 ((Says C 122 [(D.sl 2 1 [(Go.Value.int Go.IntKind.i64 (ch)), (Go.Value.int Go.IntKind.i64 (tk))])] [(D.val (Go.Value.int Go.IntKind.i64 (n3)))]) ∧
 (∃ n4 : Int,
 ((Says C 88 [(D.sl 2 1 [(Go.Value.int Go.IntKind.i64 (n2)), (Go.Value.int Go.IntKind.i64 (n3))])] [(D.val (Go.Value.int Go.IntKind.i64 (n4)))]) ∧
 (bcase (n4 != 0)
 (k [(D.val (Go.Value.int Go.IntKind.i64 (0 : Int))), (D.val (Go.Value.int Go.IntKind.i64 (n4)))])
 (bcase (decide (tk < ch))
 (k [(D.val (Go.Value.int Go.IntKind.i64 (0 : Int))), (D.val (Go.Value.int Go.IntKind.i64 (9 : Int)))])
 (bcase (beat != 0)
 (L 0 [(Prod.mk 11 (Go.Value.int Go.IntKind.i64 (Go.IntKind.wrap Go.IntKind.i64 (Int.tdiv (Go.IntKind.wrap Go.IntKind.i64 (tk - ch)) beat)))), (Prod.mk 39 (Go.Value.slice (Option.some (Go.Addr.mk 500 0 Option.none)) (n) (cap))), (Prod.mk 40 (Go.Value.int Go.IntKind.i64 ((↑n : Int)))), (Prod.mk 41 (Go.Value.int Go.IntKind.i64 (0 : Int)))] [(Prod.mk 500 (AObj.sym (ps) false 1))])
 False))))))))))
 False) := by kernel_rfl
def g65 (C : Ct) (L : AtLoop) (n cap : Nat) (ps : List Value) (beat d : Int) (k : List D → Prop) : Prop := wpFn Try.prog (hN C) L 0 65 #[.agg #[S500 n cap, .int .i64 beat], .int .i64 d] (heapOf [A500 ps]) (dataK k)
theorem g65_text (C : Ct) (L : AtLoop) (n : Nat) (cap : Nat) (ps : List Go.Value) (beat : Int) (d : Int) (k : List D → Prop) : g65 C L n cap ps beat d k =
 (bcase (decide (0 + n * 1 ≤ List.length ps))
 (∃ n1 : Int,
 (∃ n2 : Int,
 ((Says C 61 [(D.agg [(D.sl (n) 1 (List.take (n * 1) (List.drop 0 ps))), (D.val (Go.Value.int Go.IntKind.i64 (beat)))])] [(D.val (Go.Value.int Go.IntKind.i64 (n1))), (D.val (Go.Value.int Go.IntKind.i64 (n2)))]) ∧
 (∃ n3 : Int,
 ((Says C 122 [(D.sl 1 1 [(Go.Value.int Go.IntKind.i64 (d))])] [(D.val (Go.Value.int Go.IntKind.i64 (n3)))]) ∧
 (∃ n4 : Int,
 ((Says C 88 [(D.sl 2 1 [(Go.Value.int Go.IntKind.i64 (n2)), (Go.Value.int Go.IntKind.i64 (n3))])] [(D.val (Go.Value.int Go.IntKind.i64 (n4)))]) ∧
 (bcase (n4 != 0)
 (k [(D.val (Go.Value.int Go.IntKind.i64 (0 : Int))), (D.val (Go.Value.int Go.IntKind.i64 (n4)))])
 (L 0 [(Prod.mk 2 (Go.Value.pointer (Option.some (Go.Addr.mk 1000 0 Option.none)))), (Prod.mk 9 (Go.Value.int Go.IntKind.i64 (d))), (Prod.mk 28 (Go.Value.slice (Option.some (Go.Addr.mk 500 0 Option.none)) (n) (cap))), (Prod.mk 29 (Go.Value.int Go.IntKind.i64 ((↑n : Int)))), (Prod.mk 30 (Go.Value.int Go.IntKind.i64 (0 : Int)))] [(Prod.mk 1000 (AObj.cells [(Go.Value.slice (Option.some (Go.Addr.mk 500 0 Option.none)) (n) (cap)), (Go.Value.int Go.IntKind.i64 (beat))] 107 false 1)), (Prod.mk 500 (AObj.sym (ps) false 1))])))))))))
 False) := by kernel_rfl
abbrev i6 (a : Int) : Value := .int .i64 a
def g891 (C : Ct) (L : AtLoop) (cap : Nat) (a : Int) (k : List D → Prop) : Prop := wpFn Try.prog (hN C) L 0 89 #[S500 1 cap] (heapOf [A500 [i6 a]]) (dataK k)
theorem g891_text (C : Ct) (L : AtLoop) (cap : Nat) (a : Int) (k : List D → Prop) : g891 C L cap a k =
 (∃ n1 : Int,
 ((At [(Go.Value.int Go.IntKind.i64 (a))] 0 1 [(Go.Value.int Go.IntKind.i64 (n1))]) ∧
 (bcase (decide (n1 < 0))
 (k [(D.val (Go.Value.int Go.IntKind.i64 (2 : Int)))])
 (bcase (decide (n1 > 20000))
 (k [(D.val (Go.Value.int Go.IntKind.i64 (2 : Int)))])
 (k [(D.val (Go.Value.int Go.IntKind.i64 (0 : Int)))]))))) := by kernel_rfl
def g892 (C : Ct) (L : AtLoop) (cap : Nat) (a b : Int) (k : List D → Prop) : Prop := wpFn Try.prog (hN C) L 0 89 #[S500 2 cap] (heapOf [A500 [i6 a, i6 b]]) (dataK k)
theorem g892_text (C : Ct) (L : AtLoop) (cap : Nat) (a : Int) (b : Int) (k : List D → Prop) : g892 C L cap a b k =
 (∃ n1 : Int,
 ((At [(Go.Value.int Go.IntKind.i64 (a)), (Go.Value.int Go.IntKind.i64 (b))] 0 1 [(Go.Value.int Go.IntKind.i64 (n1))]) ∧
 (bcase (decide (n1 < 0))
 (k [(D.val (Go.Value.int Go.IntKind.i64 (2 : Int)))])
 (bcase (decide (n1 > 20000))
 (k [(D.val (Go.Value.int Go.IntKind.i64 (2 : Int)))])
 (∃ n2 : Int,
 ((At [(Go.Value.int Go.IntKind.i64 (a)), (Go.Value.int Go.IntKind.i64 (b))] 1 1 [(Go.Value.int Go.IntKind.i64 (n2))]) ∧
 (bcase (decide (n2 < 0))
 (k [(D.val (Go.Value.int Go.IntKind.i64 (2 : Int)))])
 (bcase (decide (n2 > 20000))
 (k [(D.val (Go.Value.int Go.IntKind.i64 (2 : Int)))])
 (k [(D.val (Go.Value.int Go.IntKind.i64 (0 : Int)))]))))))))) := by kernel_rfl
def g893 (C : Ct) (L : AtLoop) (cap : Nat) (a b c : Int) (k : List D → Prop) : Prop := wpFn Try.prog (hN C) L 0 89 #[S500 3 cap] (heapOf [A500 [i6 a, i6 b, i6 c]]) (dataK k)
theorem g893_text (C : Ct) (L : AtLoop) (cap : Nat) (a : Int) (b : Int) (c : Int) (k : List D → Prop) : g893 C L cap a b c k =
 (∃ n1 : Int,
 ((At [(Go.Value.int Go.IntKind.i64 (a)), (Go.Value.int Go.IntKind.i64 (b)), (Go.Value.int Go.IntKind.i64 (c))] 0 1 [(Go.Value.int Go.IntKind.i64 (n1))]) ∧
 (bcase (decide (n1 < 0))
 (k [(D.val (Go.Value.int Go.IntKind.i64 (2 : Int)))])
 (bcase (decide (n1 > 20000))
 (k [(D.val (Go.Value.int Go.IntKind.i64 (2 : Int)))])
 (∃ n2 : Int,
 ((At [(Go.Value.int Go.IntKind.i64 (a)), (Go.Value.int Go.IntKind.i64 (b)), (Go.Value.int Go.IntKind.i64 (c))] 1 1 [(Go.Value.int Go.IntKind.i64 (n2))]) ∧
 (bcase (decide (n2 < 0))
 (k [(D.val (Go.Value.int Go.IntKind.i64 (2 : Int)))])
 (bcase (decide (n2 > 20000))
 (k [(D.val (Go.Value.int Go.IntKind.i64 (2 : Int)))])
 (∃ n3 : Int,
 ((At [(Go.Value.int Go.IntKind.i64 (a)), (Go.Value.int Go.IntKind.i64 (b)), (Go.Value.int Go.IntKind.i64 (c))] 2 1 [(Go.Value.int Go.IntKind.i64 (n3))]) ∧
 (bcase (decide (n3 < 0))
 (k [(D.val (Go.Value.int Go.IntKind.i64 (2 : Int)))])
 (bcase (decide (n3 > 20000))
 (k [(D.val (Go.Value.int Go.IntKind.i64 (2 : Int)))])
 (k [(D.val (Go.Value.int Go.IntKind.i64 (0 : Int)))]))))))))))))) := by kernel_rfl
def g894 (C : Ct) (L : AtLoop) (cap : Nat) (a b c d : Int) (k : List D → Prop) : Prop := wpFn Try.prog (hN C) L 0 89 #[S500 4 cap] (heapOf [A500 [i6 a, i6 b, i6 c, i6 d]]) (dataK k)
theorem g894_text (C : Ct) (L : AtLoop) (cap : Nat) (a : Int) (b : Int) (c : Int) (d : Int) (k : List D → Prop) : g894 C L cap a b c d k =
 (∃ n1 : Int,
 ((At [(Go.Value.int Go.IntKind.i64 (a)), (Go.Value.int Go.IntKind.i64 (b)), (Go.Value.int Go.IntKind.i64 (c)), (Go.Value.int Go.IntKind.i64 (d))] 0 1 [(Go.Value.int Go.IntKind.i64 (n1))]) ∧
 (bcase (decide (n1 < 0))
 (k [(D.val (Go.Value.int Go.IntKind.i64 (2 : Int)))])
 (bcase (decide (n1 > 20000))
 (k [(D.val (Go.Value.int Go.IntKind.i64 (2 : Int)))])
 (∃ n2 : Int,
 ((At [(Go.Value.int Go.IntKind.i64 (a)), (Go.Value.int Go.IntKind.i64 (b)), (Go.Value.int Go.IntKind.i64 (c)), (Go.Value.int Go.IntKind.i64 (d))] 1 1 [(Go.Value.int Go.IntKind.i64 (n2))]) ∧
 (bcase (decide (n2 < 0))
 (k [(D.val (Go.Value.int Go.IntKind.i64 (2 : Int)))])
 (bcase (decide (n2 > 20000))
 (k [(D.val (Go.Value.int Go.IntKind.i64 (2 : Int)))])
 (∃ n3 : Int,
 ((At [(Go.Value.int Go.IntKind.i64 (a)), (Go.Value.int Go.IntKind.i64 (b)), (Go.Value.int Go.IntKind.i64 (c)), (Go.Value.int Go.IntKind.i64 (d))] 2 1 [(Go.Value.int Go.IntKind.i64 (n3))]) ∧
 (bcase (decide (n3 < 0))
 (k [(D.val (Go.Value.int Go.IntKind.i64 (2 : Int)))])
 (bcase (decide (n3 > 20000))
 (k [(D.val (Go.Value.int Go.IntKind.i64 (2 : Int)))])
 (∃ n4 : Int,
 ((At [(Go.Value.int Go.IntKind.i64 (a)), (Go.Value.int Go.IntKind.i64 (b)), (Go.Value.int Go.IntKind.i64 (c)), (Go.Value.int Go.IntKind.i64 (d))] 3 1 [(Go.Value.int Go.IntKind.i64 (n4))]) ∧
 (bcase (decide (n4 < 0))
 (k [(D.val (Go.Value.int Go.IntKind.i64 (2 : Int)))])
 (bcase (decide (n4 > 20000))
 (k [(D.val (Go.Value.int Go.IntKind.i64 (2 : Int)))])
 (k [(D.val (Go.Value.int Go.IntKind.i64 (0 : Int)))]))))))))))))))))) := by kernel_rfl
def g895 (C : Ct) (L : AtLoop) (cap : Nat) (a b c d e : Int) (k : List D → Prop) : Prop := wpFn Try.prog (hN C) L 0 89 #[S500 5 cap] (heapOf [A500 [i6 a, i6 b, i6 c, i6 d, i6 e]]) (dataK k)
theorem g895_text (C : Ct) (L : AtLoop) (cap : Nat) (a : Int) (b : Int) (c : Int) (d : Int) (e : Int) (k : List D → Prop) : g895 C L cap a b c d e k =
 (∃ n1 : Int,
 ((At [(Go.Value.int Go.IntKind.i64 (a)), (Go.Value.int Go.IntKind.i64 (b)), (Go.Value.int Go.IntKind.i64 (c)), (Go.Value.int Go.IntKind.i64 (d)), (Go.Value.int Go.IntKind.i64 (e))] 0 1 [(Go.Value.int Go.IntKind.i64 (n1))]) ∧
 (bcase (decide (n1 < 0))
 (k [(D.val (Go.Value.int Go.IntKind.i64 (2 : Int)))])
 (bcase (decide (n1 > 20000))
 (k [(D.val (Go.Value.int Go.IntKind.i64 (2 : Int)))])
 (∃ n2 : Int,
 ((At [(Go.Value.int Go.IntKind.i64 (a)), (Go.Value.int Go.IntKind.i64 (b)), (Go.Value.int Go.IntKind.i64 (c)), (Go.Value.int Go.IntKind.i64 (d)), (Go.Value.int Go.IntKind.i64 (e))] 1 1 [(Go.Value.int Go.IntKind.i64 (n2))]) ∧
 (bcase (decide (n2 < 0))
 (k [(D.val (Go.Value.int Go.IntKind.i64 (2 : Int)))])
 (bcase (decide (n2 > 20000))
 (k [(D.val (Go.Value.int Go.IntKind.i64 (2 : Int)))])
 (∃ n3 : Int,
 ((At [(Go.Value.int Go.IntKind.i64 (a)), (Go.Value.int Go.IntKind.i64 (b)), (Go.Value.int Go.IntKind.i64 (c)), (Go.Value.int Go.IntKind.i64 (d)), (Go.Value.int Go.IntKind.i64 (e))] 2 1 [(Go.Value.int Go.IntKind.i64 (n3))]) ∧
 (bcase (decide (n3 < 0))
 (k [(D.val (Go.Value.int Go.IntKind.i64 (2 : Int)))])
 (bcase (decide (n3 > 20000))
 (k [(D.val (Go.Value.int Go.IntKind.i64 (2 : Int)))])
 (∃ n4 : Int,
 ((At [(Go.Value.int Go.IntKind.i64 (a)), (Go.Value.int Go.IntKind.i64 (b)), (Go.Value.int Go.IntKind.i64 (c)), (Go.Value.int Go.IntKind.i64 (d)), (Go.Value.int Go.IntKind.i64 (e))] 3 1 [(Go.Value.int Go.IntKind.i64 (n4))]) ∧
 (bcase (decide (n4 < 0))
 (k [(D.val (Go.Value.int Go.IntKind.i64 (2 : Int)))])
 (bcase (decide (n4 > 20000))
 (k [(D.val (Go.Value.int Go.IntKind.i64 (2 : Int)))])
 (∃ n5 : Int,
 ((At [(Go.Value.int Go.IntKind.i64 (a)), (Go.Value.int Go.IntKind.i64 (b)), (Go.Value.int Go.IntKind.i64 (c)), (Go.Value.int Go.IntKind.i64 (d)), (Go.Value.int Go.IntKind.i64 (e))] 4 1 [(Go.Value.int Go.IntKind.i64 (n5))]) ∧
 (bcase (decide (n5 < 0))
 (k [(D.val (Go.Value.int Go.IntKind.i64 (2 : Int)))])
 (bcase (decide (n5 > 20000))
 (k [(D.val (Go.Value.int Go.IntKind.i64 (2 : Int)))])
 (k [(D.val (Go.Value.int Go.IntKind.i64 (0 : Int)))]))))))))))))))))))))) := by kernel_rfl
def g1221 (C : Ct) (L : AtLoop) (cap : Nat) (a : Int) (k : List D → Prop) : Prop := wpFn Try.prog (hN C) L 0 122 #[S500 1 cap] (heapOf [A500 [i6 a]]) (dataK k)
theorem g1221_text (C : Ct) (L : AtLoop) (cap : Nat) (a : Int) (k : List D → Prop) : g1221 C L cap a k =
 (∃ n1 : Int,
 ((At [(Go.Value.int Go.IntKind.i64 (a))] 0 1 [(Go.Value.int Go.IntKind.i64 (n1))]) ∧
 (bcase (decide (n1 < 0))
 (k [(D.val (Go.Value.int Go.IntKind.i64 (2 : Int)))])
 (bcase (decide (n1 > 1000000000000))
 (k [(D.val (Go.Value.int Go.IntKind.i64 (2 : Int)))])
 (k [(D.val (Go.Value.int Go.IntKind.i64 (0 : Int)))]))))) := by kernel_rfl
def g1222 (C : Ct) (L : AtLoop) (cap : Nat) (a b : Int) (k : List D → Prop) : Prop := wpFn Try.prog (hN C) L 0 122 #[S500 2 cap] (heapOf [A500 [i6 a, i6 b]]) (dataK k)
theorem g1222_text (C : Ct) (L : AtLoop) (cap : Nat) (a : Int) (b : Int) (k : List D → Prop) : g1222 C L cap a b k =
 (∃ n1 : Int,
 ((At [(Go.Value.int Go.IntKind.i64 (a)), (Go.Value.int Go.IntKind.i64 (b))] 0 1 [(Go.Value.int Go.IntKind.i64 (n1))]) ∧
 (bcase (decide (n1 < 0))
 (k [(D.val (Go.Value.int Go.IntKind.i64 (2 : Int)))])
 (bcase (decide (n1 > 1000000000000))
 (k [(D.val (Go.Value.int Go.IntKind.i64 (2 : Int)))])
 (∃ n2 : Int,
 ((At [(Go.Value.int Go.IntKind.i64 (a)), (Go.Value.int Go.IntKind.i64 (b))] 1 1 [(Go.Value.int Go.IntKind.i64 (n2))]) ∧
 (bcase (decide (n2 < 0))
 (k [(D.val (Go.Value.int Go.IntKind.i64 (2 : Int)))])
 (bcase (decide (n2 > 1000000000000))
 (k [(D.val (Go.Value.int Go.IntKind.i64 (2 : Int)))])
 (k [(D.val (Go.Value.int Go.IntKind.i64 (0 : Int)))]))))))))) := by kernel_rfl
abbrev bx (n cap : Nat) (ps : List Value) (beat : Int) : Nat × AObj := (1000, .cells [S500 n cap, .int .i64 beat] 107 false 1)
abbrev bxB (n cap : Nat) (ps : List Value) (beat : Int) : Blocks := [bx n cap ps beat, A500 ps]
abbrev T501 (ss : List Value) : Nat × AObj := (501, .sym ss false 1)
def s63 (m cap2 : Nat) (l : Value) (i : Int) : Slots := [(2, .pointer (some ⟨1000, 0, none⟩)), (9, l), (32, .slice (some ⟨501, 0, none⟩) m cap2), (33, .int .i64 m), (34, .int .i64 i)]
def r63 (C : Ct) (L : AtLoop) (n cap : Nat) (ps : List Value) (beat : Int) (m cap2 : Nat) (ss : List Value) (i : Int) (B : Bx) (X : Xx) (k : List D → Prop) : Prop := wpRound Try.prog (hN C) L 63 0 (s63 m cap2 (.slice none 0 0) i) [bx n cap ps beat, T501 ss, A500 ps] B X (dataK k)
theorem r63_text (C : Ct) (L : AtLoop) (n : Nat) (cap : Nat) (ps : List Go.Value) (beat : Int) (m : Nat) (cap2 : Nat) (ss : List Go.Value) (i : Int) (B : Bx) (X : Xx) (k : List D → Prop) : r63 C L n cap ps beat m cap2 ss i B X k =
 (bcase (decide (i < (↑m : Int)))
 (bcase (decide (0 ≤ i))
 (bcase (decide (i < (↑m : Int)))
 (∃ n1 : Int,
 ((At (ss) (0 + Int.toNat i * 1) 1 [(Go.Value.int Go.IntKind.i64 (n1))]) ∧
 (bcase (decide (0 ≤ i))
 (bcase (decide (i < (↑n : Int)))
 (∃ n2 : Int,
 ((At (ps) (0 + Int.toNat i * 1) 1 [(Go.Value.int Go.IntKind.i64 (n2))]) ∧
 ((((Go.Value.int Go.IntKind.i64 (Go.IntKind.wrap Go.IntKind.i64 (n2 * beat))) = (Go.Value.int Go.IntKind.i64 (Go.IntKind.wrap Go.IntKind.i64 (n2 * beat)))) ∧
 (((Go.Value.int Go.IntKind.i64 (beat)) = (Go.Value.int Go.IntKind.i64 (beat))) ∧
 (((Go.Value.pointer (Option.some (Go.Addr.mk 1000 1 Option.none))) = (Go.Value.pointer (Option.some (Go.Addr.mk 1000 1 Option.none)))) ∧
 ((∃ n3 : Int,
 ((At (ps) (0 + Int.toNat i * 1) 1 [(Go.Value.int Go.IntKind.i64 (n3))]) ∧
 ((Go.Value.int Go.IntKind.i64 (n3)) = (Go.Value.int Go.IntKind.i64 (n2))))) ∧
 ((bcase (decide (0 ≤ i))
 (bcase (decide (i < (↑n : Int)))
 ((Go.Value.pointer (Option.some (Go.Addr.mk 500 (0 + Int.toNat i * 1) Option.none))) = (Go.Value.pointer (Option.some (Go.Addr.mk 500 (0 + Int.toNat i * 1) Option.none))))
 False)
 False) ∧
 (((Go.Value.int Go.IntKind.i64 (i)) = (Go.Value.int Go.IntKind.i64 (i))) ∧
 (((Go.Value.slice (Option.some (Go.Addr.mk 500 0 Option.none)) (n) (cap)) = (Go.Value.slice (Option.some (Go.Addr.mk 500 0 Option.none)) (n) (cap))) ∧
 (((Go.Value.pointer (Option.some (Go.Addr.mk 1000 0 Option.none))) = (Go.Value.pointer (Option.some (Go.Addr.mk 1000 0 Option.none)))) ∧
 True)))))))) ∧
 (True ∧
 (bcase (decide (Go.IntKind.wrap Go.IntKind.i64 (n2 * beat) > 200))
 (k [D.nil, (D.val (Go.Value.int Go.IntKind.i64 (8 : Int)))])
 (B [(Prod.mk 2 (Go.Value.pointer (Option.some (Go.Addr.mk 1000 0 Option.none)))), (Prod.mk 9 (Go.Value.slice (Option.some (Go.Addr.mk 1001 0 Option.none)) 1 1)), (Prod.mk 32 (Go.Value.slice (Option.some (Go.Addr.mk 501 0 Option.none)) (m) (cap2))), (Prod.mk 33 (Go.Value.int Go.IntKind.i64 ((↑m : Int)))), (Prod.mk 34 (Go.Value.int Go.IntKind.i64 (Go.IntKind.wrap Go.IntKind.i64 (i + 1))))] [(Prod.mk 1000 (AObj.cells [(Go.Value.slice (Option.some (Go.Addr.mk 500 0 Option.none)) (n) (cap)), (Go.Value.int Go.IntKind.i64 (beat))] 107 false 1)), (Prod.mk 1001 (AObj.sym [(Go.Value.int Go.IntKind.i64 (n1)), (Go.Value.int Go.IntKind.i64 (Go.IntKind.wrap Go.IntKind.i64 (n2 * beat)))] true 2)), (Prod.mk 501 (AObj.sym (ss) false 1)), (Prod.mk 500 (AObj.sym (ps) false 1))]))))))
 False)
 False)))
 False)
 False)
 (X 0 [(Prod.mk 9 (Go.Value.slice Option.none 0 0))] [])) := by kernel_rfl
def r63b (C : Ct) (L : AtLoop) (n cap : Nat) (ps : List Value) (beat : Int) (m cap2 : Nat) (ss : List Value) (q : Nat) (out : List Value) (i : Int) (B : Bx) (X : Xx) (k : List D → Prop) : Prop := wpRound Try.prog (hN C) L 63 0 (s63 m cap2 (.slice (some ⟨1001, 0, none⟩) q q) i) [bx n cap ps beat, (1001, .sym out true 2), T501 ss, A500 ps] B X (dataK k)
theorem r63b_text (C : Ct) (L : AtLoop) (n : Nat) (cap : Nat) (ps : List Go.Value) (beat : Int) (m : Nat) (cap2 : Nat) (ss : List Go.Value) (q : Nat) (out : List Go.Value) (i : Int) (B : Bx) (X : Xx) (k : List D → Prop) : r63b C L n cap ps beat m cap2 ss q out i B X k =
 (bcase (decide (i < (↑m : Int)))
 (bcase (decide (0 ≤ i))
 (bcase (decide (i < (↑m : Int)))
 (∃ n1 : Int,
 ((At (ss) (0 + Int.toNat i * 1) 1 [(Go.Value.int Go.IntKind.i64 (n1))]) ∧
 (bcase (decide (0 ≤ i))
 (bcase (decide (i < (↑n : Int)))
 (∃ n2 : Int,
 ((At (ps) (0 + Int.toNat i * 1) 1 [(Go.Value.int Go.IntKind.i64 (n2))]) ∧
 ((((Go.Value.int Go.IntKind.i64 (Go.IntKind.wrap Go.IntKind.i64 (n2 * beat))) = (Go.Value.int Go.IntKind.i64 (Go.IntKind.wrap Go.IntKind.i64 (n2 * beat)))) ∧
 (((Go.Value.int Go.IntKind.i64 (beat)) = (Go.Value.int Go.IntKind.i64 (beat))) ∧
 (((Go.Value.pointer (Option.some (Go.Addr.mk 1000 1 Option.none))) = (Go.Value.pointer (Option.some (Go.Addr.mk 1000 1 Option.none)))) ∧
 ((∃ n3 : Int,
 ((At (ps) (0 + Int.toNat i * 1) 1 [(Go.Value.int Go.IntKind.i64 (n3))]) ∧
 ((Go.Value.int Go.IntKind.i64 (n3)) = (Go.Value.int Go.IntKind.i64 (n2))))) ∧
 ((bcase (decide (0 ≤ i))
 (bcase (decide (i < (↑n : Int)))
 ((Go.Value.pointer (Option.some (Go.Addr.mk 500 (0 + Int.toNat i * 1) Option.none))) = (Go.Value.pointer (Option.some (Go.Addr.mk 500 (0 + Int.toNat i * 1) Option.none))))
 False)
 False) ∧
 (((Go.Value.int Go.IntKind.i64 (i)) = (Go.Value.int Go.IntKind.i64 (i))) ∧
 (((Go.Value.slice (Option.some (Go.Addr.mk 500 0 Option.none)) (n) (cap)) = (Go.Value.slice (Option.some (Go.Addr.mk 500 0 Option.none)) (n) (cap))) ∧
 (((Go.Value.pointer (Option.some (Go.Addr.mk 1000 0 Option.none))) = (Go.Value.pointer (Option.some (Go.Addr.mk 1000 0 Option.none)))) ∧
 True)))))))) ∧
 (True ∧
 (bcase (decide (Go.IntKind.wrap Go.IntKind.i64 (n2 * beat) > 200))
 (k [D.nil, (D.val (Go.Value.int Go.IntKind.i64 (8 : Int)))])
 (bcase (decide (q < q + 1))
 (bcase (decide ((2 * (q + 1) + 768) * 16 ≤ 281474976710656))
 (bcase (decide (q + 1 ≤ 1099511627776))
 (bcase (decide (0 + q * 2 ≤ List.length out))
 (bcase (decide (0 + q * 2 = List.length out))
 (B [(Prod.mk 2 (Go.Value.pointer (Option.some (Go.Addr.mk 1000 0 Option.none)))), (Prod.mk 9 (Go.Value.slice (Option.some (Go.Addr.mk 1001 0 Option.none)) (q + 1) (q + 1))), (Prod.mk 32 (Go.Value.slice (Option.some (Go.Addr.mk 501 0 Option.none)) (m) (cap2))), (Prod.mk 33 (Go.Value.int Go.IntKind.i64 ((↑m : Int)))), (Prod.mk 34 (Go.Value.int Go.IntKind.i64 (Go.IntKind.wrap Go.IntKind.i64 (i + 1))))] [(Prod.mk 1000 (AObj.cells [(Go.Value.slice (Option.some (Go.Addr.mk 500 0 Option.none)) (n) (cap)), (Go.Value.int Go.IntKind.i64 (beat))] 107 false 1)), (Prod.mk 1001 (AObj.sym ((List.take (q * 2) (List.drop 0 out)) ++ [(Go.Value.int Go.IntKind.i64 (n1)), (Go.Value.int Go.IntKind.i64 (Go.IntKind.wrap Go.IntKind.i64 (n2 * beat)))]) true 2)), (Prod.mk 501 (AObj.sym (ss) false 1)), (Prod.mk 500 (AObj.sym (ps) false 1))])
 False)
 False)
 False)
 False)
 False))))))
 False)
 False)))
 False)
 False)
 (X 0 [(Prod.mk 9 (Go.Value.slice (Option.some (Go.Addr.mk 1000 0 Option.none)) (q) (q)))] [(Prod.mk 1000 (AObj.sym (out) true 2))])) := by kernel_rfl
def s67 (m cap2 : Nat) (i : Int) : Slots := [(1, .slice (some ⟨501, 0, none⟩) m cap2), (2, .pointer (some ⟨1000, 0, none⟩)), (6, .int .i64 i)]
def r67 (C : Ct) (L : AtLoop) (n cap : Nat) (ps : List Value) (beat : Int) (m cap2 : Nat) (ss : List Value) (i : Int) (B : Bx) (X : Xx) (k : List D → Prop) : Prop := wpRound Try.prog (hN C) L 67 0 (s67 m cap2 i) [T501 ss, bx n cap ps beat, A500 ps] B X (dataK k)
theorem r67_text (C : Ct) (L : AtLoop) (n : Nat) (cap : Nat) (ps : List Go.Value) (beat : Int) (m : Nat) (cap2 : Nat) (ss : List Go.Value) (i : Int) (B : Bx) (X : Xx) (k : List D → Prop) : r67 C L n cap ps beat m cap2 ss i B X k =
 (bcase (decide (i < (↑m : Int)))
 (bcase (decide (0 ≤ i))
 (bcase (decide (i < (↑m : Int)))
 (∃ n1 : Int,
 ((At (ss) (0 + Int.toNat i * 1) 1 [(Go.Value.int Go.IntKind.i64 (n1))]) ∧
 (bcase (decide (0 ≤ n1))
 (bcase (decide (n1 ≤ 20000))
 (B [(Prod.mk 1 (Go.Value.slice (Option.some (Go.Addr.mk 501 0 Option.none)) (m) (cap2))), (Prod.mk 2 (Go.Value.pointer (Option.some (Go.Addr.mk 1000 0 Option.none)))), (Prod.mk 6 (Go.Value.int Go.IntKind.i64 (Go.IntKind.wrap Go.IntKind.i64 (i + 1))))] [(Prod.mk 501 (AObj.sym (ss) false 1)), (Prod.mk 1000 (AObj.cells [(Go.Value.slice (Option.some (Go.Addr.mk 500 0 Option.none)) (n) (cap)), (Go.Value.int Go.IntKind.i64 (beat))] 107 false 1)), (Prod.mk 500 (AObj.sym (ps) false 1))])
 (k [D.nil, (D.val (Go.Value.int Go.IntKind.i64 (2 : Int)))]))
 (k [D.nil, (D.val (Go.Value.int Go.IntKind.i64 (2 : Int)))]))))
 False)
 False)
 (X 0 [(Prod.mk 1 (Go.Value.slice (Option.some (Go.Addr.mk 501 0 Option.none)) (m) (cap2))), (Prod.mk 2 (Go.Value.pointer (Option.some (Go.Addr.mk 1000 0 Option.none))))] [(Prod.mk 501 (AObj.sym (ss) false 1)), (Prod.mk 1000 (AObj.cells [(Go.Value.slice (Option.some (Go.Addr.mk 500 0 Option.none)) (n) (cap)), (Go.Value.int Go.IntKind.i64 (beat))] 107 false 1)), (Prod.mk 500 (AObj.sym (ps) false 1))])) := by kernel_rfl
def s68 (tk at' i : Int) : Slots := [(2, .int .i64 tk), (3, .pointer (some ⟨1000, 0, none⟩)), (8, .int .i64 at'), (9, .int .i64 i)]
def r68 (C : Ct) (L : AtLoop) (n cap : Nat) (ps : List Value) (beat : Int) (tk at' i : Int) (B : Bx) (X : Xx) (k : List D → Prop) : Prop := wpRound Try.prog (hN C) L 68 0 (s68 tk at' i) (bxB n cap ps beat) B X (dataK k)
theorem r68_text (C : Ct) (L : AtLoop) (n : Nat) (cap : Nat) (ps : List Go.Value) (beat : Int) (tk : Int) (at' : Int) (i : Int) (B : Bx) (X : Xx) (k : List D → Prop) : r68 C L n cap ps beat tk at' i B X k =
 (bcase (decide (i < (↑n : Int)))
 (bcase (decide (0 ≤ i))
 (bcase (decide (i < (↑n : Int)))
 (∃ n1 : Int,
 ((At (ps) (0 + Int.toNat i * 1) 1 [(Go.Value.int Go.IntKind.i64 (n1))]) ∧
 ((((Go.Value.int Go.IntKind.i64 (Go.IntKind.wrap Go.IntKind.i64 (at' + Go.IntKind.wrap Go.IntKind.i64 (n1 * beat)))) = (Go.Value.int Go.IntKind.i64 (Go.IntKind.wrap Go.IntKind.i64 (at' + Go.IntKind.wrap Go.IntKind.i64 (n1 * beat))))) ∧
 (((Go.Value.int Go.IntKind.i64 (Go.IntKind.wrap Go.IntKind.i64 (n1 * beat))) = (Go.Value.int Go.IntKind.i64 (Go.IntKind.wrap Go.IntKind.i64 (n1 * beat)))) ∧
 (((Go.Value.int Go.IntKind.i64 (beat)) = (Go.Value.int Go.IntKind.i64 (beat))) ∧
 (((Go.Value.pointer (Option.some (Go.Addr.mk 1000 1 Option.none))) = (Go.Value.pointer (Option.some (Go.Addr.mk 1000 1 Option.none)))) ∧
 ((∃ n2 : Int,
 ((At (ps) (0 + Int.toNat i * 1) 1 [(Go.Value.int Go.IntKind.i64 (n2))]) ∧
 ((Go.Value.int Go.IntKind.i64 (n2)) = (Go.Value.int Go.IntKind.i64 (n1))))) ∧
 ((bcase (decide (0 ≤ i))
 (bcase (decide (i < (↑n : Int)))
 ((Go.Value.pointer (Option.some (Go.Addr.mk 500 (0 + Int.toNat i * 1) Option.none))) = (Go.Value.pointer (Option.some (Go.Addr.mk 500 (0 + Int.toNat i * 1) Option.none))))
 False)
 False) ∧
 (((Go.Value.int Go.IntKind.i64 (i)) = (Go.Value.int Go.IntKind.i64 (i))) ∧
 (((Go.Value.slice (Option.some (Go.Addr.mk 500 0 Option.none)) (n) (cap)) = (Go.Value.slice (Option.some (Go.Addr.mk 500 0 Option.none)) (n) (cap))) ∧
 (((Go.Value.pointer (Option.some (Go.Addr.mk 1000 0 Option.none))) = (Go.Value.pointer (Option.some (Go.Addr.mk 1000 0 Option.none)))) ∧
 (((Go.Value.int Go.IntKind.i64 (at')) = (Go.Value.int Go.IntKind.i64 (at'))) ∧
 True)))))))))) ∧
 (True ∧
 (bcase (decide (tk < Go.IntKind.wrap Go.IntKind.i64 (at' + Go.IntKind.wrap Go.IntKind.i64 (n1 * beat))))
 (k [(D.val (Go.Value.int Go.IntKind.i64 (i))), (D.val (Go.Value.int Go.IntKind.i64 (0 : Int)))])
 (B [(Prod.mk 2 (Go.Value.int Go.IntKind.i64 (tk))), (Prod.mk 3 (Go.Value.pointer (Option.some (Go.Addr.mk 1000 0 Option.none)))), (Prod.mk 8 (Go.Value.int Go.IntKind.i64 (Go.IntKind.wrap Go.IntKind.i64 (at' + Go.IntKind.wrap Go.IntKind.i64 (n1 * beat))))), (Prod.mk 9 (Go.Value.int Go.IntKind.i64 (Go.IntKind.wrap Go.IntKind.i64 (i + 1))))] [(Prod.mk 1000 (AObj.cells [(Go.Value.slice (Option.some (Go.Addr.mk 500 0 Option.none)) (n) (cap)), (Go.Value.int Go.IntKind.i64 (beat))] 107 false 1)), (Prod.mk 500 (AObj.sym (ps) false 1))]))))))
 False)
 False)
 (X 0 [] [])) := by kernel_rfl
def s124 (s i : Int) : Slots := [(1, .pointer (some ⟨1000, 0, none⟩)), (3, .int .i64 s), (4, .int .i64 i)]
def r124 (C : Ct) (L : AtLoop) (n cap : Nat) (ps : List Value) (beat : Int) (s i : Int) (B : Bx) (X : Xx) (k : List D → Prop) : Prop := wpRound Try.prog (hN C) L 124 0 (s124 s i) (bxB n cap ps beat) B X (dataK k)
theorem r124_text (C : Ct) (L : AtLoop) (n : Nat) (cap : Nat) (ps : List Go.Value) (beat : Int) (s : Int) (i : Int) (B : Bx) (X : Xx) (k : List D → Prop) : r124 C L n cap ps beat s i B X k =
 (bcase (decide (i < (↑n : Int)))
 (bcase (decide (0 ≤ i))
 (bcase (decide (i < (↑n : Int)))
 (∃ n1 : Int,
 ((At (ps) (0 + Int.toNat i * 1) 1 [(Go.Value.int Go.IntKind.i64 (n1))]) ∧
 ((((Go.Value.int Go.IntKind.i64 (Go.IntKind.wrap Go.IntKind.i64 (s + Go.IntKind.wrap Go.IntKind.i64 (n1 * beat)))) = (Go.Value.int Go.IntKind.i64 (Go.IntKind.wrap Go.IntKind.i64 (s + Go.IntKind.wrap Go.IntKind.i64 (n1 * beat))))) ∧
 (((Go.Value.int Go.IntKind.i64 (Go.IntKind.wrap Go.IntKind.i64 (n1 * beat))) = (Go.Value.int Go.IntKind.i64 (Go.IntKind.wrap Go.IntKind.i64 (n1 * beat)))) ∧
 (((Go.Value.int Go.IntKind.i64 (beat)) = (Go.Value.int Go.IntKind.i64 (beat))) ∧
 (((Go.Value.pointer (Option.some (Go.Addr.mk 1000 1 Option.none))) = (Go.Value.pointer (Option.some (Go.Addr.mk 1000 1 Option.none)))) ∧
 ((∃ n2 : Int,
 ((At (ps) (0 + Int.toNat i * 1) 1 [(Go.Value.int Go.IntKind.i64 (n2))]) ∧
 ((Go.Value.int Go.IntKind.i64 (n2)) = (Go.Value.int Go.IntKind.i64 (n1))))) ∧
 ((bcase (decide (0 ≤ i))
 (bcase (decide (i < (↑n : Int)))
 ((Go.Value.pointer (Option.some (Go.Addr.mk 500 (0 + Int.toNat i * 1) Option.none))) = (Go.Value.pointer (Option.some (Go.Addr.mk 500 (0 + Int.toNat i * 1) Option.none))))
 False)
 False) ∧
 (((Go.Value.int Go.IntKind.i64 (i)) = (Go.Value.int Go.IntKind.i64 (i))) ∧
 (((Go.Value.slice (Option.some (Go.Addr.mk 500 0 Option.none)) (n) (cap)) = (Go.Value.slice (Option.some (Go.Addr.mk 500 0 Option.none)) (n) (cap))) ∧
 (((Go.Value.pointer (Option.some (Go.Addr.mk 1000 0 Option.none))) = (Go.Value.pointer (Option.some (Go.Addr.mk 1000 0 Option.none)))) ∧
 (((Go.Value.int Go.IntKind.i64 (s)) = (Go.Value.int Go.IntKind.i64 (s))) ∧
 True)))))))))) ∧
 (True ∧
 (B [(Prod.mk 1 (Go.Value.pointer (Option.some (Go.Addr.mk 1000 0 Option.none)))), (Prod.mk 3 (Go.Value.int Go.IntKind.i64 (Go.IntKind.wrap Go.IntKind.i64 (s + Go.IntKind.wrap Go.IntKind.i64 (n1 * beat))))), (Prod.mk 4 (Go.Value.int Go.IntKind.i64 (Go.IntKind.wrap Go.IntKind.i64 (i + 1))))] [(Prod.mk 1000 (AObj.cells [(Go.Value.slice (Option.some (Go.Addr.mk 500 0 Option.none)) (n) (cap)), (Go.Value.int Go.IntKind.i64 (beat))] 107 false 1)), (Prod.mk 500 (AObj.sym (ps) false 1))])))))
 False)
 False)
 (X 0 [(Prod.mk 3 (Go.Value.int Go.IntKind.i64 (s)))] [])) := by kernel_rfl
def s70 (n cap m cap2 : Nat) (i : Int) : Slots := [(0, S500 n cap), (1, .slice (some ⟨501, 0, none⟩) m cap2), (5, .int .i64 i)]
def r70 (C : Ct) (L : AtLoop) (n cap : Nat) (ps : List Value) (m cap2 : Nat) (ss : List Value) (i : Int) (B : Bx) (X : Xx) (k : List D → Prop) : Prop := wpRound Try.prog (hN C) L 70 0 (s70 n cap m cap2 i) [(500, .sym ps false 2), (501, .sym ss false 2)] B X (dataK k)
theorem r70_text (C : Ct) (L : AtLoop) (n : Nat) (cap : Nat) (ps : List Go.Value) (m : Nat) (cap2 : Nat) (ss : List Go.Value) (i : Int) (B : Bx) (X : Xx) (k : List D → Prop) : r70 C L n cap ps m cap2 ss i B X k =
 (bcase (decide (i < (↑n : Int)))
 (bcase (decide (0 ≤ i))
 (bcase (decide (i < (↑n : Int)))
 (∃ n1 : Int,
 (∃ n2 : Int,
 ((At (ps) (0 + Int.toNat i * 2) 2 [(Go.Value.int Go.IntKind.i64 (n1)), (Go.Value.int Go.IntKind.i64 (n2))]) ∧
 (bcase (decide (0 ≤ i))
 (bcase (decide (i < (↑m : Int)))
 (∃ n3 : Int,
 (∃ n4 : Int,
 ((At (ss) (0 + Int.toNat i * 2) 2 [(Go.Value.int Go.IntKind.i64 (n3)), (Go.Value.int Go.IntKind.i64 (n4))]) ∧
 (bcase (if Bool.true = Bool.true then !(n1 == n3 && (n2 == n4 && Bool.true)) else n1 == n3 && (n2 == n4 && Bool.true))
 (((bcase (if Bool.true = Bool.true then !(n1 == n3 && (n2 == n4 && Bool.true)) else n1 == n3 && (n2 == n4 && Bool.true))
 ((Go.Value.bool true) = (Go.Value.bool true))
 ((Go.Value.bool false) = (Go.Value.bool true))) ∧
 ((∃ n5 : Int,
 (∃ n6 : Int,
 ((At (ss) (0 + Int.toNat i * 2) 2 [(Go.Value.int Go.IntKind.i64 (n5)), (Go.Value.int Go.IntKind.i64 (n6))]) ∧
 ((Go.Value.agg [(Go.Value.int Go.IntKind.i64 (n5)), (Go.Value.int Go.IntKind.i64 (n6))].toArray) = (Go.Value.agg [(Go.Value.int Go.IntKind.i64 (n3)), (Go.Value.int Go.IntKind.i64 (n4))].toArray))))) ∧
 ((bcase (decide (0 ≤ i))
 (bcase (decide (i < (↑m : Int)))
 ((Go.Value.pointer (Option.some (Go.Addr.mk 501 (0 + Int.toNat i * 2) Option.none))) = (Go.Value.pointer (Option.some (Go.Addr.mk 501 (0 + Int.toNat i * 2) Option.none))))
 False)
 False) ∧
 (((Go.Value.int Go.IntKind.i64 (i)) = (Go.Value.int Go.IntKind.i64 (i))) ∧
 (((Go.Value.slice (Option.some (Go.Addr.mk 501 0 Option.none)) (m) (cap2)) = (Go.Value.slice (Option.some (Go.Addr.mk 501 0 Option.none)) (m) (cap2))) ∧
 ((∃ n5 : Int,
 (∃ n6 : Int,
 ((At (ps) (0 + Int.toNat i * 2) 2 [(Go.Value.int Go.IntKind.i64 (n5)), (Go.Value.int Go.IntKind.i64 (n6))]) ∧
 ((Go.Value.agg [(Go.Value.int Go.IntKind.i64 (n5)), (Go.Value.int Go.IntKind.i64 (n6))].toArray) = (Go.Value.agg [(Go.Value.int Go.IntKind.i64 (n1)), (Go.Value.int Go.IntKind.i64 (n2))].toArray))))) ∧
 ((bcase (decide (0 ≤ i))
 (bcase (decide (i < (↑n : Int)))
 ((Go.Value.pointer (Option.some (Go.Addr.mk 500 (0 + Int.toNat i * 2) Option.none))) = (Go.Value.pointer (Option.some (Go.Addr.mk 500 (0 + Int.toNat i * 2) Option.none))))
 False)
 False) ∧
 (((Go.Value.int Go.IntKind.i64 (i)) = (Go.Value.int Go.IntKind.i64 (i))) ∧
 (((Go.Value.slice (Option.some (Go.Addr.mk 500 0 Option.none)) (n) (cap)) = (Go.Value.slice (Option.some (Go.Addr.mk 500 0 Option.none)) (n) (cap))) ∧
 True))))))))) ∧
 (k [(D.val (Go.Value.bool false))]))
 (((bcase (if Bool.true = Bool.true then !(n1 == n3 && (n2 == n4 && Bool.true)) else n1 == n3 && (n2 == n4 && Bool.true))
 ((Go.Value.bool true) = (Go.Value.bool false))
 ((Go.Value.bool false) = (Go.Value.bool false))) ∧
 ((∃ n5 : Int,
 (∃ n6 : Int,
 ((At (ss) (0 + Int.toNat i * 2) 2 [(Go.Value.int Go.IntKind.i64 (n5)), (Go.Value.int Go.IntKind.i64 (n6))]) ∧
 ((Go.Value.agg [(Go.Value.int Go.IntKind.i64 (n5)), (Go.Value.int Go.IntKind.i64 (n6))].toArray) = (Go.Value.agg [(Go.Value.int Go.IntKind.i64 (n3)), (Go.Value.int Go.IntKind.i64 (n4))].toArray))))) ∧
 ((bcase (decide (0 ≤ i))
 (bcase (decide (i < (↑m : Int)))
 ((Go.Value.pointer (Option.some (Go.Addr.mk 501 (0 + Int.toNat i * 2) Option.none))) = (Go.Value.pointer (Option.some (Go.Addr.mk 501 (0 + Int.toNat i * 2) Option.none))))
 False)
 False) ∧
 (((Go.Value.int Go.IntKind.i64 (i)) = (Go.Value.int Go.IntKind.i64 (i))) ∧
 (((Go.Value.slice (Option.some (Go.Addr.mk 501 0 Option.none)) (m) (cap2)) = (Go.Value.slice (Option.some (Go.Addr.mk 501 0 Option.none)) (m) (cap2))) ∧
 ((∃ n5 : Int,
 (∃ n6 : Int,
 ((At (ps) (0 + Int.toNat i * 2) 2 [(Go.Value.int Go.IntKind.i64 (n5)), (Go.Value.int Go.IntKind.i64 (n6))]) ∧
 ((Go.Value.agg [(Go.Value.int Go.IntKind.i64 (n5)), (Go.Value.int Go.IntKind.i64 (n6))].toArray) = (Go.Value.agg [(Go.Value.int Go.IntKind.i64 (n1)), (Go.Value.int Go.IntKind.i64 (n2))].toArray))))) ∧
 ((bcase (decide (0 ≤ i))
 (bcase (decide (i < (↑n : Int)))
 ((Go.Value.pointer (Option.some (Go.Addr.mk 500 (0 + Int.toNat i * 2) Option.none))) = (Go.Value.pointer (Option.some (Go.Addr.mk 500 (0 + Int.toNat i * 2) Option.none))))
 False)
 False) ∧
 (((Go.Value.int Go.IntKind.i64 (i)) = (Go.Value.int Go.IntKind.i64 (i))) ∧
 (((Go.Value.slice (Option.some (Go.Addr.mk 500 0 Option.none)) (n) (cap)) = (Go.Value.slice (Option.some (Go.Addr.mk 500 0 Option.none)) (n) (cap))) ∧
 True))))))))) ∧
 (B [(Prod.mk 0 (Go.Value.slice (Option.some (Go.Addr.mk 500 0 Option.none)) (n) (cap))), (Prod.mk 1 (Go.Value.slice (Option.some (Go.Addr.mk 501 0 Option.none)) (m) (cap2))), (Prod.mk 5 (Go.Value.int Go.IntKind.i64 (Go.IntKind.wrap Go.IntKind.i64 (i + 1))))] [(Prod.mk 500 (AObj.sym (ps) false 2)), (Prod.mk 501 (AObj.sym (ss) false 2))]))))))
 False)
 False))))
 False)
 False)
 (X 0 [] [])) := by kernel_rfl
def s70n (i : Int) : Slots := [(0, .slice none 0 0), (1, .slice none 0 0), (5, .int .i64 i)]
def r70n (C : Ct) (L : AtLoop) (i : Int) (B : Bx) (X : Xx) (k : List D → Prop) : Prop := wpRound Try.prog (hN C) L 70 0 (s70n i) [] B X (dataK k)
theorem r70n_text (C : Ct) (L : AtLoop) (i : Int) (B : Bx) (X : Xx) (k : List D → Prop) : r70n C L i B X k =
 (bcase (decide (i < (↑0 : Int)))
 False
 (X 0 [] [])) := by kernel_rfl
def s64 (n cap : Nat) (p i : Int) : Slots := [(11, .int .i64 p), (39, S500 n cap), (40, .int .i64 n), (41, .int .i64 i)]
def r64 (C : Ct) (L : AtLoop) (n cap : Nat) (ps : List Value) (p i : Int) (B : Bx) (X : Xx) (k : List D → Prop) : Prop := wpRound Try.prog (hN C) L 64 0 (s64 n cap p i) [A500 ps] B X (dataK k)
theorem r64_text (C : Ct) (L : AtLoop) (n : Nat) (cap : Nat) (ps : List Go.Value) (p : Int) (i : Int) (B : Bx) (X : Xx) (k : List D → Prop) : r64 C L n cap ps p i B X k =
 (bcase (decide (i < (↑n : Int)))
 (bcase (decide (0 ≤ i))
 (bcase (decide (i < (↑n : Int)))
 (∃ n1 : Int,
 ((At (ps) (0 + Int.toNat i * 1) 1 [(Go.Value.int Go.IntKind.i64 (n1))]) ∧
 (bcase (decide (p < n1))
 (k [(D.val (Go.Value.int Go.IntKind.i64 (i))), (D.val (Go.Value.int Go.IntKind.i64 (0 : Int)))])
 (B [(Prod.mk 11 (Go.Value.int Go.IntKind.i64 (Go.IntKind.wrap Go.IntKind.i64 (p - n1)))), (Prod.mk 39 (Go.Value.slice (Option.some (Go.Addr.mk 500 0 Option.none)) (n) (cap))), (Prod.mk 40 (Go.Value.int Go.IntKind.i64 ((↑n : Int)))), (Prod.mk 41 (Go.Value.int Go.IntKind.i64 (Go.IntKind.wrap Go.IntKind.i64 (i + 1))))] [(Prod.mk 500 (AObj.sym (ps) false 1))]))))
 False)
 False)
 (X 0 [] [])) := by kernel_rfl
def s65 (n cap : Nat) (c i : Int) : Slots := [(2, .pointer (some ⟨1000, 0, none⟩)), (9, .int .i64 c), (28, S500 n cap), (29, .int .i64 n), (30, .int .i64 i)]
def r65 (C : Ct) (L : AtLoop) (n cap : Nat) (ps : List Value) (beat c i : Int) (B : Bx) (X : Xx) (k : List D → Prop) : Prop := wpRound Try.prog (hN C) L 65 0 (s65 n cap c i) (bxB n cap ps beat) B X (dataK k)
theorem r65_text (C : Ct) (L : AtLoop) (n : Nat) (cap : Nat) (ps : List Go.Value) (beat : Int) (c : Int) (i : Int) (B : Bx) (X : Xx) (k : List D → Prop) : r65 C L n cap ps beat c i B X k =
 (bcase (decide (i < (↑n : Int)))
 (bcase (decide (0 ≤ i))
 (bcase (decide (i < (↑n : Int)))
 (∃ n1 : Int,
 ((At (ps) (0 + Int.toNat i * 1) 1 [(Go.Value.int Go.IntKind.i64 (n1))]) ∧
 (B [(Prod.mk 2 (Go.Value.pointer (Option.some (Go.Addr.mk 1000 0 Option.none)))), (Prod.mk 9 (Go.Value.int Go.IntKind.i64 (Go.IntKind.wrap Go.IntKind.i64 (c - Go.IntKind.wrap Go.IntKind.i64 (n1 * beat))))), (Prod.mk 28 (Go.Value.slice (Option.some (Go.Addr.mk 500 0 Option.none)) (n) (cap))), (Prod.mk 29 (Go.Value.int Go.IntKind.i64 ((↑n : Int)))), (Prod.mk 30 (Go.Value.int Go.IntKind.i64 (Go.IntKind.wrap Go.IntKind.i64 (i + 1))))] [(Prod.mk 1000 (AObj.cells [(Go.Value.slice (Option.some (Go.Addr.mk 500 0 Option.none)) (n) (cap)), (Go.Value.int Go.IntKind.i64 (beat))] 107 false 1)), (Prod.mk 500 (AObj.sym (ps) false 1))])))
 False)
 False)
 (X 0 [(Prod.mk 9 (Go.Value.int Go.IntKind.i64 (c)))] [])) := by kernel_rfl
def s67b (m cap2 : Nat) (l : Value) (i : Int) : Slots := [(1, .slice (some ⟨501, 0, none⟩) m cap2), (2, .pointer (some ⟨1000, 0, none⟩)), (8, l), (9, .int .i64 i)]
def r67n (C : Ct) (L : AtLoop) (n cap : Nat) (ps : List Value) (beat : Int) (m cap2 : Nat) (ss : List Value) (i : Int) (B : Bx) (X : Xx) (k : List D → Prop) : Prop := wpRound Try.prog (hN C) L 67 2 (s67b m cap2 (.slice none 0 0) i) [T501 ss, bx n cap ps beat, A500 ps] B X (dataK k)
theorem r67n_text (C : Ct) (L : AtLoop) (n : Nat) (cap : Nat) (ps : List Go.Value) (beat : Int) (m : Nat) (cap2 : Nat) (ss : List Go.Value) (i : Int) (B : Bx) (X : Xx) (k : List D → Prop) : r67n C L n cap ps beat m cap2 ss i B X k =
 (bcase (decide (i < (↑m : Int)))
 (bcase (decide (0 ≤ i))
 (bcase (decide (i < (↑n : Int)))
 (∃ n1 : Int,
 ((At (ps) (0 + Int.toNat i * 1) 1 [(Go.Value.int Go.IntKind.i64 (n1))]) ∧
 ((((Go.Value.int Go.IntKind.i64 (Go.IntKind.wrap Go.IntKind.i64 (n1 * beat))) = (Go.Value.int Go.IntKind.i64 (Go.IntKind.wrap Go.IntKind.i64 (n1 * beat)))) ∧
 (((Go.Value.int Go.IntKind.i64 (beat)) = (Go.Value.int Go.IntKind.i64 (beat))) ∧
 (((Go.Value.pointer (Option.some (Go.Addr.mk 1000 1 Option.none))) = (Go.Value.pointer (Option.some (Go.Addr.mk 1000 1 Option.none)))) ∧
 ((∃ n2 : Int,
 ((At (ps) (0 + Int.toNat i * 1) 1 [(Go.Value.int Go.IntKind.i64 (n2))]) ∧
 ((Go.Value.int Go.IntKind.i64 (n2)) = (Go.Value.int Go.IntKind.i64 (n1))))) ∧
 ((bcase (decide (0 ≤ i))
 (bcase (decide (i < (↑n : Int)))
 ((Go.Value.pointer (Option.some (Go.Addr.mk 500 (0 + Int.toNat i * 1) Option.none))) = (Go.Value.pointer (Option.some (Go.Addr.mk 500 (0 + Int.toNat i * 1) Option.none))))
 False)
 False) ∧
 (((Go.Value.int Go.IntKind.i64 (i)) = (Go.Value.int Go.IntKind.i64 (i))) ∧
 (((Go.Value.slice (Option.some (Go.Addr.mk 500 0 Option.none)) (n) (cap)) = (Go.Value.slice (Option.some (Go.Addr.mk 500 0 Option.none)) (n) (cap))) ∧
 (((Go.Value.pointer (Option.some (Go.Addr.mk 1000 0 Option.none))) = (Go.Value.pointer (Option.some (Go.Addr.mk 1000 0 Option.none)))) ∧
 True)))))))) ∧
 (True ∧
 (bcase (decide (Go.IntKind.wrap Go.IntKind.i64 (n1 * beat) > 200))
 (k [D.nil, (D.val (Go.Value.int Go.IntKind.i64 (8 : Int)))])
 (bcase (decide (0 ≤ i))
 (bcase (decide (i < (↑m : Int)))
 (∃ n2 : Int,
 ((At (ss) (0 + Int.toNat i * 1) 1 [(Go.Value.int Go.IntKind.i64 (n2))]) ∧
 (B [(Prod.mk 1 (Go.Value.slice (Option.some (Go.Addr.mk 501 0 Option.none)) (m) (cap2))), (Prod.mk 2 (Go.Value.pointer (Option.some (Go.Addr.mk 1000 0 Option.none)))), (Prod.mk 8 (Go.Value.slice (Option.some (Go.Addr.mk 1001 0 Option.none)) 1 1)), (Prod.mk 9 (Go.Value.int Go.IntKind.i64 (Go.IntKind.wrap Go.IntKind.i64 (i + 1))))] [(Prod.mk 501 (AObj.sym (ss) false 1)), (Prod.mk 1000 (AObj.cells [(Go.Value.slice (Option.some (Go.Addr.mk 500 0 Option.none)) (n) (cap)), (Go.Value.int Go.IntKind.i64 (beat))] 107 false 1)), (Prod.mk 1001 (AObj.sym [(Go.Value.int Go.IntKind.i64 (n2)), (Go.Value.int Go.IntKind.i64 (Go.IntKind.wrap Go.IntKind.i64 (n1 * beat)))] true 2)), (Prod.mk 500 (AObj.sym (ps) false 1))])))
 False)
 False))))))
 False)
 False)
 (X 2 [(Prod.mk 8 (Go.Value.slice Option.none 0 0))] [])) := by kernel_rfl
def r67b (C : Ct) (L : AtLoop) (n cap : Nat) (ps : List Value) (beat : Int) (m cap2 : Nat) (ss : List Value) (q : Nat) (out : List Value) (i : Int) (B : Bx) (X : Xx) (k : List D → Prop) : Prop := wpRound Try.prog (hN C) L 67 2 (s67b m cap2 (.slice (some ⟨1001, 0, none⟩) q q) i) [T501 ss, bx n cap ps beat, (1001, .sym out true 2), A500 ps] B X (dataK k)
theorem r67b_text (C : Ct) (L : AtLoop) (n : Nat) (cap : Nat) (ps : List Go.Value) (beat : Int) (m : Nat) (cap2 : Nat) (ss : List Go.Value) (q : Nat) (out : List Go.Value) (i : Int) (B : Bx) (X : Xx) (k : List D → Prop) : r67b C L n cap ps beat m cap2 ss q out i B X k =
 (bcase (decide (i < (↑m : Int)))
 (bcase (decide (0 ≤ i))
 (bcase (decide (i < (↑n : Int)))
 (∃ n1 : Int,
 ((At (ps) (0 + Int.toNat i * 1) 1 [(Go.Value.int Go.IntKind.i64 (n1))]) ∧
 ((((Go.Value.int Go.IntKind.i64 (Go.IntKind.wrap Go.IntKind.i64 (n1 * beat))) = (Go.Value.int Go.IntKind.i64 (Go.IntKind.wrap Go.IntKind.i64 (n1 * beat)))) ∧
 (((Go.Value.int Go.IntKind.i64 (beat)) = (Go.Value.int Go.IntKind.i64 (beat))) ∧
 (((Go.Value.pointer (Option.some (Go.Addr.mk 1000 1 Option.none))) = (Go.Value.pointer (Option.some (Go.Addr.mk 1000 1 Option.none)))) ∧
 ((∃ n2 : Int,
 ((At (ps) (0 + Int.toNat i * 1) 1 [(Go.Value.int Go.IntKind.i64 (n2))]) ∧
 ((Go.Value.int Go.IntKind.i64 (n2)) = (Go.Value.int Go.IntKind.i64 (n1))))) ∧
 ((bcase (decide (0 ≤ i))
 (bcase (decide (i < (↑n : Int)))
 ((Go.Value.pointer (Option.some (Go.Addr.mk 500 (0 + Int.toNat i * 1) Option.none))) = (Go.Value.pointer (Option.some (Go.Addr.mk 500 (0 + Int.toNat i * 1) Option.none))))
 False)
 False) ∧
 (((Go.Value.int Go.IntKind.i64 (i)) = (Go.Value.int Go.IntKind.i64 (i))) ∧
 (((Go.Value.slice (Option.some (Go.Addr.mk 500 0 Option.none)) (n) (cap)) = (Go.Value.slice (Option.some (Go.Addr.mk 500 0 Option.none)) (n) (cap))) ∧
 (((Go.Value.pointer (Option.some (Go.Addr.mk 1000 0 Option.none))) = (Go.Value.pointer (Option.some (Go.Addr.mk 1000 0 Option.none)))) ∧
 True)))))))) ∧
 (True ∧
 (bcase (decide (Go.IntKind.wrap Go.IntKind.i64 (n1 * beat) > 200))
 (k [D.nil, (D.val (Go.Value.int Go.IntKind.i64 (8 : Int)))])
 (bcase (decide (0 ≤ i))
 (bcase (decide (i < (↑m : Int)))
 (∃ n2 : Int,
 ((At (ss) (0 + Int.toNat i * 1) 1 [(Go.Value.int Go.IntKind.i64 (n2))]) ∧
 (bcase (decide (q < q + 1))
 (bcase (decide ((2 * (q + 1) + 768) * 16 ≤ 281474976710656))
 (bcase (decide (q + 1 ≤ 1099511627776))
 (bcase (decide (0 + q * 2 ≤ List.length out))
 (bcase (decide (0 + q * 2 = List.length out))
 (B [(Prod.mk 1 (Go.Value.slice (Option.some (Go.Addr.mk 501 0 Option.none)) (m) (cap2))), (Prod.mk 2 (Go.Value.pointer (Option.some (Go.Addr.mk 1000 0 Option.none)))), (Prod.mk 8 (Go.Value.slice (Option.some (Go.Addr.mk 1001 0 Option.none)) (q + 1) (q + 1))), (Prod.mk 9 (Go.Value.int Go.IntKind.i64 (Go.IntKind.wrap Go.IntKind.i64 (i + 1))))] [(Prod.mk 501 (AObj.sym (ss) false 1)), (Prod.mk 1000 (AObj.cells [(Go.Value.slice (Option.some (Go.Addr.mk 500 0 Option.none)) (n) (cap)), (Go.Value.int Go.IntKind.i64 (beat))] 107 false 1)), (Prod.mk 1001 (AObj.sym ((List.take (q * 2) (List.drop 0 out)) ++ [(Go.Value.int Go.IntKind.i64 (n2)), (Go.Value.int Go.IntKind.i64 (Go.IntKind.wrap Go.IntKind.i64 (n1 * beat)))]) true 2)), (Prod.mk 500 (AObj.sym (ps) false 1))])
 False)
 False)
 False)
 False)
 False)))
 False)
 False))))))
 False)
 False)
 (X 2 [(Prod.mk 8 (Go.Value.slice (Option.some (Go.Addr.mk 1000 0 Option.none)) (q) (q)))] [(Prod.mk 1000 (AObj.sym (out) true 2))])) := by kernel_rfl
def n67n (C : Ct) (L : AtLoop) (k : List D → Prop) : Prop := wpNext Try.prog (hN C) L 67 2 .normal [(8, .slice none 0 0)] [] (dataK k)
theorem n67n_text (C : Ct) (L : AtLoop) (k : List D → Prop) : n67n C L k =
 (k [D.nil, (D.val (Go.Value.int Go.IntKind.i64 (0 : Int)))]) := by kernel_rfl
def n67b (C : Ct) (L : AtLoop) (q : Nat) (out : List Value) (k : List D → Prop) : Prop := wpNext Try.prog (hN C) L 67 2 .normal [(8, .slice (some ⟨1000, 0, none⟩) q q)] [(1000, .sym out true 2)] (dataK k)
theorem n67b_text (C : Ct) (L : AtLoop) (q : Nat) (out : List Go.Value) (k : List D → Prop) : n67b C L q out k =
 ((((q) = (q)) ∧
 ((List.length out) = (q * 2))) ∧
 (k [(D.sl (q) 2 (out)), (D.val (Go.Value.int Go.IntKind.i64 (0 : Int)))])) := by kernel_rfl
def n67 (C : Ct) (L : AtLoop) (n cap : Nat) (ps : List Value) (beat : Int) (m cap2 : Nat) (ss : List Value) (k : List D → Prop) : Prop := wpNext Try.prog (hN C) L 67 0 .normal [(1, .slice (some ⟨501, 0, none⟩) m cap2), (2, .pointer (some ⟨1000, 0, none⟩))] [T501 ss, bx n cap ps beat, A500 ps] (dataK k)
theorem n67_text (C : Ct) (L : AtLoop) (n : Nat) (cap : Nat) (ps : List Go.Value) (beat : Int) (m : Nat) (cap2 : Nat) (ss : List Go.Value) (k : List D → Prop) : n67 C L n cap ps beat m cap2 ss k =
 (L 2 [(Prod.mk 1 (Go.Value.slice (Option.some (Go.Addr.mk 501 0 Option.none)) (m) (cap2))), (Prod.mk 2 (Go.Value.pointer (Option.some (Go.Addr.mk 1000 0 Option.none)))), (Prod.mk 8 (Go.Value.slice Option.none 0 0)), (Prod.mk 9 (Go.Value.int Go.IntKind.i64 (0 : Int)))] [(Prod.mk 501 (AObj.sym (ss) false 1)), (Prod.mk 1000 (AObj.cells [(Go.Value.slice (Option.some (Go.Addr.mk 500 0 Option.none)) (n) (cap)), (Go.Value.int Go.IntKind.i64 (beat))] 107 false 1)), (Prod.mk 500 (AObj.sym (ps) false 1))]) := by kernel_rfl
def n63 (C : Ct) (L : AtLoop) (k : List D → Prop) : Prop := wpNext Try.prog (hN C) L 63 0 .normal [(9, .slice none 0 0)] [] (dataK k)
theorem n63_text (C : Ct) (L : AtLoop) (k : List D → Prop) : n63 C L k =
 (k [D.nil, (D.val (Go.Value.int Go.IntKind.i64 (0 : Int)))]) := by kernel_rfl
def n63b (C : Ct) (L : AtLoop) (q : Nat) (out : List Value) (k : List D → Prop) : Prop := wpNext Try.prog (hN C) L 63 0 .normal [(9, .slice (some ⟨1000, 0, none⟩) q q)] [(1000, .sym out true 2)] (dataK k)
theorem n63b_text (C : Ct) (L : AtLoop) (q : Nat) (out : List Go.Value) (k : List D → Prop) : n63b C L q out k =
 ((((q) = (q)) ∧
 ((List.length out) = (q * 2))) ∧
 (k [(D.sl (q) 2 (out)), (D.val (Go.Value.int Go.IntKind.i64 (0 : Int)))])) := by kernel_rfl
def n68 (C : Ct) (L : AtLoop) (k : List D → Prop) : Prop := wpNext Try.prog (hN C) L 68 0 .normal [] [] (dataK k)
theorem n68_text (C : Ct) (L : AtLoop) (k : List D → Prop) : n68 C L k =
 (k [(D.val (Go.Value.int Go.IntKind.i64 (0 : Int))), (D.val (Go.Value.int Go.IntKind.i64 (12 : Int)))]) := by kernel_rfl
def n124 (C : Ct) (L : AtLoop) (s : Int) (k : List D → Prop) : Prop := wpNext Try.prog (hN C) L 124 0 .normal [(3, .int .i64 s)] [] (dataK k)
theorem n124_text (C : Ct) (L : AtLoop) (s : Int) (k : List D → Prop) : n124 C L s k =
 (k [(D.val (Go.Value.int Go.IntKind.i64 (s)))]) := by kernel_rfl
def n70 (C : Ct) (L : AtLoop) (k : List D → Prop) : Prop := wpNext Try.prog (hN C) L 70 0 .normal [] [] (dataK k)
theorem n70_text (C : Ct) (L : AtLoop) (k : List D → Prop) : n70 C L k =
 (k [(D.val (Go.Value.bool true))]) := by kernel_rfl
def n64 (C : Ct) (L : AtLoop) (k : List D → Prop) : Prop := wpNext Try.prog (hN C) L 64 0 .normal [] [] (dataK k)
theorem n64_text (C : Ct) (L : AtLoop) (k : List D → Prop) : n64 C L k =
 (k [(D.val (Go.Value.int Go.IntKind.i64 (0 : Int))), (D.val (Go.Value.int Go.IntKind.i64 (12 : Int)))]) := by kernel_rfl
def n65 (C : Ct) (L : AtLoop) (c : Int) (k : List D → Prop) : Prop := wpNext Try.prog (hN C) L 65 0 .normal [(9, .int .i64 c)] [] (dataK k)
theorem n65_text (C : Ct) (L : AtLoop) (c : Int) (k : List D → Prop) : n65 C L c k =
 (bcase (decide (c < 0))
 (k [(D.val (Go.Value.int Go.IntKind.i64 (0 : Int))), (D.val (Go.Value.int Go.IntKind.i64 (12 : Int)))])
 (k [(D.val (Go.Value.int Go.IntKind.i64 (c))), (D.val (Go.Value.int Go.IntKind.i64 (0 : Int)))])) := by kernel_rfl
abbrev hF (C : Ct) : Handler := handlerF C (fun g => if g == 62 then some copyFirst else if g == 37 then some copyInts else none) (hN C)
def g10 (C : Ct) (L : AtLoop) (n cap : Nat) (ps : List Value) (beat : Int) (m cap2 : Nat) (ss : List Value) (ch tk d : Int) (k : List D → Prop) : Prop := wpFn Try.prog (hF C) L 0 10 #[.agg #[S500 n cap, i6 beat], .agg #[.slice (some ⟨501, 0, none⟩) m cap2, i6 ch, i6 tk, i6 d]] (heapOf [A500 ps, T501 ss]) (dataK k)
theorem g10_text (C : Ct) (L : AtLoop) (n : Nat) (cap : Nat) (ps : List Go.Value) (beat : Int) (m : Nat) (cap2 : Nat) (ss : List Go.Value) (ch : Int) (tk : Int) (d : Int) (k : List D → Prop) : g10 C L n cap ps beat m cap2 ss ch tk d k =
 (((Says C 14 [] [(D.val (Go.Value.bool true))]) ∧
 (bcase (decide ((↑n : Int) > 7))
 (k [(D.val (Go.Value.bool true))])
 (bcase (decide ((↑m : Int) > 7))
 (k [(D.val (Go.Value.bool true))])
 (bcase (decide (0 + n * 1 ≤ List.length ps))
 ((Says C 62 [(D.agg [(D.sl (n) 1 (List.take (n * 1) (List.drop 0 ps))), (D.val (Go.Value.int Go.IntKind.i64 (beat)))])] [(D.agg [(D.sl (n) 1 (List.take (n * 1) (List.drop 0 ps))), (D.val (Go.Value.int Go.IntKind.i64 (beat)))])]) ∧
 (bcase (decide (0 + n * 1 ≤ List.length (List.take (n * 1) (List.drop 0 ps))))
 (∃ n1 : Int,
 (∃ n2 : Int,
 ((Says C 61 [(D.agg [(D.sl (n) 1 (List.take (n * 1) (List.drop 0 (List.take (n * 1) (List.drop 0 ps))))), (D.val (Go.Value.int Go.IntKind.i64 (beat)))])] [(D.val (Go.Value.int Go.IntKind.i64 (n1))), (D.val (Go.Value.int Go.IntKind.i64 (n2)))]) ∧
 ((((Go.Value.slice (Option.some (Go.Addr.mk 501 0 Option.none)) (m) (cap2)) = (Go.Value.slice (Option.some (Go.Addr.mk 501 0 Option.none)) (m) (cap2))) ∧
 (((Go.Value.pointer (Option.some (Go.Addr.mk 1001 0 Option.none))) = (Go.Value.pointer (Option.some (Go.Addr.mk 1001 0 Option.none)))) ∧
 (((Go.Value.agg [(Go.Value.slice (Option.some (Go.Addr.mk 500 0 Option.none)) (n) (cap)), (Go.Value.int Go.IntKind.i64 (beat))].toArray) = (Go.Value.agg [(Go.Value.slice (Option.some (Go.Addr.mk 500 0 Option.none)) (n) (cap)), (Go.Value.int Go.IntKind.i64 (beat))].toArray)) ∧
 True))) ∧
 (bcase (decide (0 + n * 1 ≤ List.length ps))
 ((Says C 62 [(D.agg [(D.sl (n) 1 (List.take (n * 1) (List.drop 0 ps))), (D.val (Go.Value.int Go.IntKind.i64 (beat)))])] [(D.agg [(D.sl (n) 1 (List.take (n * 1) (List.drop 0 ps))), (D.val (Go.Value.int Go.IntKind.i64 (beat)))])]) ∧
 ((((Go.Value.slice (Option.some (Go.Addr.mk 501 0 Option.none)) (m) (cap2)) = (Go.Value.slice (Option.some (Go.Addr.mk 501 0 Option.none)) (m) (cap2))) ∧
 (((Go.Value.pointer (Option.some (Go.Addr.mk 1001 0 Option.none))) = (Go.Value.pointer (Option.some (Go.Addr.mk 1001 0 Option.none)))) ∧
 True)) ∧
 (bcase (decide (0 + m * 1 ≤ List.length ss))
 ((Says C 37 [(D.sl (m) 1 (List.take (m * 1) (List.drop 0 ss)))] [(D.sl (m) 1 (List.take (m * 1) (List.drop 0 ss)))]) ∧
 ((((Go.Value.pointer (Option.some (Go.Addr.mk 1001 0 Option.none))) = (Go.Value.pointer (Option.some (Go.Addr.mk 1001 0 Option.none)))) ∧
 True) ∧
 (bcase (decide (0 + n * 1 ≤ List.length (List.take (n * 1) (List.drop 0 ps))))
 (bcase (decide (0 + m * 1 ≤ List.length (List.take (m * 1) (List.drop 0 ss))))
 ((∃ n3 : Int,
 ((Says C 63 [(D.agg [(D.sl (n) 1 (List.take (n * 1) (List.drop 0 (List.take (n * 1) (List.drop 0 ps))))), (D.val (Go.Value.int Go.IntKind.i64 (beat)))]), (D.sl (m) 1 (List.take (m * 1) (List.drop 0 (List.take (m * 1) (List.drop 0 ss)))))] [D.nil, (D.val (Go.Value.int Go.IntKind.i64 (n3)))]) ∧
 ((((Go.Value.int Go.IntKind.i64 (n3)) = (Go.Value.int Go.IntKind.i64 (n3))) ∧
 (((Go.Value.slice Option.none 0 0) = (Go.Value.slice Option.none 0 0)) ∧
 (((Go.Value.tuple [(Go.Value.slice Option.none 0 0), (Go.Value.int Go.IntKind.i64 (n3))].toArray) = (Go.Value.tuple [(Go.Value.slice Option.none 0 0), (Go.Value.int Go.IntKind.i64 (n3))].toArray)) ∧
 (((Go.Value.pointer (Option.some (Go.Addr.mk 1001 0 Option.none))) = (Go.Value.pointer (Option.some (Go.Addr.mk 1001 0 Option.none)))) ∧
 True)))) ∧
 ((((Go.Value.int Go.IntKind.i64 (n3)) = (Go.Value.int Go.IntKind.i64 (n3))) ∧
 True) ∧
 (True ∧
 ((((Go.Value.int Go.IntKind.i64 (tk)) = (Go.Value.int Go.IntKind.i64 (tk))) ∧
 (((Go.Value.pointer (Option.some (Go.Addr.mk 1001 2 Option.none))) = (Go.Value.pointer (Option.some (Go.Addr.mk 1001 2 Option.none)))) ∧
 (((Go.Value.int Go.IntKind.i64 (ch)) = (Go.Value.int Go.IntKind.i64 (ch))) ∧
 (((Go.Value.pointer (Option.some (Go.Addr.mk 1001 1 Option.none))) = (Go.Value.pointer (Option.some (Go.Addr.mk 1001 1 Option.none)))) ∧
 (((Go.Value.agg [(Go.Value.slice (Option.some (Go.Addr.mk 500 0 Option.none)) (n) (cap)), (Go.Value.int Go.IntKind.i64 (beat))].toArray) = (Go.Value.agg [(Go.Value.slice (Option.some (Go.Addr.mk 500 0 Option.none)) (n) (cap)), (Go.Value.int Go.IntKind.i64 (beat))].toArray)) ∧
 True))))) ∧
 (bcase (decide (0 + n * 1 ≤ List.length ps))
 ((Says C 62 [(D.agg [(D.sl (n) 1 (List.take (n * 1) (List.drop 0 ps))), (D.val (Go.Value.int Go.IntKind.i64 (beat)))])] [(D.agg [(D.sl (n) 1 (List.take (n * 1) (List.drop 0 ps))), (D.val (Go.Value.int Go.IntKind.i64 (beat)))])]) ∧
 ((((Go.Value.int Go.IntKind.i64 (tk)) = (Go.Value.int Go.IntKind.i64 (tk))) ∧
 (((Go.Value.pointer (Option.some (Go.Addr.mk 1001 2 Option.none))) = (Go.Value.pointer (Option.some (Go.Addr.mk 1001 2 Option.none)))) ∧
 (((Go.Value.int Go.IntKind.i64 (ch)) = (Go.Value.int Go.IntKind.i64 (ch))) ∧
 (((Go.Value.pointer (Option.some (Go.Addr.mk 1001 1 Option.none))) = (Go.Value.pointer (Option.some (Go.Addr.mk 1001 1 Option.none)))) ∧
 True)))) ∧
 (bcase (decide (0 + n * 1 ≤ List.length (List.take (n * 1) (List.drop 0 ps))))
 (∃ n4 : Int,
 (∃ n5 : Int,
 ((Says C 64 [(D.agg [(D.sl (n) 1 (List.take (n * 1) (List.drop 0 (List.take (n * 1) (List.drop 0 ps))))), (D.val (Go.Value.int Go.IntKind.i64 (beat)))]), (D.val (Go.Value.int Go.IntKind.i64 (ch))), (D.val (Go.Value.int Go.IntKind.i64 (tk)))] [(D.val (Go.Value.int Go.IntKind.i64 (n4))), (D.val (Go.Value.int Go.IntKind.i64 (n5)))]) ∧
 ((((Go.Value.int Go.IntKind.i64 (n5)) = (Go.Value.int Go.IntKind.i64 (n5))) ∧
 (((Go.Value.int Go.IntKind.i64 (n4)) = (Go.Value.int Go.IntKind.i64 (n4))) ∧
 (((Go.Value.tuple [(Go.Value.int Go.IntKind.i64 (n4)), (Go.Value.int Go.IntKind.i64 (n5))].toArray) = (Go.Value.tuple [(Go.Value.int Go.IntKind.i64 (n4)), (Go.Value.int Go.IntKind.i64 (n5))].toArray)) ∧
 (((Go.Value.pointer (Option.some (Go.Addr.mk 1001 2 Option.none))) = (Go.Value.pointer (Option.some (Go.Addr.mk 1001 2 Option.none)))) ∧
 (((Go.Value.pointer (Option.some (Go.Addr.mk 1001 1 Option.none))) = (Go.Value.pointer (Option.some (Go.Addr.mk 1001 1 Option.none)))) ∧
 True))))) ∧
 ((((Go.Value.int Go.IntKind.i64 (n5)) = (Go.Value.int Go.IntKind.i64 (n5))) ∧
 True) ∧
 (True ∧
 ((((Go.Value.int Go.IntKind.i64 (d)) = (Go.Value.int Go.IntKind.i64 (d))) ∧
 (((Go.Value.pointer (Option.some (Go.Addr.mk 1001 3 Option.none))) = (Go.Value.pointer (Option.some (Go.Addr.mk 1001 3 Option.none)))) ∧
 (((Go.Value.agg [(Go.Value.slice (Option.some (Go.Addr.mk 500 0 Option.none)) (n) (cap)), (Go.Value.int Go.IntKind.i64 (beat))].toArray) = (Go.Value.agg [(Go.Value.slice (Option.some (Go.Addr.mk 500 0 Option.none)) (n) (cap)), (Go.Value.int Go.IntKind.i64 (beat))].toArray)) ∧
 True))) ∧
 (bcase (decide (0 + n * 1 ≤ List.length ps))
 ((Says C 62 [(D.agg [(D.sl (n) 1 (List.take (n * 1) (List.drop 0 ps))), (D.val (Go.Value.int Go.IntKind.i64 (beat)))])] [(D.agg [(D.sl (n) 1 (List.take (n * 1) (List.drop 0 ps))), (D.val (Go.Value.int Go.IntKind.i64 (beat)))])]) ∧
 ((((Go.Value.int Go.IntKind.i64 (d)) = (Go.Value.int Go.IntKind.i64 (d))) ∧
 (((Go.Value.pointer (Option.some (Go.Addr.mk 1001 3 Option.none))) = (Go.Value.pointer (Option.some (Go.Addr.mk 1001 3 Option.none)))) ∧
 True)) ∧
 (bcase (decide (0 + n * 1 ≤ List.length (List.take (n * 1) (List.drop 0 ps))))
 (∃ n6 : Int,
 (∃ n7 : Int,
 ((Says C 65 [(D.agg [(D.sl (n) 1 (List.take (n * 1) (List.drop 0 (List.take (n * 1) (List.drop 0 ps))))), (D.val (Go.Value.int Go.IntKind.i64 (beat)))]), (D.val (Go.Value.int Go.IntKind.i64 (d)))] [(D.val (Go.Value.int Go.IntKind.i64 (n6))), (D.val (Go.Value.int Go.IntKind.i64 (n7)))]) ∧
 ((((Go.Value.int Go.IntKind.i64 (n7)) = (Go.Value.int Go.IntKind.i64 (n7))) ∧
 (((Go.Value.int Go.IntKind.i64 (n6)) = (Go.Value.int Go.IntKind.i64 (n6))) ∧
 (((Go.Value.tuple [(Go.Value.int Go.IntKind.i64 (n6)), (Go.Value.int Go.IntKind.i64 (n7))].toArray) = (Go.Value.tuple [(Go.Value.int Go.IntKind.i64 (n6)), (Go.Value.int Go.IntKind.i64 (n7))].toArray)) ∧
 (((Go.Value.pointer (Option.some (Go.Addr.mk 1001 3 Option.none))) = (Go.Value.pointer (Option.some (Go.Addr.mk 1001 3 Option.none)))) ∧
 True)))) ∧
 ((((Go.Value.int Go.IntKind.i64 (n7)) = (Go.Value.int Go.IntKind.i64 (n7))) ∧
 True) ∧
 (True ∧
 (bcase (decide (0 + n * 1 ≤ List.length ps))
 (∃ n8 : Int,
 (∃ n9 : Int,
 ((Says C 66 [(D.agg [(D.sl (n) 1 (List.take (n * 1) (List.drop 0 ps))), (D.val (Go.Value.int Go.IntKind.i64 (beat)))])] [(D.val (Go.Value.int Go.IntKind.i64 (n8))), (D.val (Go.Value.int Go.IntKind.i64 (n9)))]) ∧
 (bcase (n2 != n9)
 (k [(D.val (Go.Value.bool false))])
 (bcase (n1 != n8)
 (k [(D.val (Go.Value.bool false))])
 (bcase (n9 != 0)
 (bcase (n3 == n9)
 (bcase (n5 == n9)
 (bcase (n7 == n9)
 (bcase (n4 == 0)
 (bcase (n6 == 0)
 (k [(D.val (Go.Value.bool true))])
 (k [(D.val (Go.Value.bool false))]))
 (k [(D.val (Go.Value.bool false))]))
 (k [(D.val (Go.Value.bool false))]))
 (k [(D.val (Go.Value.bool false))]))
 (k [(D.val (Go.Value.bool false))]))
 (bcase (decide (0 + n * 1 ≤ List.length ps))
 (bcase (decide (0 + m * 1 ≤ List.length ss))
 ((∃ n10 : Int,
 ((Says C 67 [(D.agg [(D.sl (n) 1 (List.take (n * 1) (List.drop 0 ps))), (D.val (Go.Value.int Go.IntKind.i64 (beat)))]), (D.sl (m) 1 (List.take (m * 1) (List.drop 0 ss)))] [D.nil, (D.val (Go.Value.int Go.IntKind.i64 (n10)))]) ∧
 (bcase (decide (0 + n * 1 ≤ List.length ps))
 (∃ n11 : Int,
 (∃ n12 : Int,
 ((Says C 68 [(D.agg [(D.sl (n) 1 (List.take (n * 1) (List.drop 0 ps))), (D.val (Go.Value.int Go.IntKind.i64 (beat)))]), (D.val (Go.Value.int Go.IntKind.i64 (ch))), (D.val (Go.Value.int Go.IntKind.i64 (tk)))] [(D.val (Go.Value.int Go.IntKind.i64 (n11))), (D.val (Go.Value.int Go.IntKind.i64 (n12)))]) ∧
 (bcase (decide (0 + n * 1 ≤ List.length ps))
 (∃ n13 : Int,
 (∃ n14 : Int,
 ((Says C 69 [(D.agg [(D.sl (n) 1 (List.take (n * 1) (List.drop 0 ps))), (D.val (Go.Value.int Go.IntKind.i64 (beat)))]), (D.val (Go.Value.int Go.IntKind.i64 (d)))] [(D.val (Go.Value.int Go.IntKind.i64 (n13))), (D.val (Go.Value.int Go.IntKind.i64 (n14)))]) ∧
 (bcase (n3 == n10)
 (((Says C 70 [D.nil, D.nil] [(D.val (Go.Value.bool true))]) ∧
 (bcase (n5 == n12)
 (bcase (n4 == n11)
 (bcase (n7 == n14)
 (bcase (n6 == n13)
 (k [(D.val (Go.Value.bool true))])
 (k [(D.val (Go.Value.bool false))]))
 (k [(D.val (Go.Value.bool false))]))
 (k [(D.val (Go.Value.bool false))]))
 (k [(D.val (Go.Value.bool false))]))) ∨
 ((Says C 70 [D.nil, D.nil] [(D.val (Go.Value.bool false))]) ∧
 (k [(D.val (Go.Value.bool false))])))
 (k [(D.val (Go.Value.bool false))])))))
 False))))
 False))) ∨
 (∃ n10 : Nat,
 (∃ cs1 : List Go.Value,
 (∃ n11 : Int,
 ((Says C 67 [(D.agg [(D.sl (n) 1 (List.take (n * 1) (List.drop 0 ps))), (D.val (Go.Value.int Go.IntKind.i64 (beat)))]), (D.sl (m) 1 (List.take (m * 1) (List.drop 0 ss)))] [(D.sl (n10) 2 (cs1)), (D.val (Go.Value.int Go.IntKind.i64 (n11)))]) ∧
 (bcase (decide (0 + n * 1 ≤ List.length ps))
 (∃ n12 : Int,
 (∃ n13 : Int,
 ((Says C 68 [(D.agg [(D.sl (n) 1 (List.take (n * 1) (List.drop 0 ps))), (D.val (Go.Value.int Go.IntKind.i64 (beat)))]), (D.val (Go.Value.int Go.IntKind.i64 (ch))), (D.val (Go.Value.int Go.IntKind.i64 (tk)))] [(D.val (Go.Value.int Go.IntKind.i64 (n12))), (D.val (Go.Value.int Go.IntKind.i64 (n13)))]) ∧
 (bcase (decide (0 + n * 1 ≤ List.length ps))
 (∃ n14 : Int,
 (∃ n15 : Int,
 ((Says C 69 [(D.agg [(D.sl (n) 1 (List.take (n * 1) (List.drop 0 ps))), (D.val (Go.Value.int Go.IntKind.i64 (beat)))]), (D.val (Go.Value.int Go.IntKind.i64 (d)))] [(D.val (Go.Value.int Go.IntKind.i64 (n14))), (D.val (Go.Value.int Go.IntKind.i64 (n15)))]) ∧
 (bcase (n3 == n11)
 (bcase (decide (0 + n10 * 2 ≤ List.length cs1))
 (((Says C 70 [D.nil, (D.sl (n10) 2 (List.take (n10 * 2) (List.drop 0 cs1)))] [(D.val (Go.Value.bool true))]) ∧
 (bcase (n5 == n13)
 (bcase (n4 == n12)
 (bcase (n7 == n15)
 (bcase (n6 == n14)
 (k [(D.val (Go.Value.bool true))])
 (k [(D.val (Go.Value.bool false))]))
 (k [(D.val (Go.Value.bool false))]))
 (k [(D.val (Go.Value.bool false))]))
 (k [(D.val (Go.Value.bool false))]))) ∨
 ((Says C 70 [D.nil, (D.sl (n10) 2 (List.take (n10 * 2) (List.drop 0 cs1)))] [(D.val (Go.Value.bool false))]) ∧
 (k [(D.val (Go.Value.bool false))])))
 False)
 (k [(D.val (Go.Value.bool false))])))))
 False))))
 False))))))
 False)
 False)))))))
 False)))))))
 False)))
 False))))))))
 False)))
 False))))))) ∨
 (∃ n3 : Nat,
 (∃ cs1 : List Go.Value,
 (∃ n4 : Int,
 ((Says C 63 [(D.agg [(D.sl (n) 1 (List.take (n * 1) (List.drop 0 (List.take (n * 1) (List.drop 0 ps))))), (D.val (Go.Value.int Go.IntKind.i64 (beat)))]), (D.sl (m) 1 (List.take (m * 1) (List.drop 0 (List.take (m * 1) (List.drop 0 ss)))))] [(D.sl (n3) 2 (cs1)), (D.val (Go.Value.int Go.IntKind.i64 (n4)))]) ∧
 ((((Go.Value.int Go.IntKind.i64 (n4)) = (Go.Value.int Go.IntKind.i64 (n4))) ∧
 (((Go.Value.slice (Option.some (Go.Addr.mk 1005 0 Option.none)) (n3) (n3)) = (Go.Value.slice (Option.some (Go.Addr.mk 1005 0 Option.none)) (n3) (n3))) ∧
 (((Go.Value.tuple [(Go.Value.slice (Option.some (Go.Addr.mk 1005 0 Option.none)) (n3) (n3)), (Go.Value.int Go.IntKind.i64 (n4))].toArray) = (Go.Value.tuple [(Go.Value.slice (Option.some (Go.Addr.mk 1005 0 Option.none)) (n3) (n3)), (Go.Value.int Go.IntKind.i64 (n4))].toArray)) ∧
 (((Go.Value.pointer (Option.some (Go.Addr.mk 1001 0 Option.none))) = (Go.Value.pointer (Option.some (Go.Addr.mk 1001 0 Option.none)))) ∧
 True)))) ∧
 ((((Go.Value.int Go.IntKind.i64 (n4)) = (Go.Value.int Go.IntKind.i64 (n4))) ∧
 True) ∧
 (True ∧
 ((((Go.Value.int Go.IntKind.i64 (tk)) = (Go.Value.int Go.IntKind.i64 (tk))) ∧
 (((Go.Value.pointer (Option.some (Go.Addr.mk 1001 2 Option.none))) = (Go.Value.pointer (Option.some (Go.Addr.mk 1001 2 Option.none)))) ∧
 (((Go.Value.int Go.IntKind.i64 (ch)) = (Go.Value.int Go.IntKind.i64 (ch))) ∧
 (((Go.Value.pointer (Option.some (Go.Addr.mk 1001 1 Option.none))) = (Go.Value.pointer (Option.some (Go.Addr.mk 1001 1 Option.none)))) ∧
 (((Go.Value.agg [(Go.Value.slice (Option.some (Go.Addr.mk 500 0 Option.none)) (n) (cap)), (Go.Value.int Go.IntKind.i64 (beat))].toArray) = (Go.Value.agg [(Go.Value.slice (Option.some (Go.Addr.mk 500 0 Option.none)) (n) (cap)), (Go.Value.int Go.IntKind.i64 (beat))].toArray)) ∧
 True))))) ∧
 (bcase (decide (0 + n * 1 ≤ List.length ps))
 ((Says C 62 [(D.agg [(D.sl (n) 1 (List.take (n * 1) (List.drop 0 ps))), (D.val (Go.Value.int Go.IntKind.i64 (beat)))])] [(D.agg [(D.sl (n) 1 (List.take (n * 1) (List.drop 0 ps))), (D.val (Go.Value.int Go.IntKind.i64 (beat)))])]) ∧
 ((((Go.Value.int Go.IntKind.i64 (tk)) = (Go.Value.int Go.IntKind.i64 (tk))) ∧
 (((Go.Value.pointer (Option.some (Go.Addr.mk 1001 2 Option.none))) = (Go.Value.pointer (Option.some (Go.Addr.mk 1001 2 Option.none)))) ∧
 (((Go.Value.int Go.IntKind.i64 (ch)) = (Go.Value.int Go.IntKind.i64 (ch))) ∧
 (((Go.Value.pointer (Option.some (Go.Addr.mk 1001 1 Option.none))) = (Go.Value.pointer (Option.some (Go.Addr.mk 1001 1 Option.none)))) ∧
 True)))) ∧
 (bcase (decide (0 + n * 1 ≤ List.length (List.take (n * 1) (List.drop 0 ps))))
 (∃ n5 : Int,
 (∃ n6 : Int,
 ((Says C 64 [(D.agg [(D.sl (n) 1 (List.take (n * 1) (List.drop 0 (List.take (n * 1) (List.drop 0 ps))))), (D.val (Go.Value.int Go.IntKind.i64 (beat)))]), (D.val (Go.Value.int Go.IntKind.i64 (ch))), (D.val (Go.Value.int Go.IntKind.i64 (tk)))] [(D.val (Go.Value.int Go.IntKind.i64 (n5))), (D.val (Go.Value.int Go.IntKind.i64 (n6)))]) ∧
 ((((Go.Value.int Go.IntKind.i64 (n6)) = (Go.Value.int Go.IntKind.i64 (n6))) ∧
 (((Go.Value.int Go.IntKind.i64 (n5)) = (Go.Value.int Go.IntKind.i64 (n5))) ∧
 (((Go.Value.tuple [(Go.Value.int Go.IntKind.i64 (n5)), (Go.Value.int Go.IntKind.i64 (n6))].toArray) = (Go.Value.tuple [(Go.Value.int Go.IntKind.i64 (n5)), (Go.Value.int Go.IntKind.i64 (n6))].toArray)) ∧
 (((Go.Value.pointer (Option.some (Go.Addr.mk 1001 2 Option.none))) = (Go.Value.pointer (Option.some (Go.Addr.mk 1001 2 Option.none)))) ∧
 (((Go.Value.pointer (Option.some (Go.Addr.mk 1001 1 Option.none))) = (Go.Value.pointer (Option.some (Go.Addr.mk 1001 1 Option.none)))) ∧
 True))))) ∧
 ((((Go.Value.int Go.IntKind.i64 (n6)) = (Go.Value.int Go.IntKind.i64 (n6))) ∧
 True) ∧
 (True ∧
 ((((Go.Value.int Go.IntKind.i64 (d)) = (Go.Value.int Go.IntKind.i64 (d))) ∧
 (((Go.Value.pointer (Option.some (Go.Addr.mk 1001 3 Option.none))) = (Go.Value.pointer (Option.some (Go.Addr.mk 1001 3 Option.none)))) ∧
 (((Go.Value.agg [(Go.Value.slice (Option.some (Go.Addr.mk 500 0 Option.none)) (n) (cap)), (Go.Value.int Go.IntKind.i64 (beat))].toArray) = (Go.Value.agg [(Go.Value.slice (Option.some (Go.Addr.mk 500 0 Option.none)) (n) (cap)), (Go.Value.int Go.IntKind.i64 (beat))].toArray)) ∧
 True))) ∧
 (bcase (decide (0 + n * 1 ≤ List.length ps))
 ((Says C 62 [(D.agg [(D.sl (n) 1 (List.take (n * 1) (List.drop 0 ps))), (D.val (Go.Value.int Go.IntKind.i64 (beat)))])] [(D.agg [(D.sl (n) 1 (List.take (n * 1) (List.drop 0 ps))), (D.val (Go.Value.int Go.IntKind.i64 (beat)))])]) ∧
 ((((Go.Value.int Go.IntKind.i64 (d)) = (Go.Value.int Go.IntKind.i64 (d))) ∧
 (((Go.Value.pointer (Option.some (Go.Addr.mk 1001 3 Option.none))) = (Go.Value.pointer (Option.some (Go.Addr.mk 1001 3 Option.none)))) ∧
 True)) ∧
 (bcase (decide (0 + n * 1 ≤ List.length (List.take (n * 1) (List.drop 0 ps))))
 (∃ n7 : Int,
 (∃ n8 : Int,
 ((Says C 65 [(D.agg [(D.sl (n) 1 (List.take (n * 1) (List.drop 0 (List.take (n * 1) (List.drop 0 ps))))), (D.val (Go.Value.int Go.IntKind.i64 (beat)))]), (D.val (Go.Value.int Go.IntKind.i64 (d)))] [(D.val (Go.Value.int Go.IntKind.i64 (n7))), (D.val (Go.Value.int Go.IntKind.i64 (n8)))]) ∧
 ((((Go.Value.int Go.IntKind.i64 (n8)) = (Go.Value.int Go.IntKind.i64 (n8))) ∧
 (((Go.Value.int Go.IntKind.i64 (n7)) = (Go.Value.int Go.IntKind.i64 (n7))) ∧
 (((Go.Value.tuple [(Go.Value.int Go.IntKind.i64 (n7)), (Go.Value.int Go.IntKind.i64 (n8))].toArray) = (Go.Value.tuple [(Go.Value.int Go.IntKind.i64 (n7)), (Go.Value.int Go.IntKind.i64 (n8))].toArray)) ∧
 (((Go.Value.pointer (Option.some (Go.Addr.mk 1001 3 Option.none))) = (Go.Value.pointer (Option.some (Go.Addr.mk 1001 3 Option.none)))) ∧
 True)))) ∧
 ((((Go.Value.int Go.IntKind.i64 (n8)) = (Go.Value.int Go.IntKind.i64 (n8))) ∧
 True) ∧
 (True ∧
 (bcase (decide (0 + n * 1 ≤ List.length ps))
 (∃ n9 : Int,
 (∃ n10 : Int,
 ((Says C 66 [(D.agg [(D.sl (n) 1 (List.take (n * 1) (List.drop 0 ps))), (D.val (Go.Value.int Go.IntKind.i64 (beat)))])] [(D.val (Go.Value.int Go.IntKind.i64 (n9))), (D.val (Go.Value.int Go.IntKind.i64 (n10)))]) ∧
 (bcase (n2 != n10)
 (k [(D.val (Go.Value.bool false))])
 (bcase (n1 != n9)
 (k [(D.val (Go.Value.bool false))])
 (bcase (n10 != 0)
 (bcase (n4 == n10)
 (bcase (n6 == n10)
 (bcase (n8 == n10)
 (bcase ((↑n3 : Int) == 0)
 (bcase (n5 == 0)
 (bcase (n7 == 0)
 (k [(D.val (Go.Value.bool true))])
 (k [(D.val (Go.Value.bool false))]))
 (k [(D.val (Go.Value.bool false))]))
 (k [(D.val (Go.Value.bool false))]))
 (k [(D.val (Go.Value.bool false))]))
 (k [(D.val (Go.Value.bool false))]))
 (k [(D.val (Go.Value.bool false))]))
 (bcase (decide (0 + n * 1 ≤ List.length ps))
 (bcase (decide (0 + m * 1 ≤ List.length ss))
 ((∃ n11 : Int,
 ((Says C 67 [(D.agg [(D.sl (n) 1 (List.take (n * 1) (List.drop 0 ps))), (D.val (Go.Value.int Go.IntKind.i64 (beat)))]), (D.sl (m) 1 (List.take (m * 1) (List.drop 0 ss)))] [D.nil, (D.val (Go.Value.int Go.IntKind.i64 (n11)))]) ∧
 (bcase (decide (0 + n * 1 ≤ List.length ps))
 (∃ n12 : Int,
 (∃ n13 : Int,
 ((Says C 68 [(D.agg [(D.sl (n) 1 (List.take (n * 1) (List.drop 0 ps))), (D.val (Go.Value.int Go.IntKind.i64 (beat)))]), (D.val (Go.Value.int Go.IntKind.i64 (ch))), (D.val (Go.Value.int Go.IntKind.i64 (tk)))] [(D.val (Go.Value.int Go.IntKind.i64 (n12))), (D.val (Go.Value.int Go.IntKind.i64 (n13)))]) ∧
 (bcase (decide (0 + n * 1 ≤ List.length ps))
 (∃ n14 : Int,
 (∃ n15 : Int,
 ((Says C 69 [(D.agg [(D.sl (n) 1 (List.take (n * 1) (List.drop 0 ps))), (D.val (Go.Value.int Go.IntKind.i64 (beat)))]), (D.val (Go.Value.int Go.IntKind.i64 (d)))] [(D.val (Go.Value.int Go.IntKind.i64 (n14))), (D.val (Go.Value.int Go.IntKind.i64 (n15)))]) ∧
 (bcase (n4 == n11)
 (bcase (decide (0 + n3 * 2 ≤ List.length cs1))
 (((Says C 70 [(D.sl (n3) 2 (List.take (n3 * 2) (List.drop 0 cs1))), D.nil] [(D.val (Go.Value.bool true))]) ∧
 (bcase (n6 == n13)
 (bcase (n5 == n12)
 (bcase (n8 == n15)
 (bcase (n7 == n14)
 (k [(D.val (Go.Value.bool true))])
 (k [(D.val (Go.Value.bool false))]))
 (k [(D.val (Go.Value.bool false))]))
 (k [(D.val (Go.Value.bool false))]))
 (k [(D.val (Go.Value.bool false))]))) ∨
 ((Says C 70 [(D.sl (n3) 2 (List.take (n3 * 2) (List.drop 0 cs1))), D.nil] [(D.val (Go.Value.bool false))]) ∧
 (k [(D.val (Go.Value.bool false))])))
 False)
 (k [(D.val (Go.Value.bool false))])))))
 False))))
 False))) ∨
 (∃ n11 : Nat,
 (∃ cs2 : List Go.Value,
 (∃ n12 : Int,
 ((Says C 67 [(D.agg [(D.sl (n) 1 (List.take (n * 1) (List.drop 0 ps))), (D.val (Go.Value.int Go.IntKind.i64 (beat)))]), (D.sl (m) 1 (List.take (m * 1) (List.drop 0 ss)))] [(D.sl (n11) 2 (cs2)), (D.val (Go.Value.int Go.IntKind.i64 (n12)))]) ∧
 (bcase (decide (0 + n * 1 ≤ List.length ps))
 (∃ n13 : Int,
 (∃ n14 : Int,
 ((Says C 68 [(D.agg [(D.sl (n) 1 (List.take (n * 1) (List.drop 0 ps))), (D.val (Go.Value.int Go.IntKind.i64 (beat)))]), (D.val (Go.Value.int Go.IntKind.i64 (ch))), (D.val (Go.Value.int Go.IntKind.i64 (tk)))] [(D.val (Go.Value.int Go.IntKind.i64 (n13))), (D.val (Go.Value.int Go.IntKind.i64 (n14)))]) ∧
 (bcase (decide (0 + n * 1 ≤ List.length ps))
 (∃ n15 : Int,
 (∃ n16 : Int,
 ((Says C 69 [(D.agg [(D.sl (n) 1 (List.take (n * 1) (List.drop 0 ps))), (D.val (Go.Value.int Go.IntKind.i64 (beat)))]), (D.val (Go.Value.int Go.IntKind.i64 (d)))] [(D.val (Go.Value.int Go.IntKind.i64 (n15))), (D.val (Go.Value.int Go.IntKind.i64 (n16)))]) ∧
 (bcase (n4 == n12)
 (bcase (decide (0 + n3 * 2 ≤ List.length cs1))
 (bcase (decide (0 + n11 * 2 ≤ List.length cs2))
 (((Says C 70 [(D.sl (n3) 2 (List.take (n3 * 2) (List.drop 0 cs1))), (D.sl (n11) 2 (List.take (n11 * 2) (List.drop 0 cs2)))] [(D.val (Go.Value.bool true))]) ∧
 (bcase (n6 == n14)
 (bcase (n5 == n13)
 (bcase (n8 == n16)
 (bcase (n7 == n15)
 (k [(D.val (Go.Value.bool true))])
 (k [(D.val (Go.Value.bool false))]))
 (k [(D.val (Go.Value.bool false))]))
 (k [(D.val (Go.Value.bool false))]))
 (k [(D.val (Go.Value.bool false))]))) ∨
 ((Says C 70 [(D.sl (n3) 2 (List.take (n3 * 2) (List.drop 0 cs1))), (D.sl (n11) 2 (List.take (n11 * 2) (List.drop 0 cs2)))] [(D.val (Go.Value.bool false))]) ∧
 (k [(D.val (Go.Value.bool false))])))
 False)
 False)
 (k [(D.val (Go.Value.bool false))])))))
 False))))
 False))))))
 False)
 False)))))))
 False)))))))
 False)))
 False))))))))
 False)))
 False))))))))))
 False)
 False)))
 False)))
 False)))))
 False))
 False)))) ∨
 ((Says C 14 [] [(D.val (Go.Value.bool false))]) ∧
 (k [(D.val (Go.Value.bool false))]))) := by kernel_rfl
def g10a (C : Ct) (L : AtLoop) (beat : Int) (m cap2 : Nat) (ss : List Value) (ch tk d : Int) (k : List D → Prop) : Prop := wpFn Try.prog (hF C) L 0 10 #[.agg #[.slice none 0 0, i6 beat], .agg #[S500 m cap2, i6 ch, i6 tk, i6 d]] (heapOf [A500 ss]) (dataK k)
theorem g10a_text (C : Ct) (L : AtLoop) (beat : Int) (m : Nat) (cap2 : Nat) (ss : List Go.Value) (ch : Int) (tk : Int) (d : Int) (k : List D → Prop) : g10a C L beat m cap2 ss ch tk d k =
 (((Says C 14 [] [(D.val (Go.Value.bool true))]) ∧
 (bcase (decide ((↑m : Int) > 7))
 (k [(D.val (Go.Value.bool true))])
 ((Says C 62 [(D.agg [D.nil, (D.val (Go.Value.int Go.IntKind.i64 (beat)))])] [(D.agg [(D.sl 0 1 []), (D.val (Go.Value.int Go.IntKind.i64 (beat)))])]) ∧
 (∃ n1 : Int,
 (∃ n2 : Int,
 ((Says C 61 [(D.agg [(D.sl 0 1 []), (D.val (Go.Value.int Go.IntKind.i64 (beat)))])] [(D.val (Go.Value.int Go.IntKind.i64 (n1))), (D.val (Go.Value.int Go.IntKind.i64 (n2)))]) ∧
 ((((Go.Value.slice (Option.some (Go.Addr.mk 500 0 Option.none)) (m) (cap2)) = (Go.Value.slice (Option.some (Go.Addr.mk 500 0 Option.none)) (m) (cap2))) ∧
 (((Go.Value.pointer (Option.some (Go.Addr.mk 1001 0 Option.none))) = (Go.Value.pointer (Option.some (Go.Addr.mk 1001 0 Option.none)))) ∧
 (((Go.Value.agg [(Go.Value.slice Option.none 0 0), (Go.Value.int Go.IntKind.i64 (beat))].toArray) = (Go.Value.agg [(Go.Value.slice Option.none 0 0), (Go.Value.int Go.IntKind.i64 (beat))].toArray)) ∧
 True))) ∧
 ((Says C 62 [(D.agg [D.nil, (D.val (Go.Value.int Go.IntKind.i64 (beat)))])] [(D.agg [(D.sl 0 1 []), (D.val (Go.Value.int Go.IntKind.i64 (beat)))])]) ∧
 ((((Go.Value.slice (Option.some (Go.Addr.mk 500 0 Option.none)) (m) (cap2)) = (Go.Value.slice (Option.some (Go.Addr.mk 500 0 Option.none)) (m) (cap2))) ∧
 (((Go.Value.pointer (Option.some (Go.Addr.mk 1001 0 Option.none))) = (Go.Value.pointer (Option.some (Go.Addr.mk 1001 0 Option.none)))) ∧
 True)) ∧
 (bcase (decide (0 + m * 1 ≤ List.length ss))
 ((Says C 37 [(D.sl (m) 1 (List.take (m * 1) (List.drop 0 ss)))] [(D.sl (m) 1 (List.take (m * 1) (List.drop 0 ss)))]) ∧
 ((((Go.Value.pointer (Option.some (Go.Addr.mk 1001 0 Option.none))) = (Go.Value.pointer (Option.some (Go.Addr.mk 1001 0 Option.none)))) ∧
 True) ∧
 (bcase (decide (0 + m * 1 ≤ List.length (List.take (m * 1) (List.drop 0 ss))))
 ((∃ n3 : Int,
 ((Says C 63 [(D.agg [(D.sl 0 1 []), (D.val (Go.Value.int Go.IntKind.i64 (beat)))]), (D.sl (m) 1 (List.take (m * 1) (List.drop 0 (List.take (m * 1) (List.drop 0 ss)))))] [D.nil, (D.val (Go.Value.int Go.IntKind.i64 (n3)))]) ∧
 ((((Go.Value.int Go.IntKind.i64 (n3)) = (Go.Value.int Go.IntKind.i64 (n3))) ∧
 (((Go.Value.slice Option.none 0 0) = (Go.Value.slice Option.none 0 0)) ∧
 (((Go.Value.tuple [(Go.Value.slice Option.none 0 0), (Go.Value.int Go.IntKind.i64 (n3))].toArray) = (Go.Value.tuple [(Go.Value.slice Option.none 0 0), (Go.Value.int Go.IntKind.i64 (n3))].toArray)) ∧
 (((Go.Value.pointer (Option.some (Go.Addr.mk 1001 0 Option.none))) = (Go.Value.pointer (Option.some (Go.Addr.mk 1001 0 Option.none)))) ∧
 True)))) ∧
 ((((Go.Value.int Go.IntKind.i64 (n3)) = (Go.Value.int Go.IntKind.i64 (n3))) ∧
 True) ∧
 (True ∧
 ((((Go.Value.int Go.IntKind.i64 (tk)) = (Go.Value.int Go.IntKind.i64 (tk))) ∧
 (((Go.Value.pointer (Option.some (Go.Addr.mk 1001 2 Option.none))) = (Go.Value.pointer (Option.some (Go.Addr.mk 1001 2 Option.none)))) ∧
 (((Go.Value.int Go.IntKind.i64 (ch)) = (Go.Value.int Go.IntKind.i64 (ch))) ∧
 (((Go.Value.pointer (Option.some (Go.Addr.mk 1001 1 Option.none))) = (Go.Value.pointer (Option.some (Go.Addr.mk 1001 1 Option.none)))) ∧
 (((Go.Value.agg [(Go.Value.slice Option.none 0 0), (Go.Value.int Go.IntKind.i64 (beat))].toArray) = (Go.Value.agg [(Go.Value.slice Option.none 0 0), (Go.Value.int Go.IntKind.i64 (beat))].toArray)) ∧
 True))))) ∧
 ((Says C 62 [(D.agg [D.nil, (D.val (Go.Value.int Go.IntKind.i64 (beat)))])] [(D.agg [(D.sl 0 1 []), (D.val (Go.Value.int Go.IntKind.i64 (beat)))])]) ∧
 ((((Go.Value.int Go.IntKind.i64 (tk)) = (Go.Value.int Go.IntKind.i64 (tk))) ∧
 (((Go.Value.pointer (Option.some (Go.Addr.mk 1001 2 Option.none))) = (Go.Value.pointer (Option.some (Go.Addr.mk 1001 2 Option.none)))) ∧
 (((Go.Value.int Go.IntKind.i64 (ch)) = (Go.Value.int Go.IntKind.i64 (ch))) ∧
 (((Go.Value.pointer (Option.some (Go.Addr.mk 1001 1 Option.none))) = (Go.Value.pointer (Option.some (Go.Addr.mk 1001 1 Option.none)))) ∧
 True)))) ∧
 (∃ n4 : Int,
 (∃ n5 : Int,
 ((Says C 64 [(D.agg [(D.sl 0 1 []), (D.val (Go.Value.int Go.IntKind.i64 (beat)))]), (D.val (Go.Value.int Go.IntKind.i64 (ch))), (D.val (Go.Value.int Go.IntKind.i64 (tk)))] [(D.val (Go.Value.int Go.IntKind.i64 (n4))), (D.val (Go.Value.int Go.IntKind.i64 (n5)))]) ∧
 ((((Go.Value.int Go.IntKind.i64 (n5)) = (Go.Value.int Go.IntKind.i64 (n5))) ∧
 (((Go.Value.int Go.IntKind.i64 (n4)) = (Go.Value.int Go.IntKind.i64 (n4))) ∧
 (((Go.Value.tuple [(Go.Value.int Go.IntKind.i64 (n4)), (Go.Value.int Go.IntKind.i64 (n5))].toArray) = (Go.Value.tuple [(Go.Value.int Go.IntKind.i64 (n4)), (Go.Value.int Go.IntKind.i64 (n5))].toArray)) ∧
 (((Go.Value.pointer (Option.some (Go.Addr.mk 1001 2 Option.none))) = (Go.Value.pointer (Option.some (Go.Addr.mk 1001 2 Option.none)))) ∧
 (((Go.Value.pointer (Option.some (Go.Addr.mk 1001 1 Option.none))) = (Go.Value.pointer (Option.some (Go.Addr.mk 1001 1 Option.none)))) ∧
 True))))) ∧
 ((((Go.Value.int Go.IntKind.i64 (n5)) = (Go.Value.int Go.IntKind.i64 (n5))) ∧
 True) ∧
 (True ∧
 ((((Go.Value.int Go.IntKind.i64 (d)) = (Go.Value.int Go.IntKind.i64 (d))) ∧
 (((Go.Value.pointer (Option.some (Go.Addr.mk 1001 3 Option.none))) = (Go.Value.pointer (Option.some (Go.Addr.mk 1001 3 Option.none)))) ∧
 (((Go.Value.agg [(Go.Value.slice Option.none 0 0), (Go.Value.int Go.IntKind.i64 (beat))].toArray) = (Go.Value.agg [(Go.Value.slice Option.none 0 0), (Go.Value.int Go.IntKind.i64 (beat))].toArray)) ∧
 True))) ∧
 ((Says C 62 [(D.agg [D.nil, (D.val (Go.Value.int Go.IntKind.i64 (beat)))])] [(D.agg [(D.sl 0 1 []), (D.val (Go.Value.int Go.IntKind.i64 (beat)))])]) ∧
 ((((Go.Value.int Go.IntKind.i64 (d)) = (Go.Value.int Go.IntKind.i64 (d))) ∧
 (((Go.Value.pointer (Option.some (Go.Addr.mk 1001 3 Option.none))) = (Go.Value.pointer (Option.some (Go.Addr.mk 1001 3 Option.none)))) ∧
 True)) ∧
 (∃ n6 : Int,
 (∃ n7 : Int,
 ((Says C 65 [(D.agg [(D.sl 0 1 []), (D.val (Go.Value.int Go.IntKind.i64 (beat)))]), (D.val (Go.Value.int Go.IntKind.i64 (d)))] [(D.val (Go.Value.int Go.IntKind.i64 (n6))), (D.val (Go.Value.int Go.IntKind.i64 (n7)))]) ∧
 ((((Go.Value.int Go.IntKind.i64 (n7)) = (Go.Value.int Go.IntKind.i64 (n7))) ∧
 (((Go.Value.int Go.IntKind.i64 (n6)) = (Go.Value.int Go.IntKind.i64 (n6))) ∧
 (((Go.Value.tuple [(Go.Value.int Go.IntKind.i64 (n6)), (Go.Value.int Go.IntKind.i64 (n7))].toArray) = (Go.Value.tuple [(Go.Value.int Go.IntKind.i64 (n6)), (Go.Value.int Go.IntKind.i64 (n7))].toArray)) ∧
 (((Go.Value.pointer (Option.some (Go.Addr.mk 1001 3 Option.none))) = (Go.Value.pointer (Option.some (Go.Addr.mk 1001 3 Option.none)))) ∧
 True)))) ∧
 ((((Go.Value.int Go.IntKind.i64 (n7)) = (Go.Value.int Go.IntKind.i64 (n7))) ∧
 True) ∧
 (True ∧
 (∃ n8 : Int,
 (∃ n9 : Int,
 ((Says C 66 [(D.agg [D.nil, (D.val (Go.Value.int Go.IntKind.i64 (beat)))])] [(D.val (Go.Value.int Go.IntKind.i64 (n8))), (D.val (Go.Value.int Go.IntKind.i64 (n9)))]) ∧
 (bcase (n2 != n9)
 (k [(D.val (Go.Value.bool false))])
 (bcase (n1 != n8)
 (k [(D.val (Go.Value.bool false))])
 (bcase (n9 != 0)
 (bcase (n3 == n9)
 (bcase (n5 == n9)
 (bcase (n7 == n9)
 (bcase (n4 == 0)
 (bcase (n6 == 0)
 (k [(D.val (Go.Value.bool true))])
 (k [(D.val (Go.Value.bool false))]))
 (k [(D.val (Go.Value.bool false))]))
 (k [(D.val (Go.Value.bool false))]))
 (k [(D.val (Go.Value.bool false))]))
 (k [(D.val (Go.Value.bool false))]))
 (bcase (decide (0 + m * 1 ≤ List.length ss))
 ((∃ n10 : Int,
 ((Says C 67 [(D.agg [D.nil, (D.val (Go.Value.int Go.IntKind.i64 (beat)))]), (D.sl (m) 1 (List.take (m * 1) (List.drop 0 ss)))] [D.nil, (D.val (Go.Value.int Go.IntKind.i64 (n10)))]) ∧
 (∃ n11 : Int,
 (∃ n12 : Int,
 ((Says C 68 [(D.agg [D.nil, (D.val (Go.Value.int Go.IntKind.i64 (beat)))]), (D.val (Go.Value.int Go.IntKind.i64 (ch))), (D.val (Go.Value.int Go.IntKind.i64 (tk)))] [(D.val (Go.Value.int Go.IntKind.i64 (n11))), (D.val (Go.Value.int Go.IntKind.i64 (n12)))]) ∧
 (∃ n13 : Int,
 (∃ n14 : Int,
 ((Says C 69 [(D.agg [D.nil, (D.val (Go.Value.int Go.IntKind.i64 (beat)))]), (D.val (Go.Value.int Go.IntKind.i64 (d)))] [(D.val (Go.Value.int Go.IntKind.i64 (n13))), (D.val (Go.Value.int Go.IntKind.i64 (n14)))]) ∧
 (bcase (n3 == n10)
 (((Says C 70 [D.nil, D.nil] [(D.val (Go.Value.bool true))]) ∧
 (bcase (n5 == n12)
 (bcase (n4 == n11)
 (bcase (n7 == n14)
 (bcase (n6 == n13)
 (k [(D.val (Go.Value.bool true))])
 (k [(D.val (Go.Value.bool false))]))
 (k [(D.val (Go.Value.bool false))]))
 (k [(D.val (Go.Value.bool false))]))
 (k [(D.val (Go.Value.bool false))]))) ∨
 ((Says C 70 [D.nil, D.nil] [(D.val (Go.Value.bool false))]) ∧
 (k [(D.val (Go.Value.bool false))])))
 (k [(D.val (Go.Value.bool false))])))))))))) ∨
 (∃ n10 : Nat,
 (∃ cs1 : List Go.Value,
 (∃ n11 : Int,
 ((Says C 67 [(D.agg [D.nil, (D.val (Go.Value.int Go.IntKind.i64 (beat)))]), (D.sl (m) 1 (List.take (m * 1) (List.drop 0 ss)))] [(D.sl (n10) 2 (cs1)), (D.val (Go.Value.int Go.IntKind.i64 (n11)))]) ∧
 (∃ n12 : Int,
 (∃ n13 : Int,
 ((Says C 68 [(D.agg [D.nil, (D.val (Go.Value.int Go.IntKind.i64 (beat)))]), (D.val (Go.Value.int Go.IntKind.i64 (ch))), (D.val (Go.Value.int Go.IntKind.i64 (tk)))] [(D.val (Go.Value.int Go.IntKind.i64 (n12))), (D.val (Go.Value.int Go.IntKind.i64 (n13)))]) ∧
 (∃ n14 : Int,
 (∃ n15 : Int,
 ((Says C 69 [(D.agg [D.nil, (D.val (Go.Value.int Go.IntKind.i64 (beat)))]), (D.val (Go.Value.int Go.IntKind.i64 (d)))] [(D.val (Go.Value.int Go.IntKind.i64 (n14))), (D.val (Go.Value.int Go.IntKind.i64 (n15)))]) ∧
 (bcase (n3 == n11)
 (bcase (decide (0 + n10 * 2 ≤ List.length cs1))
 (((Says C 70 [D.nil, (D.sl (n10) 2 (List.take (n10 * 2) (List.drop 0 cs1)))] [(D.val (Go.Value.bool true))]) ∧
 (bcase (n5 == n13)
 (bcase (n4 == n12)
 (bcase (n7 == n15)
 (bcase (n6 == n14)
 (k [(D.val (Go.Value.bool true))])
 (k [(D.val (Go.Value.bool false))]))
 (k [(D.val (Go.Value.bool false))]))
 (k [(D.val (Go.Value.bool false))]))
 (k [(D.val (Go.Value.bool false))]))) ∨
 ((Says C 70 [D.nil, (D.sl (n10) 2 (List.take (n10 * 2) (List.drop 0 cs1)))] [(D.val (Go.Value.bool false))]) ∧
 (k [(D.val (Go.Value.bool false))])))
 False)
 (k [(D.val (Go.Value.bool false))])))))))))))))
 False)))))))))))))))))))))))))))))) ∨
 (∃ n3 : Nat,
 (∃ cs1 : List Go.Value,
 (∃ n4 : Int,
 ((Says C 63 [(D.agg [(D.sl 0 1 []), (D.val (Go.Value.int Go.IntKind.i64 (beat)))]), (D.sl (m) 1 (List.take (m * 1) (List.drop 0 (List.take (m * 1) (List.drop 0 ss)))))] [(D.sl (n3) 2 (cs1)), (D.val (Go.Value.int Go.IntKind.i64 (n4)))]) ∧
 ((((Go.Value.int Go.IntKind.i64 (n4)) = (Go.Value.int Go.IntKind.i64 (n4))) ∧
 (((Go.Value.slice (Option.some (Go.Addr.mk 1005 0 Option.none)) (n3) (n3)) = (Go.Value.slice (Option.some (Go.Addr.mk 1005 0 Option.none)) (n3) (n3))) ∧
 (((Go.Value.tuple [(Go.Value.slice (Option.some (Go.Addr.mk 1005 0 Option.none)) (n3) (n3)), (Go.Value.int Go.IntKind.i64 (n4))].toArray) = (Go.Value.tuple [(Go.Value.slice (Option.some (Go.Addr.mk 1005 0 Option.none)) (n3) (n3)), (Go.Value.int Go.IntKind.i64 (n4))].toArray)) ∧
 (((Go.Value.pointer (Option.some (Go.Addr.mk 1001 0 Option.none))) = (Go.Value.pointer (Option.some (Go.Addr.mk 1001 0 Option.none)))) ∧
 True)))) ∧
 ((((Go.Value.int Go.IntKind.i64 (n4)) = (Go.Value.int Go.IntKind.i64 (n4))) ∧
 True) ∧
 (True ∧
 ((((Go.Value.int Go.IntKind.i64 (tk)) = (Go.Value.int Go.IntKind.i64 (tk))) ∧
 (((Go.Value.pointer (Option.some (Go.Addr.mk 1001 2 Option.none))) = (Go.Value.pointer (Option.some (Go.Addr.mk 1001 2 Option.none)))) ∧
 (((Go.Value.int Go.IntKind.i64 (ch)) = (Go.Value.int Go.IntKind.i64 (ch))) ∧
 (((Go.Value.pointer (Option.some (Go.Addr.mk 1001 1 Option.none))) = (Go.Value.pointer (Option.some (Go.Addr.mk 1001 1 Option.none)))) ∧
 (((Go.Value.agg [(Go.Value.slice Option.none 0 0), (Go.Value.int Go.IntKind.i64 (beat))].toArray) = (Go.Value.agg [(Go.Value.slice Option.none 0 0), (Go.Value.int Go.IntKind.i64 (beat))].toArray)) ∧
 True))))) ∧
 ((Says C 62 [(D.agg [D.nil, (D.val (Go.Value.int Go.IntKind.i64 (beat)))])] [(D.agg [(D.sl 0 1 []), (D.val (Go.Value.int Go.IntKind.i64 (beat)))])]) ∧
 ((((Go.Value.int Go.IntKind.i64 (tk)) = (Go.Value.int Go.IntKind.i64 (tk))) ∧
 (((Go.Value.pointer (Option.some (Go.Addr.mk 1001 2 Option.none))) = (Go.Value.pointer (Option.some (Go.Addr.mk 1001 2 Option.none)))) ∧
 (((Go.Value.int Go.IntKind.i64 (ch)) = (Go.Value.int Go.IntKind.i64 (ch))) ∧
 (((Go.Value.pointer (Option.some (Go.Addr.mk 1001 1 Option.none))) = (Go.Value.pointer (Option.some (Go.Addr.mk 1001 1 Option.none)))) ∧
 True)))) ∧
 (∃ n5 : Int,
 (∃ n6 : Int,
 ((Says C 64 [(D.agg [(D.sl 0 1 []), (D.val (Go.Value.int Go.IntKind.i64 (beat)))]), (D.val (Go.Value.int Go.IntKind.i64 (ch))), (D.val (Go.Value.int Go.IntKind.i64 (tk)))] [(D.val (Go.Value.int Go.IntKind.i64 (n5))), (D.val (Go.Value.int Go.IntKind.i64 (n6)))]) ∧
 ((((Go.Value.int Go.IntKind.i64 (n6)) = (Go.Value.int Go.IntKind.i64 (n6))) ∧
 (((Go.Value.int Go.IntKind.i64 (n5)) = (Go.Value.int Go.IntKind.i64 (n5))) ∧
 (((Go.Value.tuple [(Go.Value.int Go.IntKind.i64 (n5)), (Go.Value.int Go.IntKind.i64 (n6))].toArray) = (Go.Value.tuple [(Go.Value.int Go.IntKind.i64 (n5)), (Go.Value.int Go.IntKind.i64 (n6))].toArray)) ∧
 (((Go.Value.pointer (Option.some (Go.Addr.mk 1001 2 Option.none))) = (Go.Value.pointer (Option.some (Go.Addr.mk 1001 2 Option.none)))) ∧
 (((Go.Value.pointer (Option.some (Go.Addr.mk 1001 1 Option.none))) = (Go.Value.pointer (Option.some (Go.Addr.mk 1001 1 Option.none)))) ∧
 True))))) ∧
 ((((Go.Value.int Go.IntKind.i64 (n6)) = (Go.Value.int Go.IntKind.i64 (n6))) ∧
 True) ∧
 (True ∧
 ((((Go.Value.int Go.IntKind.i64 (d)) = (Go.Value.int Go.IntKind.i64 (d))) ∧
 (((Go.Value.pointer (Option.some (Go.Addr.mk 1001 3 Option.none))) = (Go.Value.pointer (Option.some (Go.Addr.mk 1001 3 Option.none)))) ∧
 (((Go.Value.agg [(Go.Value.slice Option.none 0 0), (Go.Value.int Go.IntKind.i64 (beat))].toArray) = (Go.Value.agg [(Go.Value.slice Option.none 0 0), (Go.Value.int Go.IntKind.i64 (beat))].toArray)) ∧
 True))) ∧
 ((Says C 62 [(D.agg [D.nil, (D.val (Go.Value.int Go.IntKind.i64 (beat)))])] [(D.agg [(D.sl 0 1 []), (D.val (Go.Value.int Go.IntKind.i64 (beat)))])]) ∧
 ((((Go.Value.int Go.IntKind.i64 (d)) = (Go.Value.int Go.IntKind.i64 (d))) ∧
 (((Go.Value.pointer (Option.some (Go.Addr.mk 1001 3 Option.none))) = (Go.Value.pointer (Option.some (Go.Addr.mk 1001 3 Option.none)))) ∧
 True)) ∧
 (∃ n7 : Int,
 (∃ n8 : Int,
 ((Says C 65 [(D.agg [(D.sl 0 1 []), (D.val (Go.Value.int Go.IntKind.i64 (beat)))]), (D.val (Go.Value.int Go.IntKind.i64 (d)))] [(D.val (Go.Value.int Go.IntKind.i64 (n7))), (D.val (Go.Value.int Go.IntKind.i64 (n8)))]) ∧
 ((((Go.Value.int Go.IntKind.i64 (n8)) = (Go.Value.int Go.IntKind.i64 (n8))) ∧
 (((Go.Value.int Go.IntKind.i64 (n7)) = (Go.Value.int Go.IntKind.i64 (n7))) ∧
 (((Go.Value.tuple [(Go.Value.int Go.IntKind.i64 (n7)), (Go.Value.int Go.IntKind.i64 (n8))].toArray) = (Go.Value.tuple [(Go.Value.int Go.IntKind.i64 (n7)), (Go.Value.int Go.IntKind.i64 (n8))].toArray)) ∧
 (((Go.Value.pointer (Option.some (Go.Addr.mk 1001 3 Option.none))) = (Go.Value.pointer (Option.some (Go.Addr.mk 1001 3 Option.none)))) ∧
 True)))) ∧
 ((((Go.Value.int Go.IntKind.i64 (n8)) = (Go.Value.int Go.IntKind.i64 (n8))) ∧
 True) ∧
 (True ∧
 (∃ n9 : Int,
 (∃ n10 : Int,
 ((Says C 66 [(D.agg [D.nil, (D.val (Go.Value.int Go.IntKind.i64 (beat)))])] [(D.val (Go.Value.int Go.IntKind.i64 (n9))), (D.val (Go.Value.int Go.IntKind.i64 (n10)))]) ∧
 (bcase (n2 != n10)
 (k [(D.val (Go.Value.bool false))])
 (bcase (n1 != n9)
 (k [(D.val (Go.Value.bool false))])
 (bcase (n10 != 0)
 (bcase (n4 == n10)
 (bcase (n6 == n10)
 (bcase (n8 == n10)
 (bcase ((↑n3 : Int) == 0)
 (bcase (n5 == 0)
 (bcase (n7 == 0)
 (k [(D.val (Go.Value.bool true))])
 (k [(D.val (Go.Value.bool false))]))
 (k [(D.val (Go.Value.bool false))]))
 (k [(D.val (Go.Value.bool false))]))
 (k [(D.val (Go.Value.bool false))]))
 (k [(D.val (Go.Value.bool false))]))
 (k [(D.val (Go.Value.bool false))]))
 (bcase (decide (0 + m * 1 ≤ List.length ss))
 ((∃ n11 : Int,
 ((Says C 67 [(D.agg [D.nil, (D.val (Go.Value.int Go.IntKind.i64 (beat)))]), (D.sl (m) 1 (List.take (m * 1) (List.drop 0 ss)))] [D.nil, (D.val (Go.Value.int Go.IntKind.i64 (n11)))]) ∧
 (∃ n12 : Int,
 (∃ n13 : Int,
 ((Says C 68 [(D.agg [D.nil, (D.val (Go.Value.int Go.IntKind.i64 (beat)))]), (D.val (Go.Value.int Go.IntKind.i64 (ch))), (D.val (Go.Value.int Go.IntKind.i64 (tk)))] [(D.val (Go.Value.int Go.IntKind.i64 (n12))), (D.val (Go.Value.int Go.IntKind.i64 (n13)))]) ∧
 (∃ n14 : Int,
 (∃ n15 : Int,
 ((Says C 69 [(D.agg [D.nil, (D.val (Go.Value.int Go.IntKind.i64 (beat)))]), (D.val (Go.Value.int Go.IntKind.i64 (d)))] [(D.val (Go.Value.int Go.IntKind.i64 (n14))), (D.val (Go.Value.int Go.IntKind.i64 (n15)))]) ∧
 (bcase (n4 == n11)
 (bcase (decide (0 + n3 * 2 ≤ List.length cs1))
 (((Says C 70 [(D.sl (n3) 2 (List.take (n3 * 2) (List.drop 0 cs1))), D.nil] [(D.val (Go.Value.bool true))]) ∧
 (bcase (n6 == n13)
 (bcase (n5 == n12)
 (bcase (n8 == n15)
 (bcase (n7 == n14)
 (k [(D.val (Go.Value.bool true))])
 (k [(D.val (Go.Value.bool false))]))
 (k [(D.val (Go.Value.bool false))]))
 (k [(D.val (Go.Value.bool false))]))
 (k [(D.val (Go.Value.bool false))]))) ∨
 ((Says C 70 [(D.sl (n3) 2 (List.take (n3 * 2) (List.drop 0 cs1))), D.nil] [(D.val (Go.Value.bool false))]) ∧
 (k [(D.val (Go.Value.bool false))])))
 False)
 (k [(D.val (Go.Value.bool false))])))))))))) ∨
 (∃ n11 : Nat,
 (∃ cs2 : List Go.Value,
 (∃ n12 : Int,
 ((Says C 67 [(D.agg [D.nil, (D.val (Go.Value.int Go.IntKind.i64 (beat)))]), (D.sl (m) 1 (List.take (m * 1) (List.drop 0 ss)))] [(D.sl (n11) 2 (cs2)), (D.val (Go.Value.int Go.IntKind.i64 (n12)))]) ∧
 (∃ n13 : Int,
 (∃ n14 : Int,
 ((Says C 68 [(D.agg [D.nil, (D.val (Go.Value.int Go.IntKind.i64 (beat)))]), (D.val (Go.Value.int Go.IntKind.i64 (ch))), (D.val (Go.Value.int Go.IntKind.i64 (tk)))] [(D.val (Go.Value.int Go.IntKind.i64 (n13))), (D.val (Go.Value.int Go.IntKind.i64 (n14)))]) ∧
 (∃ n15 : Int,
 (∃ n16 : Int,
 ((Says C 69 [(D.agg [D.nil, (D.val (Go.Value.int Go.IntKind.i64 (beat)))]), (D.val (Go.Value.int Go.IntKind.i64 (d)))] [(D.val (Go.Value.int Go.IntKind.i64 (n15))), (D.val (Go.Value.int Go.IntKind.i64 (n16)))]) ∧
 (bcase (n4 == n12)
 (bcase (decide (0 + n3 * 2 ≤ List.length cs1))
 (bcase (decide (0 + n11 * 2 ≤ List.length cs2))
 (((Says C 70 [(D.sl (n3) 2 (List.take (n3 * 2) (List.drop 0 cs1))), (D.sl (n11) 2 (List.take (n11 * 2) (List.drop 0 cs2)))] [(D.val (Go.Value.bool true))]) ∧
 (bcase (n6 == n14)
 (bcase (n5 == n13)
 (bcase (n8 == n16)
 (bcase (n7 == n15)
 (k [(D.val (Go.Value.bool true))])
 (k [(D.val (Go.Value.bool false))]))
 (k [(D.val (Go.Value.bool false))]))
 (k [(D.val (Go.Value.bool false))]))
 (k [(D.val (Go.Value.bool false))]))) ∨
 ((Says C 70 [(D.sl (n3) 2 (List.take (n3 * 2) (List.drop 0 cs1))), (D.sl (n11) 2 (List.take (n11 * 2) (List.drop 0 cs2)))] [(D.val (Go.Value.bool false))]) ∧
 (k [(D.val (Go.Value.bool false))])))
 False)
 False)
 (k [(D.val (Go.Value.bool false))])))))))))))))
 False)))))))))))))))))))))))))))))))))
 False)))
 False)))))))))) ∨
 ((Says C 14 [] [(D.val (Go.Value.bool false))]) ∧
 (k [(D.val (Go.Value.bool false))]))) := by kernel_rfl
def g10b (C : Ct) (L : AtLoop) (n cap : Nat) (ps : List Value) (beat : Int) (ch tk d : Int) (k : List D → Prop) : Prop := wpFn Try.prog (hF C) L 0 10 #[.agg #[S500 n cap, i6 beat], .agg #[.slice none 0 0, i6 ch, i6 tk, i6 d]] (heapOf [A500 ps]) (dataK k)
theorem g10b_text (C : Ct) (L : AtLoop) (n : Nat) (cap : Nat) (ps : List Go.Value) (beat : Int) (ch : Int) (tk : Int) (d : Int) (k : List D → Prop) : g10b C L n cap ps beat ch tk d k =
 (((Says C 14 [] [(D.val (Go.Value.bool true))]) ∧
 (bcase (decide ((↑n : Int) > 7))
 (k [(D.val (Go.Value.bool true))])
 (bcase (decide (0 + n * 1 ≤ List.length ps))
 ((Says C 62 [(D.agg [(D.sl (n) 1 (List.take (n * 1) (List.drop 0 ps))), (D.val (Go.Value.int Go.IntKind.i64 (beat)))])] [(D.agg [(D.sl (n) 1 (List.take (n * 1) (List.drop 0 ps))), (D.val (Go.Value.int Go.IntKind.i64 (beat)))])]) ∧
 (bcase (decide (0 + n * 1 ≤ List.length (List.take (n * 1) (List.drop 0 ps))))
 (∃ n1 : Int,
 (∃ n2 : Int,
 ((Says C 61 [(D.agg [(D.sl (n) 1 (List.take (n * 1) (List.drop 0 (List.take (n * 1) (List.drop 0 ps))))), (D.val (Go.Value.int Go.IntKind.i64 (beat)))])] [(D.val (Go.Value.int Go.IntKind.i64 (n1))), (D.val (Go.Value.int Go.IntKind.i64 (n2)))]) ∧
 ((((Go.Value.slice Option.none 0 0) = (Go.Value.slice Option.none 0 0)) ∧
 (((Go.Value.pointer (Option.some (Go.Addr.mk 1001 0 Option.none))) = (Go.Value.pointer (Option.some (Go.Addr.mk 1001 0 Option.none)))) ∧
 (((Go.Value.agg [(Go.Value.slice (Option.some (Go.Addr.mk 500 0 Option.none)) (n) (cap)), (Go.Value.int Go.IntKind.i64 (beat))].toArray) = (Go.Value.agg [(Go.Value.slice (Option.some (Go.Addr.mk 500 0 Option.none)) (n) (cap)), (Go.Value.int Go.IntKind.i64 (beat))].toArray)) ∧
 True))) ∧
 (bcase (decide (0 + n * 1 ≤ List.length ps))
 ((Says C 62 [(D.agg [(D.sl (n) 1 (List.take (n * 1) (List.drop 0 ps))), (D.val (Go.Value.int Go.IntKind.i64 (beat)))])] [(D.agg [(D.sl (n) 1 (List.take (n * 1) (List.drop 0 ps))), (D.val (Go.Value.int Go.IntKind.i64 (beat)))])]) ∧
 ((((Go.Value.slice Option.none 0 0) = (Go.Value.slice Option.none 0 0)) ∧
 (((Go.Value.pointer (Option.some (Go.Addr.mk 1001 0 Option.none))) = (Go.Value.pointer (Option.some (Go.Addr.mk 1001 0 Option.none)))) ∧
 True)) ∧
 ((Says C 37 [D.nil] [(D.sl 0 1 [])]) ∧
 ((((Go.Value.pointer (Option.some (Go.Addr.mk 1001 0 Option.none))) = (Go.Value.pointer (Option.some (Go.Addr.mk 1001 0 Option.none)))) ∧
 True) ∧
 (bcase (decide (0 + n * 1 ≤ List.length (List.take (n * 1) (List.drop 0 ps))))
 ((∃ n3 : Int,
 ((Says C 63 [(D.agg [(D.sl (n) 1 (List.take (n * 1) (List.drop 0 (List.take (n * 1) (List.drop 0 ps))))), (D.val (Go.Value.int Go.IntKind.i64 (beat)))]), (D.sl 0 1 [])] [D.nil, (D.val (Go.Value.int Go.IntKind.i64 (n3)))]) ∧
 ((((Go.Value.int Go.IntKind.i64 (n3)) = (Go.Value.int Go.IntKind.i64 (n3))) ∧
 (((Go.Value.slice Option.none 0 0) = (Go.Value.slice Option.none 0 0)) ∧
 (((Go.Value.tuple [(Go.Value.slice Option.none 0 0), (Go.Value.int Go.IntKind.i64 (n3))].toArray) = (Go.Value.tuple [(Go.Value.slice Option.none 0 0), (Go.Value.int Go.IntKind.i64 (n3))].toArray)) ∧
 (((Go.Value.pointer (Option.some (Go.Addr.mk 1001 0 Option.none))) = (Go.Value.pointer (Option.some (Go.Addr.mk 1001 0 Option.none)))) ∧
 True)))) ∧
 ((((Go.Value.int Go.IntKind.i64 (n3)) = (Go.Value.int Go.IntKind.i64 (n3))) ∧
 True) ∧
 (True ∧
 ((((Go.Value.int Go.IntKind.i64 (tk)) = (Go.Value.int Go.IntKind.i64 (tk))) ∧
 (((Go.Value.pointer (Option.some (Go.Addr.mk 1001 2 Option.none))) = (Go.Value.pointer (Option.some (Go.Addr.mk 1001 2 Option.none)))) ∧
 (((Go.Value.int Go.IntKind.i64 (ch)) = (Go.Value.int Go.IntKind.i64 (ch))) ∧
 (((Go.Value.pointer (Option.some (Go.Addr.mk 1001 1 Option.none))) = (Go.Value.pointer (Option.some (Go.Addr.mk 1001 1 Option.none)))) ∧
 (((Go.Value.agg [(Go.Value.slice (Option.some (Go.Addr.mk 500 0 Option.none)) (n) (cap)), (Go.Value.int Go.IntKind.i64 (beat))].toArray) = (Go.Value.agg [(Go.Value.slice (Option.some (Go.Addr.mk 500 0 Option.none)) (n) (cap)), (Go.Value.int Go.IntKind.i64 (beat))].toArray)) ∧
 True))))) ∧
 (bcase (decide (0 + n * 1 ≤ List.length ps))
 ((Says C 62 [(D.agg [(D.sl (n) 1 (List.take (n * 1) (List.drop 0 ps))), (D.val (Go.Value.int Go.IntKind.i64 (beat)))])] [(D.agg [(D.sl (n) 1 (List.take (n * 1) (List.drop 0 ps))), (D.val (Go.Value.int Go.IntKind.i64 (beat)))])]) ∧
 ((((Go.Value.int Go.IntKind.i64 (tk)) = (Go.Value.int Go.IntKind.i64 (tk))) ∧
 (((Go.Value.pointer (Option.some (Go.Addr.mk 1001 2 Option.none))) = (Go.Value.pointer (Option.some (Go.Addr.mk 1001 2 Option.none)))) ∧
 (((Go.Value.int Go.IntKind.i64 (ch)) = (Go.Value.int Go.IntKind.i64 (ch))) ∧
 (((Go.Value.pointer (Option.some (Go.Addr.mk 1001 1 Option.none))) = (Go.Value.pointer (Option.some (Go.Addr.mk 1001 1 Option.none)))) ∧
 True)))) ∧
 (bcase (decide (0 + n * 1 ≤ List.length (List.take (n * 1) (List.drop 0 ps))))
 (∃ n4 : Int,
 (∃ n5 : Int,
 ((Says C 64 [(D.agg [(D.sl (n) 1 (List.take (n * 1) (List.drop 0 (List.take (n * 1) (List.drop 0 ps))))), (D.val (Go.Value.int Go.IntKind.i64 (beat)))]), (D.val (Go.Value.int Go.IntKind.i64 (ch))), (D.val (Go.Value.int Go.IntKind.i64 (tk)))] [(D.val (Go.Value.int Go.IntKind.i64 (n4))), (D.val (Go.Value.int Go.IntKind.i64 (n5)))]) ∧
 ((((Go.Value.int Go.IntKind.i64 (n5)) = (Go.Value.int Go.IntKind.i64 (n5))) ∧
 (((Go.Value.int Go.IntKind.i64 (n4)) = (Go.Value.int Go.IntKind.i64 (n4))) ∧
 (((Go.Value.tuple [(Go.Value.int Go.IntKind.i64 (n4)), (Go.Value.int Go.IntKind.i64 (n5))].toArray) = (Go.Value.tuple [(Go.Value.int Go.IntKind.i64 (n4)), (Go.Value.int Go.IntKind.i64 (n5))].toArray)) ∧
 (((Go.Value.pointer (Option.some (Go.Addr.mk 1001 2 Option.none))) = (Go.Value.pointer (Option.some (Go.Addr.mk 1001 2 Option.none)))) ∧
 (((Go.Value.pointer (Option.some (Go.Addr.mk 1001 1 Option.none))) = (Go.Value.pointer (Option.some (Go.Addr.mk 1001 1 Option.none)))) ∧
 True))))) ∧
 ((((Go.Value.int Go.IntKind.i64 (n5)) = (Go.Value.int Go.IntKind.i64 (n5))) ∧
 True) ∧
 (True ∧
 ((((Go.Value.int Go.IntKind.i64 (d)) = (Go.Value.int Go.IntKind.i64 (d))) ∧
 (((Go.Value.pointer (Option.some (Go.Addr.mk 1001 3 Option.none))) = (Go.Value.pointer (Option.some (Go.Addr.mk 1001 3 Option.none)))) ∧
 (((Go.Value.agg [(Go.Value.slice (Option.some (Go.Addr.mk 500 0 Option.none)) (n) (cap)), (Go.Value.int Go.IntKind.i64 (beat))].toArray) = (Go.Value.agg [(Go.Value.slice (Option.some (Go.Addr.mk 500 0 Option.none)) (n) (cap)), (Go.Value.int Go.IntKind.i64 (beat))].toArray)) ∧
 True))) ∧
 (bcase (decide (0 + n * 1 ≤ List.length ps))
 ((Says C 62 [(D.agg [(D.sl (n) 1 (List.take (n * 1) (List.drop 0 ps))), (D.val (Go.Value.int Go.IntKind.i64 (beat)))])] [(D.agg [(D.sl (n) 1 (List.take (n * 1) (List.drop 0 ps))), (D.val (Go.Value.int Go.IntKind.i64 (beat)))])]) ∧
 ((((Go.Value.int Go.IntKind.i64 (d)) = (Go.Value.int Go.IntKind.i64 (d))) ∧
 (((Go.Value.pointer (Option.some (Go.Addr.mk 1001 3 Option.none))) = (Go.Value.pointer (Option.some (Go.Addr.mk 1001 3 Option.none)))) ∧
 True)) ∧
 (bcase (decide (0 + n * 1 ≤ List.length (List.take (n * 1) (List.drop 0 ps))))
 (∃ n6 : Int,
 (∃ n7 : Int,
 ((Says C 65 [(D.agg [(D.sl (n) 1 (List.take (n * 1) (List.drop 0 (List.take (n * 1) (List.drop 0 ps))))), (D.val (Go.Value.int Go.IntKind.i64 (beat)))]), (D.val (Go.Value.int Go.IntKind.i64 (d)))] [(D.val (Go.Value.int Go.IntKind.i64 (n6))), (D.val (Go.Value.int Go.IntKind.i64 (n7)))]) ∧
 ((((Go.Value.int Go.IntKind.i64 (n7)) = (Go.Value.int Go.IntKind.i64 (n7))) ∧
 (((Go.Value.int Go.IntKind.i64 (n6)) = (Go.Value.int Go.IntKind.i64 (n6))) ∧
 (((Go.Value.tuple [(Go.Value.int Go.IntKind.i64 (n6)), (Go.Value.int Go.IntKind.i64 (n7))].toArray) = (Go.Value.tuple [(Go.Value.int Go.IntKind.i64 (n6)), (Go.Value.int Go.IntKind.i64 (n7))].toArray)) ∧
 (((Go.Value.pointer (Option.some (Go.Addr.mk 1001 3 Option.none))) = (Go.Value.pointer (Option.some (Go.Addr.mk 1001 3 Option.none)))) ∧
 True)))) ∧
 ((((Go.Value.int Go.IntKind.i64 (n7)) = (Go.Value.int Go.IntKind.i64 (n7))) ∧
 True) ∧
 (True ∧
 (bcase (decide (0 + n * 1 ≤ List.length ps))
 (∃ n8 : Int,
 (∃ n9 : Int,
 ((Says C 66 [(D.agg [(D.sl (n) 1 (List.take (n * 1) (List.drop 0 ps))), (D.val (Go.Value.int Go.IntKind.i64 (beat)))])] [(D.val (Go.Value.int Go.IntKind.i64 (n8))), (D.val (Go.Value.int Go.IntKind.i64 (n9)))]) ∧
 (bcase (n2 != n9)
 (k [(D.val (Go.Value.bool false))])
 (bcase (n1 != n8)
 (k [(D.val (Go.Value.bool false))])
 (bcase (n9 != 0)
 (bcase (n3 == n9)
 (bcase (n5 == n9)
 (bcase (n7 == n9)
 (bcase (n4 == 0)
 (bcase (n6 == 0)
 (k [(D.val (Go.Value.bool true))])
 (k [(D.val (Go.Value.bool false))]))
 (k [(D.val (Go.Value.bool false))]))
 (k [(D.val (Go.Value.bool false))]))
 (k [(D.val (Go.Value.bool false))]))
 (k [(D.val (Go.Value.bool false))]))
 (bcase (decide (0 + n * 1 ≤ List.length ps))
 ((∃ n10 : Int,
 ((Says C 67 [(D.agg [(D.sl (n) 1 (List.take (n * 1) (List.drop 0 ps))), (D.val (Go.Value.int Go.IntKind.i64 (beat)))]), D.nil] [D.nil, (D.val (Go.Value.int Go.IntKind.i64 (n10)))]) ∧
 (bcase (decide (0 + n * 1 ≤ List.length ps))
 (∃ n11 : Int,
 (∃ n12 : Int,
 ((Says C 68 [(D.agg [(D.sl (n) 1 (List.take (n * 1) (List.drop 0 ps))), (D.val (Go.Value.int Go.IntKind.i64 (beat)))]), (D.val (Go.Value.int Go.IntKind.i64 (ch))), (D.val (Go.Value.int Go.IntKind.i64 (tk)))] [(D.val (Go.Value.int Go.IntKind.i64 (n11))), (D.val (Go.Value.int Go.IntKind.i64 (n12)))]) ∧
 (bcase (decide (0 + n * 1 ≤ List.length ps))
 (∃ n13 : Int,
 (∃ n14 : Int,
 ((Says C 69 [(D.agg [(D.sl (n) 1 (List.take (n * 1) (List.drop 0 ps))), (D.val (Go.Value.int Go.IntKind.i64 (beat)))]), (D.val (Go.Value.int Go.IntKind.i64 (d)))] [(D.val (Go.Value.int Go.IntKind.i64 (n13))), (D.val (Go.Value.int Go.IntKind.i64 (n14)))]) ∧
 (bcase (n3 == n10)
 (((Says C 70 [D.nil, D.nil] [(D.val (Go.Value.bool true))]) ∧
 (bcase (n5 == n12)
 (bcase (n4 == n11)
 (bcase (n7 == n14)
 (bcase (n6 == n13)
 (k [(D.val (Go.Value.bool true))])
 (k [(D.val (Go.Value.bool false))]))
 (k [(D.val (Go.Value.bool false))]))
 (k [(D.val (Go.Value.bool false))]))
 (k [(D.val (Go.Value.bool false))]))) ∨
 ((Says C 70 [D.nil, D.nil] [(D.val (Go.Value.bool false))]) ∧
 (k [(D.val (Go.Value.bool false))])))
 (k [(D.val (Go.Value.bool false))])))))
 False))))
 False))) ∨
 (∃ n10 : Nat,
 (∃ cs1 : List Go.Value,
 (∃ n11 : Int,
 ((Says C 67 [(D.agg [(D.sl (n) 1 (List.take (n * 1) (List.drop 0 ps))), (D.val (Go.Value.int Go.IntKind.i64 (beat)))]), D.nil] [(D.sl (n10) 2 (cs1)), (D.val (Go.Value.int Go.IntKind.i64 (n11)))]) ∧
 (bcase (decide (0 + n * 1 ≤ List.length ps))
 (∃ n12 : Int,
 (∃ n13 : Int,
 ((Says C 68 [(D.agg [(D.sl (n) 1 (List.take (n * 1) (List.drop 0 ps))), (D.val (Go.Value.int Go.IntKind.i64 (beat)))]), (D.val (Go.Value.int Go.IntKind.i64 (ch))), (D.val (Go.Value.int Go.IntKind.i64 (tk)))] [(D.val (Go.Value.int Go.IntKind.i64 (n12))), (D.val (Go.Value.int Go.IntKind.i64 (n13)))]) ∧
 (bcase (decide (0 + n * 1 ≤ List.length ps))
 (∃ n14 : Int,
 (∃ n15 : Int,
 ((Says C 69 [(D.agg [(D.sl (n) 1 (List.take (n * 1) (List.drop 0 ps))), (D.val (Go.Value.int Go.IntKind.i64 (beat)))]), (D.val (Go.Value.int Go.IntKind.i64 (d)))] [(D.val (Go.Value.int Go.IntKind.i64 (n14))), (D.val (Go.Value.int Go.IntKind.i64 (n15)))]) ∧
 (bcase (n3 == n11)
 (bcase (decide (0 + n10 * 2 ≤ List.length cs1))
 (((Says C 70 [D.nil, (D.sl (n10) 2 (List.take (n10 * 2) (List.drop 0 cs1)))] [(D.val (Go.Value.bool true))]) ∧
 (bcase (n5 == n13)
 (bcase (n4 == n12)
 (bcase (n7 == n15)
 (bcase (n6 == n14)
 (k [(D.val (Go.Value.bool true))])
 (k [(D.val (Go.Value.bool false))]))
 (k [(D.val (Go.Value.bool false))]))
 (k [(D.val (Go.Value.bool false))]))
 (k [(D.val (Go.Value.bool false))]))) ∨
 ((Says C 70 [D.nil, (D.sl (n10) 2 (List.take (n10 * 2) (List.drop 0 cs1)))] [(D.val (Go.Value.bool false))]) ∧
 (k [(D.val (Go.Value.bool false))])))
 False)
 (k [(D.val (Go.Value.bool false))])))))
 False))))
 False))))))
 False)))))))
 False)))))))
 False)))
 False))))))))
 False)))
 False))))))) ∨
 (∃ n3 : Nat,
 (∃ cs1 : List Go.Value,
 (∃ n4 : Int,
 ((Says C 63 [(D.agg [(D.sl (n) 1 (List.take (n * 1) (List.drop 0 (List.take (n * 1) (List.drop 0 ps))))), (D.val (Go.Value.int Go.IntKind.i64 (beat)))]), (D.sl 0 1 [])] [(D.sl (n3) 2 (cs1)), (D.val (Go.Value.int Go.IntKind.i64 (n4)))]) ∧
 ((((Go.Value.int Go.IntKind.i64 (n4)) = (Go.Value.int Go.IntKind.i64 (n4))) ∧
 (((Go.Value.slice (Option.some (Go.Addr.mk 1005 0 Option.none)) (n3) (n3)) = (Go.Value.slice (Option.some (Go.Addr.mk 1005 0 Option.none)) (n3) (n3))) ∧
 (((Go.Value.tuple [(Go.Value.slice (Option.some (Go.Addr.mk 1005 0 Option.none)) (n3) (n3)), (Go.Value.int Go.IntKind.i64 (n4))].toArray) = (Go.Value.tuple [(Go.Value.slice (Option.some (Go.Addr.mk 1005 0 Option.none)) (n3) (n3)), (Go.Value.int Go.IntKind.i64 (n4))].toArray)) ∧
 (((Go.Value.pointer (Option.some (Go.Addr.mk 1001 0 Option.none))) = (Go.Value.pointer (Option.some (Go.Addr.mk 1001 0 Option.none)))) ∧
 True)))) ∧
 ((((Go.Value.int Go.IntKind.i64 (n4)) = (Go.Value.int Go.IntKind.i64 (n4))) ∧
 True) ∧
 (True ∧
 ((((Go.Value.int Go.IntKind.i64 (tk)) = (Go.Value.int Go.IntKind.i64 (tk))) ∧
 (((Go.Value.pointer (Option.some (Go.Addr.mk 1001 2 Option.none))) = (Go.Value.pointer (Option.some (Go.Addr.mk 1001 2 Option.none)))) ∧
 (((Go.Value.int Go.IntKind.i64 (ch)) = (Go.Value.int Go.IntKind.i64 (ch))) ∧
 (((Go.Value.pointer (Option.some (Go.Addr.mk 1001 1 Option.none))) = (Go.Value.pointer (Option.some (Go.Addr.mk 1001 1 Option.none)))) ∧
 (((Go.Value.agg [(Go.Value.slice (Option.some (Go.Addr.mk 500 0 Option.none)) (n) (cap)), (Go.Value.int Go.IntKind.i64 (beat))].toArray) = (Go.Value.agg [(Go.Value.slice (Option.some (Go.Addr.mk 500 0 Option.none)) (n) (cap)), (Go.Value.int Go.IntKind.i64 (beat))].toArray)) ∧
 True))))) ∧
 (bcase (decide (0 + n * 1 ≤ List.length ps))
 ((Says C 62 [(D.agg [(D.sl (n) 1 (List.take (n * 1) (List.drop 0 ps))), (D.val (Go.Value.int Go.IntKind.i64 (beat)))])] [(D.agg [(D.sl (n) 1 (List.take (n * 1) (List.drop 0 ps))), (D.val (Go.Value.int Go.IntKind.i64 (beat)))])]) ∧
 ((((Go.Value.int Go.IntKind.i64 (tk)) = (Go.Value.int Go.IntKind.i64 (tk))) ∧
 (((Go.Value.pointer (Option.some (Go.Addr.mk 1001 2 Option.none))) = (Go.Value.pointer (Option.some (Go.Addr.mk 1001 2 Option.none)))) ∧
 (((Go.Value.int Go.IntKind.i64 (ch)) = (Go.Value.int Go.IntKind.i64 (ch))) ∧
 (((Go.Value.pointer (Option.some (Go.Addr.mk 1001 1 Option.none))) = (Go.Value.pointer (Option.some (Go.Addr.mk 1001 1 Option.none)))) ∧
 True)))) ∧
 (bcase (decide (0 + n * 1 ≤ List.length (List.take (n * 1) (List.drop 0 ps))))
 (∃ n5 : Int,
 (∃ n6 : Int,
 ((Says C 64 [(D.agg [(D.sl (n) 1 (List.take (n * 1) (List.drop 0 (List.take (n * 1) (List.drop 0 ps))))), (D.val (Go.Value.int Go.IntKind.i64 (beat)))]), (D.val (Go.Value.int Go.IntKind.i64 (ch))), (D.val (Go.Value.int Go.IntKind.i64 (tk)))] [(D.val (Go.Value.int Go.IntKind.i64 (n5))), (D.val (Go.Value.int Go.IntKind.i64 (n6)))]) ∧
 ((((Go.Value.int Go.IntKind.i64 (n6)) = (Go.Value.int Go.IntKind.i64 (n6))) ∧
 (((Go.Value.int Go.IntKind.i64 (n5)) = (Go.Value.int Go.IntKind.i64 (n5))) ∧
 (((Go.Value.tuple [(Go.Value.int Go.IntKind.i64 (n5)), (Go.Value.int Go.IntKind.i64 (n6))].toArray) = (Go.Value.tuple [(Go.Value.int Go.IntKind.i64 (n5)), (Go.Value.int Go.IntKind.i64 (n6))].toArray)) ∧
 (((Go.Value.pointer (Option.some (Go.Addr.mk 1001 2 Option.none))) = (Go.Value.pointer (Option.some (Go.Addr.mk 1001 2 Option.none)))) ∧
 (((Go.Value.pointer (Option.some (Go.Addr.mk 1001 1 Option.none))) = (Go.Value.pointer (Option.some (Go.Addr.mk 1001 1 Option.none)))) ∧
 True))))) ∧
 ((((Go.Value.int Go.IntKind.i64 (n6)) = (Go.Value.int Go.IntKind.i64 (n6))) ∧
 True) ∧
 (True ∧
 ((((Go.Value.int Go.IntKind.i64 (d)) = (Go.Value.int Go.IntKind.i64 (d))) ∧
 (((Go.Value.pointer (Option.some (Go.Addr.mk 1001 3 Option.none))) = (Go.Value.pointer (Option.some (Go.Addr.mk 1001 3 Option.none)))) ∧
 (((Go.Value.agg [(Go.Value.slice (Option.some (Go.Addr.mk 500 0 Option.none)) (n) (cap)), (Go.Value.int Go.IntKind.i64 (beat))].toArray) = (Go.Value.agg [(Go.Value.slice (Option.some (Go.Addr.mk 500 0 Option.none)) (n) (cap)), (Go.Value.int Go.IntKind.i64 (beat))].toArray)) ∧
 True))) ∧
 (bcase (decide (0 + n * 1 ≤ List.length ps))
 ((Says C 62 [(D.agg [(D.sl (n) 1 (List.take (n * 1) (List.drop 0 ps))), (D.val (Go.Value.int Go.IntKind.i64 (beat)))])] [(D.agg [(D.sl (n) 1 (List.take (n * 1) (List.drop 0 ps))), (D.val (Go.Value.int Go.IntKind.i64 (beat)))])]) ∧
 ((((Go.Value.int Go.IntKind.i64 (d)) = (Go.Value.int Go.IntKind.i64 (d))) ∧
 (((Go.Value.pointer (Option.some (Go.Addr.mk 1001 3 Option.none))) = (Go.Value.pointer (Option.some (Go.Addr.mk 1001 3 Option.none)))) ∧
 True)) ∧
 (bcase (decide (0 + n * 1 ≤ List.length (List.take (n * 1) (List.drop 0 ps))))
 (∃ n7 : Int,
 (∃ n8 : Int,
 ((Says C 65 [(D.agg [(D.sl (n) 1 (List.take (n * 1) (List.drop 0 (List.take (n * 1) (List.drop 0 ps))))), (D.val (Go.Value.int Go.IntKind.i64 (beat)))]), (D.val (Go.Value.int Go.IntKind.i64 (d)))] [(D.val (Go.Value.int Go.IntKind.i64 (n7))), (D.val (Go.Value.int Go.IntKind.i64 (n8)))]) ∧
 ((((Go.Value.int Go.IntKind.i64 (n8)) = (Go.Value.int Go.IntKind.i64 (n8))) ∧
 (((Go.Value.int Go.IntKind.i64 (n7)) = (Go.Value.int Go.IntKind.i64 (n7))) ∧
 (((Go.Value.tuple [(Go.Value.int Go.IntKind.i64 (n7)), (Go.Value.int Go.IntKind.i64 (n8))].toArray) = (Go.Value.tuple [(Go.Value.int Go.IntKind.i64 (n7)), (Go.Value.int Go.IntKind.i64 (n8))].toArray)) ∧
 (((Go.Value.pointer (Option.some (Go.Addr.mk 1001 3 Option.none))) = (Go.Value.pointer (Option.some (Go.Addr.mk 1001 3 Option.none)))) ∧
 True)))) ∧
 ((((Go.Value.int Go.IntKind.i64 (n8)) = (Go.Value.int Go.IntKind.i64 (n8))) ∧
 True) ∧
 (True ∧
 (bcase (decide (0 + n * 1 ≤ List.length ps))
 (∃ n9 : Int,
 (∃ n10 : Int,
 ((Says C 66 [(D.agg [(D.sl (n) 1 (List.take (n * 1) (List.drop 0 ps))), (D.val (Go.Value.int Go.IntKind.i64 (beat)))])] [(D.val (Go.Value.int Go.IntKind.i64 (n9))), (D.val (Go.Value.int Go.IntKind.i64 (n10)))]) ∧
 (bcase (n2 != n10)
 (k [(D.val (Go.Value.bool false))])
 (bcase (n1 != n9)
 (k [(D.val (Go.Value.bool false))])
 (bcase (n10 != 0)
 (bcase (n4 == n10)
 (bcase (n6 == n10)
 (bcase (n8 == n10)
 (bcase ((↑n3 : Int) == 0)
 (bcase (n5 == 0)
 (bcase (n7 == 0)
 (k [(D.val (Go.Value.bool true))])
 (k [(D.val (Go.Value.bool false))]))
 (k [(D.val (Go.Value.bool false))]))
 (k [(D.val (Go.Value.bool false))]))
 (k [(D.val (Go.Value.bool false))]))
 (k [(D.val (Go.Value.bool false))]))
 (k [(D.val (Go.Value.bool false))]))
 (bcase (decide (0 + n * 1 ≤ List.length ps))
 ((∃ n11 : Int,
 ((Says C 67 [(D.agg [(D.sl (n) 1 (List.take (n * 1) (List.drop 0 ps))), (D.val (Go.Value.int Go.IntKind.i64 (beat)))]), D.nil] [D.nil, (D.val (Go.Value.int Go.IntKind.i64 (n11)))]) ∧
 (bcase (decide (0 + n * 1 ≤ List.length ps))
 (∃ n12 : Int,
 (∃ n13 : Int,
 ((Says C 68 [(D.agg [(D.sl (n) 1 (List.take (n * 1) (List.drop 0 ps))), (D.val (Go.Value.int Go.IntKind.i64 (beat)))]), (D.val (Go.Value.int Go.IntKind.i64 (ch))), (D.val (Go.Value.int Go.IntKind.i64 (tk)))] [(D.val (Go.Value.int Go.IntKind.i64 (n12))), (D.val (Go.Value.int Go.IntKind.i64 (n13)))]) ∧
 (bcase (decide (0 + n * 1 ≤ List.length ps))
 (∃ n14 : Int,
 (∃ n15 : Int,
 ((Says C 69 [(D.agg [(D.sl (n) 1 (List.take (n * 1) (List.drop 0 ps))), (D.val (Go.Value.int Go.IntKind.i64 (beat)))]), (D.val (Go.Value.int Go.IntKind.i64 (d)))] [(D.val (Go.Value.int Go.IntKind.i64 (n14))), (D.val (Go.Value.int Go.IntKind.i64 (n15)))]) ∧
 (bcase (n4 == n11)
 (bcase (decide (0 + n3 * 2 ≤ List.length cs1))
 (((Says C 70 [(D.sl (n3) 2 (List.take (n3 * 2) (List.drop 0 cs1))), D.nil] [(D.val (Go.Value.bool true))]) ∧
 (bcase (n6 == n13)
 (bcase (n5 == n12)
 (bcase (n8 == n15)
 (bcase (n7 == n14)
 (k [(D.val (Go.Value.bool true))])
 (k [(D.val (Go.Value.bool false))]))
 (k [(D.val (Go.Value.bool false))]))
 (k [(D.val (Go.Value.bool false))]))
 (k [(D.val (Go.Value.bool false))]))) ∨
 ((Says C 70 [(D.sl (n3) 2 (List.take (n3 * 2) (List.drop 0 cs1))), D.nil] [(D.val (Go.Value.bool false))]) ∧
 (k [(D.val (Go.Value.bool false))])))
 False)
 (k [(D.val (Go.Value.bool false))])))))
 False))))
 False))) ∨
 (∃ n11 : Nat,
 (∃ cs2 : List Go.Value,
 (∃ n12 : Int,
 ((Says C 67 [(D.agg [(D.sl (n) 1 (List.take (n * 1) (List.drop 0 ps))), (D.val (Go.Value.int Go.IntKind.i64 (beat)))]), D.nil] [(D.sl (n11) 2 (cs2)), (D.val (Go.Value.int Go.IntKind.i64 (n12)))]) ∧
 (bcase (decide (0 + n * 1 ≤ List.length ps))
 (∃ n13 : Int,
 (∃ n14 : Int,
 ((Says C 68 [(D.agg [(D.sl (n) 1 (List.take (n * 1) (List.drop 0 ps))), (D.val (Go.Value.int Go.IntKind.i64 (beat)))]), (D.val (Go.Value.int Go.IntKind.i64 (ch))), (D.val (Go.Value.int Go.IntKind.i64 (tk)))] [(D.val (Go.Value.int Go.IntKind.i64 (n13))), (D.val (Go.Value.int Go.IntKind.i64 (n14)))]) ∧
 (bcase (decide (0 + n * 1 ≤ List.length ps))
 (∃ n15 : Int,
 (∃ n16 : Int,
 ((Says C 69 [(D.agg [(D.sl (n) 1 (List.take (n * 1) (List.drop 0 ps))), (D.val (Go.Value.int Go.IntKind.i64 (beat)))]), (D.val (Go.Value.int Go.IntKind.i64 (d)))] [(D.val (Go.Value.int Go.IntKind.i64 (n15))), (D.val (Go.Value.int Go.IntKind.i64 (n16)))]) ∧
 (bcase (n4 == n12)
 (bcase (decide (0 + n3 * 2 ≤ List.length cs1))
 (bcase (decide (0 + n11 * 2 ≤ List.length cs2))
 (((Says C 70 [(D.sl (n3) 2 (List.take (n3 * 2) (List.drop 0 cs1))), (D.sl (n11) 2 (List.take (n11 * 2) (List.drop 0 cs2)))] [(D.val (Go.Value.bool true))]) ∧
 (bcase (n6 == n14)
 (bcase (n5 == n13)
 (bcase (n8 == n16)
 (bcase (n7 == n15)
 (k [(D.val (Go.Value.bool true))])
 (k [(D.val (Go.Value.bool false))]))
 (k [(D.val (Go.Value.bool false))]))
 (k [(D.val (Go.Value.bool false))]))
 (k [(D.val (Go.Value.bool false))]))) ∨
 ((Says C 70 [(D.sl (n3) 2 (List.take (n3 * 2) (List.drop 0 cs1))), (D.sl (n11) 2 (List.take (n11 * 2) (List.drop 0 cs2)))] [(D.val (Go.Value.bool false))]) ∧
 (k [(D.val (Go.Value.bool false))])))
 False)
 False)
 (k [(D.val (Go.Value.bool false))])))))
 False))))
 False))))))
 False)))))))
 False)))))))
 False)))
 False))))))))
 False)))
 False))))))))))
 False)))))
 False)))))
 False))
 False))) ∨
 ((Says C 14 [] [(D.val (Go.Value.bool false))]) ∧
 (k [(D.val (Go.Value.bool false))]))) := by kernel_rfl
def g10c (C : Ct) (L : AtLoop) (beat : Int) (ch tk d : Int) (k : List D → Prop) : Prop := wpFn Try.prog (hF C) L 0 10 #[.agg #[.slice none 0 0, i6 beat], .agg #[.slice none 0 0, i6 ch, i6 tk, i6 d]] (heapOf []) (dataK k)
theorem g10c_text (C : Ct) (L : AtLoop) (beat : Int) (ch : Int) (tk : Int) (d : Int) (k : List D → Prop) : g10c C L beat ch tk d k =
 (((Says C 14 [] [(D.val (Go.Value.bool true))]) ∧
 ((Says C 62 [(D.agg [D.nil, (D.val (Go.Value.int Go.IntKind.i64 (beat)))])] [(D.agg [(D.sl 0 1 []), (D.val (Go.Value.int Go.IntKind.i64 (beat)))])]) ∧
 (∃ n1 : Int,
 (∃ n2 : Int,
 ((Says C 61 [(D.agg [(D.sl 0 1 []), (D.val (Go.Value.int Go.IntKind.i64 (beat)))])] [(D.val (Go.Value.int Go.IntKind.i64 (n1))), (D.val (Go.Value.int Go.IntKind.i64 (n2)))]) ∧
 ((((Go.Value.slice Option.none 0 0) = (Go.Value.slice Option.none 0 0)) ∧
 (((Go.Value.pointer (Option.some (Go.Addr.mk 1001 0 Option.none))) = (Go.Value.pointer (Option.some (Go.Addr.mk 1001 0 Option.none)))) ∧
 (((Go.Value.agg [(Go.Value.slice Option.none 0 0), (Go.Value.int Go.IntKind.i64 (beat))].toArray) = (Go.Value.agg [(Go.Value.slice Option.none 0 0), (Go.Value.int Go.IntKind.i64 (beat))].toArray)) ∧
 True))) ∧
 ((Says C 62 [(D.agg [D.nil, (D.val (Go.Value.int Go.IntKind.i64 (beat)))])] [(D.agg [(D.sl 0 1 []), (D.val (Go.Value.int Go.IntKind.i64 (beat)))])]) ∧
 ((((Go.Value.slice Option.none 0 0) = (Go.Value.slice Option.none 0 0)) ∧
 (((Go.Value.pointer (Option.some (Go.Addr.mk 1001 0 Option.none))) = (Go.Value.pointer (Option.some (Go.Addr.mk 1001 0 Option.none)))) ∧
 True)) ∧
 ((Says C 37 [D.nil] [(D.sl 0 1 [])]) ∧
 ((((Go.Value.pointer (Option.some (Go.Addr.mk 1001 0 Option.none))) = (Go.Value.pointer (Option.some (Go.Addr.mk 1001 0 Option.none)))) ∧
 True) ∧
 ((∃ n3 : Int,
 ((Says C 63 [(D.agg [(D.sl 0 1 []), (D.val (Go.Value.int Go.IntKind.i64 (beat)))]), (D.sl 0 1 [])] [D.nil, (D.val (Go.Value.int Go.IntKind.i64 (n3)))]) ∧
 ((((Go.Value.int Go.IntKind.i64 (n3)) = (Go.Value.int Go.IntKind.i64 (n3))) ∧
 (((Go.Value.slice Option.none 0 0) = (Go.Value.slice Option.none 0 0)) ∧
 (((Go.Value.tuple [(Go.Value.slice Option.none 0 0), (Go.Value.int Go.IntKind.i64 (n3))].toArray) = (Go.Value.tuple [(Go.Value.slice Option.none 0 0), (Go.Value.int Go.IntKind.i64 (n3))].toArray)) ∧
 (((Go.Value.pointer (Option.some (Go.Addr.mk 1001 0 Option.none))) = (Go.Value.pointer (Option.some (Go.Addr.mk 1001 0 Option.none)))) ∧
 True)))) ∧
 ((((Go.Value.int Go.IntKind.i64 (n3)) = (Go.Value.int Go.IntKind.i64 (n3))) ∧
 True) ∧
 (True ∧
 ((((Go.Value.int Go.IntKind.i64 (tk)) = (Go.Value.int Go.IntKind.i64 (tk))) ∧
 (((Go.Value.pointer (Option.some (Go.Addr.mk 1001 2 Option.none))) = (Go.Value.pointer (Option.some (Go.Addr.mk 1001 2 Option.none)))) ∧
 (((Go.Value.int Go.IntKind.i64 (ch)) = (Go.Value.int Go.IntKind.i64 (ch))) ∧
 (((Go.Value.pointer (Option.some (Go.Addr.mk 1001 1 Option.none))) = (Go.Value.pointer (Option.some (Go.Addr.mk 1001 1 Option.none)))) ∧
 (((Go.Value.agg [(Go.Value.slice Option.none 0 0), (Go.Value.int Go.IntKind.i64 (beat))].toArray) = (Go.Value.agg [(Go.Value.slice Option.none 0 0), (Go.Value.int Go.IntKind.i64 (beat))].toArray)) ∧
 True))))) ∧
 ((Says C 62 [(D.agg [D.nil, (D.val (Go.Value.int Go.IntKind.i64 (beat)))])] [(D.agg [(D.sl 0 1 []), (D.val (Go.Value.int Go.IntKind.i64 (beat)))])]) ∧
 ((((Go.Value.int Go.IntKind.i64 (tk)) = (Go.Value.int Go.IntKind.i64 (tk))) ∧
 (((Go.Value.pointer (Option.some (Go.Addr.mk 1001 2 Option.none))) = (Go.Value.pointer (Option.some (Go.Addr.mk 1001 2 Option.none)))) ∧
 (((Go.Value.int Go.IntKind.i64 (ch)) = (Go.Value.int Go.IntKind.i64 (ch))) ∧
 (((Go.Value.pointer (Option.some (Go.Addr.mk 1001 1 Option.none))) = (Go.Value.pointer (Option.some (Go.Addr.mk 1001 1 Option.none)))) ∧
 True)))) ∧
 (∃ n4 : Int,
 (∃ n5 : Int,
 ((Says C 64 [(D.agg [(D.sl 0 1 []), (D.val (Go.Value.int Go.IntKind.i64 (beat)))]), (D.val (Go.Value.int Go.IntKind.i64 (ch))), (D.val (Go.Value.int Go.IntKind.i64 (tk)))] [(D.val (Go.Value.int Go.IntKind.i64 (n4))), (D.val (Go.Value.int Go.IntKind.i64 (n5)))]) ∧
 ((((Go.Value.int Go.IntKind.i64 (n5)) = (Go.Value.int Go.IntKind.i64 (n5))) ∧
 (((Go.Value.int Go.IntKind.i64 (n4)) = (Go.Value.int Go.IntKind.i64 (n4))) ∧
 (((Go.Value.tuple [(Go.Value.int Go.IntKind.i64 (n4)), (Go.Value.int Go.IntKind.i64 (n5))].toArray) = (Go.Value.tuple [(Go.Value.int Go.IntKind.i64 (n4)), (Go.Value.int Go.IntKind.i64 (n5))].toArray)) ∧
 (((Go.Value.pointer (Option.some (Go.Addr.mk 1001 2 Option.none))) = (Go.Value.pointer (Option.some (Go.Addr.mk 1001 2 Option.none)))) ∧
 (((Go.Value.pointer (Option.some (Go.Addr.mk 1001 1 Option.none))) = (Go.Value.pointer (Option.some (Go.Addr.mk 1001 1 Option.none)))) ∧
 True))))) ∧
 ((((Go.Value.int Go.IntKind.i64 (n5)) = (Go.Value.int Go.IntKind.i64 (n5))) ∧
 True) ∧
 (True ∧
 ((((Go.Value.int Go.IntKind.i64 (d)) = (Go.Value.int Go.IntKind.i64 (d))) ∧
 (((Go.Value.pointer (Option.some (Go.Addr.mk 1001 3 Option.none))) = (Go.Value.pointer (Option.some (Go.Addr.mk 1001 3 Option.none)))) ∧
 (((Go.Value.agg [(Go.Value.slice Option.none 0 0), (Go.Value.int Go.IntKind.i64 (beat))].toArray) = (Go.Value.agg [(Go.Value.slice Option.none 0 0), (Go.Value.int Go.IntKind.i64 (beat))].toArray)) ∧
 True))) ∧
 ((Says C 62 [(D.agg [D.nil, (D.val (Go.Value.int Go.IntKind.i64 (beat)))])] [(D.agg [(D.sl 0 1 []), (D.val (Go.Value.int Go.IntKind.i64 (beat)))])]) ∧
 ((((Go.Value.int Go.IntKind.i64 (d)) = (Go.Value.int Go.IntKind.i64 (d))) ∧
 (((Go.Value.pointer (Option.some (Go.Addr.mk 1001 3 Option.none))) = (Go.Value.pointer (Option.some (Go.Addr.mk 1001 3 Option.none)))) ∧
 True)) ∧
 (∃ n6 : Int,
 (∃ n7 : Int,
 ((Says C 65 [(D.agg [(D.sl 0 1 []), (D.val (Go.Value.int Go.IntKind.i64 (beat)))]), (D.val (Go.Value.int Go.IntKind.i64 (d)))] [(D.val (Go.Value.int Go.IntKind.i64 (n6))), (D.val (Go.Value.int Go.IntKind.i64 (n7)))]) ∧
 ((((Go.Value.int Go.IntKind.i64 (n7)) = (Go.Value.int Go.IntKind.i64 (n7))) ∧
 (((Go.Value.int Go.IntKind.i64 (n6)) = (Go.Value.int Go.IntKind.i64 (n6))) ∧
 (((Go.Value.tuple [(Go.Value.int Go.IntKind.i64 (n6)), (Go.Value.int Go.IntKind.i64 (n7))].toArray) = (Go.Value.tuple [(Go.Value.int Go.IntKind.i64 (n6)), (Go.Value.int Go.IntKind.i64 (n7))].toArray)) ∧
 (((Go.Value.pointer (Option.some (Go.Addr.mk 1001 3 Option.none))) = (Go.Value.pointer (Option.some (Go.Addr.mk 1001 3 Option.none)))) ∧
 True)))) ∧
 ((((Go.Value.int Go.IntKind.i64 (n7)) = (Go.Value.int Go.IntKind.i64 (n7))) ∧
 True) ∧
 (True ∧
 (∃ n8 : Int,
 (∃ n9 : Int,
 ((Says C 66 [(D.agg [D.nil, (D.val (Go.Value.int Go.IntKind.i64 (beat)))])] [(D.val (Go.Value.int Go.IntKind.i64 (n8))), (D.val (Go.Value.int Go.IntKind.i64 (n9)))]) ∧
 (bcase (n2 != n9)
 (k [(D.val (Go.Value.bool false))])
 (bcase (n1 != n8)
 (k [(D.val (Go.Value.bool false))])
 (bcase (n9 != 0)
 (bcase (n3 == n9)
 (bcase (n5 == n9)
 (bcase (n7 == n9)
 (bcase (n4 == 0)
 (bcase (n6 == 0)
 (k [(D.val (Go.Value.bool true))])
 (k [(D.val (Go.Value.bool false))]))
 (k [(D.val (Go.Value.bool false))]))
 (k [(D.val (Go.Value.bool false))]))
 (k [(D.val (Go.Value.bool false))]))
 (k [(D.val (Go.Value.bool false))]))
 ((∃ n10 : Int,
 ((Says C 67 [(D.agg [D.nil, (D.val (Go.Value.int Go.IntKind.i64 (beat)))]), D.nil] [D.nil, (D.val (Go.Value.int Go.IntKind.i64 (n10)))]) ∧
 (∃ n11 : Int,
 (∃ n12 : Int,
 ((Says C 68 [(D.agg [D.nil, (D.val (Go.Value.int Go.IntKind.i64 (beat)))]), (D.val (Go.Value.int Go.IntKind.i64 (ch))), (D.val (Go.Value.int Go.IntKind.i64 (tk)))] [(D.val (Go.Value.int Go.IntKind.i64 (n11))), (D.val (Go.Value.int Go.IntKind.i64 (n12)))]) ∧
 (∃ n13 : Int,
 (∃ n14 : Int,
 ((Says C 69 [(D.agg [D.nil, (D.val (Go.Value.int Go.IntKind.i64 (beat)))]), (D.val (Go.Value.int Go.IntKind.i64 (d)))] [(D.val (Go.Value.int Go.IntKind.i64 (n13))), (D.val (Go.Value.int Go.IntKind.i64 (n14)))]) ∧
 (bcase (n3 == n10)
 (((Says C 70 [D.nil, D.nil] [(D.val (Go.Value.bool true))]) ∧
 (bcase (n5 == n12)
 (bcase (n4 == n11)
 (bcase (n7 == n14)
 (bcase (n6 == n13)
 (k [(D.val (Go.Value.bool true))])
 (k [(D.val (Go.Value.bool false))]))
 (k [(D.val (Go.Value.bool false))]))
 (k [(D.val (Go.Value.bool false))]))
 (k [(D.val (Go.Value.bool false))]))) ∨
 ((Says C 70 [D.nil, D.nil] [(D.val (Go.Value.bool false))]) ∧
 (k [(D.val (Go.Value.bool false))])))
 (k [(D.val (Go.Value.bool false))])))))))))) ∨
 (∃ n10 : Nat,
 (∃ cs1 : List Go.Value,
 (∃ n11 : Int,
 ((Says C 67 [(D.agg [D.nil, (D.val (Go.Value.int Go.IntKind.i64 (beat)))]), D.nil] [(D.sl (n10) 2 (cs1)), (D.val (Go.Value.int Go.IntKind.i64 (n11)))]) ∧
 (∃ n12 : Int,
 (∃ n13 : Int,
 ((Says C 68 [(D.agg [D.nil, (D.val (Go.Value.int Go.IntKind.i64 (beat)))]), (D.val (Go.Value.int Go.IntKind.i64 (ch))), (D.val (Go.Value.int Go.IntKind.i64 (tk)))] [(D.val (Go.Value.int Go.IntKind.i64 (n12))), (D.val (Go.Value.int Go.IntKind.i64 (n13)))]) ∧
 (∃ n14 : Int,
 (∃ n15 : Int,
 ((Says C 69 [(D.agg [D.nil, (D.val (Go.Value.int Go.IntKind.i64 (beat)))]), (D.val (Go.Value.int Go.IntKind.i64 (d)))] [(D.val (Go.Value.int Go.IntKind.i64 (n14))), (D.val (Go.Value.int Go.IntKind.i64 (n15)))]) ∧
 (bcase (n3 == n11)
 (bcase (decide (0 + n10 * 2 ≤ List.length cs1))
 (((Says C 70 [D.nil, (D.sl (n10) 2 (List.take (n10 * 2) (List.drop 0 cs1)))] [(D.val (Go.Value.bool true))]) ∧
 (bcase (n5 == n13)
 (bcase (n4 == n12)
 (bcase (n7 == n15)
 (bcase (n6 == n14)
 (k [(D.val (Go.Value.bool true))])
 (k [(D.val (Go.Value.bool false))]))
 (k [(D.val (Go.Value.bool false))]))
 (k [(D.val (Go.Value.bool false))]))
 (k [(D.val (Go.Value.bool false))]))) ∨
 ((Says C 70 [D.nil, (D.sl (n10) 2 (List.take (n10 * 2) (List.drop 0 cs1)))] [(D.val (Go.Value.bool false))]) ∧
 (k [(D.val (Go.Value.bool false))])))
 False)
 (k [(D.val (Go.Value.bool false))])))))))))))))))))))))))))))))))))))))))))) ∨
 (∃ n3 : Nat,
 (∃ cs1 : List Go.Value,
 (∃ n4 : Int,
 ((Says C 63 [(D.agg [(D.sl 0 1 []), (D.val (Go.Value.int Go.IntKind.i64 (beat)))]), (D.sl 0 1 [])] [(D.sl (n3) 2 (cs1)), (D.val (Go.Value.int Go.IntKind.i64 (n4)))]) ∧
 ((((Go.Value.int Go.IntKind.i64 (n4)) = (Go.Value.int Go.IntKind.i64 (n4))) ∧
 (((Go.Value.slice (Option.some (Go.Addr.mk 1005 0 Option.none)) (n3) (n3)) = (Go.Value.slice (Option.some (Go.Addr.mk 1005 0 Option.none)) (n3) (n3))) ∧
 (((Go.Value.tuple [(Go.Value.slice (Option.some (Go.Addr.mk 1005 0 Option.none)) (n3) (n3)), (Go.Value.int Go.IntKind.i64 (n4))].toArray) = (Go.Value.tuple [(Go.Value.slice (Option.some (Go.Addr.mk 1005 0 Option.none)) (n3) (n3)), (Go.Value.int Go.IntKind.i64 (n4))].toArray)) ∧
 (((Go.Value.pointer (Option.some (Go.Addr.mk 1001 0 Option.none))) = (Go.Value.pointer (Option.some (Go.Addr.mk 1001 0 Option.none)))) ∧
 True)))) ∧
 ((((Go.Value.int Go.IntKind.i64 (n4)) = (Go.Value.int Go.IntKind.i64 (n4))) ∧
 True) ∧
 (True ∧
 ((((Go.Value.int Go.IntKind.i64 (tk)) = (Go.Value.int Go.IntKind.i64 (tk))) ∧
 (((Go.Value.pointer (Option.some (Go.Addr.mk 1001 2 Option.none))) = (Go.Value.pointer (Option.some (Go.Addr.mk 1001 2 Option.none)))) ∧
 (((Go.Value.int Go.IntKind.i64 (ch)) = (Go.Value.int Go.IntKind.i64 (ch))) ∧
 (((Go.Value.pointer (Option.some (Go.Addr.mk 1001 1 Option.none))) = (Go.Value.pointer (Option.some (Go.Addr.mk 1001 1 Option.none)))) ∧
 (((Go.Value.agg [(Go.Value.slice Option.none 0 0), (Go.Value.int Go.IntKind.i64 (beat))].toArray) = (Go.Value.agg [(Go.Value.slice Option.none 0 0), (Go.Value.int Go.IntKind.i64 (beat))].toArray)) ∧
 True))))) ∧
 ((Says C 62 [(D.agg [D.nil, (D.val (Go.Value.int Go.IntKind.i64 (beat)))])] [(D.agg [(D.sl 0 1 []), (D.val (Go.Value.int Go.IntKind.i64 (beat)))])]) ∧
 ((((Go.Value.int Go.IntKind.i64 (tk)) = (Go.Value.int Go.IntKind.i64 (tk))) ∧
 (((Go.Value.pointer (Option.some (Go.Addr.mk 1001 2 Option.none))) = (Go.Value.pointer (Option.some (Go.Addr.mk 1001 2 Option.none)))) ∧
 (((Go.Value.int Go.IntKind.i64 (ch)) = (Go.Value.int Go.IntKind.i64 (ch))) ∧
 (((Go.Value.pointer (Option.some (Go.Addr.mk 1001 1 Option.none))) = (Go.Value.pointer (Option.some (Go.Addr.mk 1001 1 Option.none)))) ∧
 True)))) ∧
 (∃ n5 : Int,
 (∃ n6 : Int,
 ((Says C 64 [(D.agg [(D.sl 0 1 []), (D.val (Go.Value.int Go.IntKind.i64 (beat)))]), (D.val (Go.Value.int Go.IntKind.i64 (ch))), (D.val (Go.Value.int Go.IntKind.i64 (tk)))] [(D.val (Go.Value.int Go.IntKind.i64 (n5))), (D.val (Go.Value.int Go.IntKind.i64 (n6)))]) ∧
 ((((Go.Value.int Go.IntKind.i64 (n6)) = (Go.Value.int Go.IntKind.i64 (n6))) ∧
 (((Go.Value.int Go.IntKind.i64 (n5)) = (Go.Value.int Go.IntKind.i64 (n5))) ∧
 (((Go.Value.tuple [(Go.Value.int Go.IntKind.i64 (n5)), (Go.Value.int Go.IntKind.i64 (n6))].toArray) = (Go.Value.tuple [(Go.Value.int Go.IntKind.i64 (n5)), (Go.Value.int Go.IntKind.i64 (n6))].toArray)) ∧
 (((Go.Value.pointer (Option.some (Go.Addr.mk 1001 2 Option.none))) = (Go.Value.pointer (Option.some (Go.Addr.mk 1001 2 Option.none)))) ∧
 (((Go.Value.pointer (Option.some (Go.Addr.mk 1001 1 Option.none))) = (Go.Value.pointer (Option.some (Go.Addr.mk 1001 1 Option.none)))) ∧
 True))))) ∧
 ((((Go.Value.int Go.IntKind.i64 (n6)) = (Go.Value.int Go.IntKind.i64 (n6))) ∧
 True) ∧
 (True ∧
 ((((Go.Value.int Go.IntKind.i64 (d)) = (Go.Value.int Go.IntKind.i64 (d))) ∧
 (((Go.Value.pointer (Option.some (Go.Addr.mk 1001 3 Option.none))) = (Go.Value.pointer (Option.some (Go.Addr.mk 1001 3 Option.none)))) ∧
 (((Go.Value.agg [(Go.Value.slice Option.none 0 0), (Go.Value.int Go.IntKind.i64 (beat))].toArray) = (Go.Value.agg [(Go.Value.slice Option.none 0 0), (Go.Value.int Go.IntKind.i64 (beat))].toArray)) ∧
 True))) ∧
 ((Says C 62 [(D.agg [D.nil, (D.val (Go.Value.int Go.IntKind.i64 (beat)))])] [(D.agg [(D.sl 0 1 []), (D.val (Go.Value.int Go.IntKind.i64 (beat)))])]) ∧
 ((((Go.Value.int Go.IntKind.i64 (d)) = (Go.Value.int Go.IntKind.i64 (d))) ∧
 (((Go.Value.pointer (Option.some (Go.Addr.mk 1001 3 Option.none))) = (Go.Value.pointer (Option.some (Go.Addr.mk 1001 3 Option.none)))) ∧
 True)) ∧
 (∃ n7 : Int,
 (∃ n8 : Int,
 ((Says C 65 [(D.agg [(D.sl 0 1 []), (D.val (Go.Value.int Go.IntKind.i64 (beat)))]), (D.val (Go.Value.int Go.IntKind.i64 (d)))] [(D.val (Go.Value.int Go.IntKind.i64 (n7))), (D.val (Go.Value.int Go.IntKind.i64 (n8)))]) ∧
 ((((Go.Value.int Go.IntKind.i64 (n8)) = (Go.Value.int Go.IntKind.i64 (n8))) ∧
 (((Go.Value.int Go.IntKind.i64 (n7)) = (Go.Value.int Go.IntKind.i64 (n7))) ∧
 (((Go.Value.tuple [(Go.Value.int Go.IntKind.i64 (n7)), (Go.Value.int Go.IntKind.i64 (n8))].toArray) = (Go.Value.tuple [(Go.Value.int Go.IntKind.i64 (n7)), (Go.Value.int Go.IntKind.i64 (n8))].toArray)) ∧
 (((Go.Value.pointer (Option.some (Go.Addr.mk 1001 3 Option.none))) = (Go.Value.pointer (Option.some (Go.Addr.mk 1001 3 Option.none)))) ∧
 True)))) ∧
 ((((Go.Value.int Go.IntKind.i64 (n8)) = (Go.Value.int Go.IntKind.i64 (n8))) ∧
 True) ∧
 (True ∧
 (∃ n9 : Int,
 (∃ n10 : Int,
 ((Says C 66 [(D.agg [D.nil, (D.val (Go.Value.int Go.IntKind.i64 (beat)))])] [(D.val (Go.Value.int Go.IntKind.i64 (n9))), (D.val (Go.Value.int Go.IntKind.i64 (n10)))]) ∧
 (bcase (n2 != n10)
 (k [(D.val (Go.Value.bool false))])
 (bcase (n1 != n9)
 (k [(D.val (Go.Value.bool false))])
 (bcase (n10 != 0)
 (bcase (n4 == n10)
 (bcase (n6 == n10)
 (bcase (n8 == n10)
 (bcase ((↑n3 : Int) == 0)
 (bcase (n5 == 0)
 (bcase (n7 == 0)
 (k [(D.val (Go.Value.bool true))])
 (k [(D.val (Go.Value.bool false))]))
 (k [(D.val (Go.Value.bool false))]))
 (k [(D.val (Go.Value.bool false))]))
 (k [(D.val (Go.Value.bool false))]))
 (k [(D.val (Go.Value.bool false))]))
 (k [(D.val (Go.Value.bool false))]))
 ((∃ n11 : Int,
 ((Says C 67 [(D.agg [D.nil, (D.val (Go.Value.int Go.IntKind.i64 (beat)))]), D.nil] [D.nil, (D.val (Go.Value.int Go.IntKind.i64 (n11)))]) ∧
 (∃ n12 : Int,
 (∃ n13 : Int,
 ((Says C 68 [(D.agg [D.nil, (D.val (Go.Value.int Go.IntKind.i64 (beat)))]), (D.val (Go.Value.int Go.IntKind.i64 (ch))), (D.val (Go.Value.int Go.IntKind.i64 (tk)))] [(D.val (Go.Value.int Go.IntKind.i64 (n12))), (D.val (Go.Value.int Go.IntKind.i64 (n13)))]) ∧
 (∃ n14 : Int,
 (∃ n15 : Int,
 ((Says C 69 [(D.agg [D.nil, (D.val (Go.Value.int Go.IntKind.i64 (beat)))]), (D.val (Go.Value.int Go.IntKind.i64 (d)))] [(D.val (Go.Value.int Go.IntKind.i64 (n14))), (D.val (Go.Value.int Go.IntKind.i64 (n15)))]) ∧
 (bcase (n4 == n11)
 (bcase (decide (0 + n3 * 2 ≤ List.length cs1))
 (((Says C 70 [(D.sl (n3) 2 (List.take (n3 * 2) (List.drop 0 cs1))), D.nil] [(D.val (Go.Value.bool true))]) ∧
 (bcase (n6 == n13)
 (bcase (n5 == n12)
 (bcase (n8 == n15)
 (bcase (n7 == n14)
 (k [(D.val (Go.Value.bool true))])
 (k [(D.val (Go.Value.bool false))]))
 (k [(D.val (Go.Value.bool false))]))
 (k [(D.val (Go.Value.bool false))]))
 (k [(D.val (Go.Value.bool false))]))) ∨
 ((Says C 70 [(D.sl (n3) 2 (List.take (n3 * 2) (List.drop 0 cs1))), D.nil] [(D.val (Go.Value.bool false))]) ∧
 (k [(D.val (Go.Value.bool false))])))
 False)
 (k [(D.val (Go.Value.bool false))])))))))))) ∨
 (∃ n11 : Nat,
 (∃ cs2 : List Go.Value,
 (∃ n12 : Int,
 ((Says C 67 [(D.agg [D.nil, (D.val (Go.Value.int Go.IntKind.i64 (beat)))]), D.nil] [(D.sl (n11) 2 (cs2)), (D.val (Go.Value.int Go.IntKind.i64 (n12)))]) ∧
 (∃ n13 : Int,
 (∃ n14 : Int,
 ((Says C 68 [(D.agg [D.nil, (D.val (Go.Value.int Go.IntKind.i64 (beat)))]), (D.val (Go.Value.int Go.IntKind.i64 (ch))), (D.val (Go.Value.int Go.IntKind.i64 (tk)))] [(D.val (Go.Value.int Go.IntKind.i64 (n13))), (D.val (Go.Value.int Go.IntKind.i64 (n14)))]) ∧
 (∃ n15 : Int,
 (∃ n16 : Int,
 ((Says C 69 [(D.agg [D.nil, (D.val (Go.Value.int Go.IntKind.i64 (beat)))]), (D.val (Go.Value.int Go.IntKind.i64 (d)))] [(D.val (Go.Value.int Go.IntKind.i64 (n15))), (D.val (Go.Value.int Go.IntKind.i64 (n16)))]) ∧
 (bcase (n4 == n12)
 (bcase (decide (0 + n3 * 2 ≤ List.length cs1))
 (bcase (decide (0 + n11 * 2 ≤ List.length cs2))
 (((Says C 70 [(D.sl (n3) 2 (List.take (n3 * 2) (List.drop 0 cs1))), (D.sl (n11) 2 (List.take (n11 * 2) (List.drop 0 cs2)))] [(D.val (Go.Value.bool true))]) ∧
 (bcase (n6 == n14)
 (bcase (n5 == n13)
 (bcase (n8 == n16)
 (bcase (n7 == n15)
 (k [(D.val (Go.Value.bool true))])
 (k [(D.val (Go.Value.bool false))]))
 (k [(D.val (Go.Value.bool false))]))
 (k [(D.val (Go.Value.bool false))]))
 (k [(D.val (Go.Value.bool false))]))) ∨
 ((Says C 70 [(D.sl (n3) 2 (List.take (n3 * 2) (List.drop 0 cs1))), (D.sl (n11) 2 (List.take (n11 * 2) (List.drop 0 cs2)))] [(D.val (Go.Value.bool false))]) ∧
 (k [(D.val (Go.Value.bool false))])))
 False)
 False)
 (k [(D.val (Go.Value.bool false))]))))))))))))))))))))))))))))))))))))))))))))))))))))))) ∨
 ((Says C 14 [] [(D.val (Go.Value.bool false))]) ∧
 (k [(D.val (Go.Value.bool false))]))) := by kernel_rfl
end Go.Proofs.B
