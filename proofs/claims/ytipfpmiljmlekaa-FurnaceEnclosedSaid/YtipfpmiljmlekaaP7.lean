/- Texts of the proof, put together: GjTK4, G2J, GjJEL, GjJEL2, GjJEK. -/
import Derived.Test.YtipfpmiljmlekaaP5
import Derived.Test.YtipfpmiljmlekaaP6
import Derived.Test.YtipfpmiljmlekaaP4
/- What is left to show of each function, written out; the kernel reckons it. -/
namespace Go.Proofs.G5j
open Go Go.Abs Go.Proofs
set_option maxRecDepth 100000
set_option linter.unusedVariables false
def gN (C : Ct) (L : AtLoop) (n0 : Nat) (c0 : Nat) (l0 : List Value) (x1 : Int) (x2 : Int) (x3 : Int) (n4 : Nat) (c4 : Nat) (l4 : List Value) (x5 : Int) (n6 : Nat) (c6 : Nat) (l6 : List Value) (n7 : Nat) (c7 : Nat) (l7 : List Value) (k : List D → Prop) : Prop := jFn Try.prog (hL C) L [] 3 #[.agg #[.slice (some ⟨500, 0, none⟩) n0 c0, .int .i64 x1, .int .i64 x2, .int .i64 x3], .agg #[.slice (some ⟨501, 0, none⟩) n4 c4, .int .i64 x5], .agg #[.slice (some ⟨502, 0, none⟩) n6 c6, .slice (some ⟨503, 0, none⟩) n7 c7]] (heapOf [(500, .sym l0 false 2), (501, .sym l4 false 1), (502, .sym l6 false 2), (503, .sym l7 false 1)]) (dataK k)
theorem gN_text (C : Ct) (L : AtLoop) (n0 : Nat) (c0 : Nat) (l0 : List Go.Value) (x1 : Int) (x2 : Int) (x3 : Int) (n4 : Nat) (c4 : Nat) (l4 : List Go.Value) (x5 : Int) (n6 : Nat) (c6 : Nat) (l6 : List Go.Value) (n7 : Nat) (c7 : Nat) (l7 : List Go.Value) (k : List D → Prop) : gN C L n0 c0 l0 x1 x2 x3 n4 c4 l4 x5 n6 c6 l6 n7 c7 l7 k =
 (((Says C 5 [] kT) ∧
 (bcase (decide ((↑n0 : Int) ≤ 12))
 (bcase (decide ((↑n4 : Int) ≤ 10))
 (bcase (dL n0 2 l0)
 (bcase (dL n4 1 l4)
 (∃ n1 : Int,
 ((Says C 7 [(D.agg [(Dw n0 2 l0), (dI x1), (dI x2), (dI x3)]), (D.agg [(Dw n4 1 l4), (dI x5)])] [(dI n1)]) ∧
 (bcase (n1 != 0)
 (k kT)
 (bcase ((↑n6 : Int) == 0)
 (k kT)
 (bcase (decide ((↑n6 : Int) > 5))
 (k kT)
 (bcase (dL n6 2 l6)
 (∃ n2 : Int,
 ((Says C 8 [(Dw n6 2 l6)] [(dI n2)]) ∧
 (bcase (n2 != 0)
 (k kT)
 (bcase ((↑n7 : Int) == 0)
 (k kT)
 (bcase (decide ((↑n7 : Int) > 60))
 (k kT)
 (L 0 [(Prod.mk 3 (Pt 1000 0)), (Prod.mk 4 (Pt 1001 0)), (Prod.mk 5 (Pt 1002 0)), (Prod.mk 7 (vI 0)), (Prod.mk 8 (vI 0))] [(Prod.mk 1000 (AObj.cells [(Sl 500 (n0) (c0)), (vI x1), (vI x2), (vI x3)] 28 false 1)), (Prod.mk 1001 (AObj.cells [(Sl 501 (n4) (c4)), (vI x5)] 31 false 1)), (Prod.mk 1002 (AObj.cells [(Sl 502 (n6) (c6)), (Sl 503 (n7) (c7))] 34 false 1)), (Prod.mk 500 (AObj.sym (l0) false 2)), (Prod.mk 501 (AObj.sym (l4) false 1)), (Prod.mk 502 (AObj.sym (l6) false 2)), (Prod.mk 503 (AObj.sym (l7) false 1))]))))))
 False))))))
 False)
 False)
 (k kT))
 (k kT))) ∨
 ((Says C 5 [] kF) ∧
 (k kF))) := by kernel_rfl
abbrev zN1 (x0 : Int) (x1 : Int) (n2 : Nat) (c3 : Nat) (x4 : Int) (x5 : Int) (x6 : Int) (n7 : Nat) (c8 : Nat) (x9 : Int) (n10 : Nat) (c11 : Nat) (n12 : Nat) (c13 : Nat) (l14 : List Value) (l15 : List Value) (l16 : List Value) (l17 : List Value) : Slots × Blocks := ([(3, (Value.pointer (some ⟨1000, 0, none⟩))), (4, (Value.pointer (some ⟨1001, 0, none⟩))), (5, (Value.pointer (some ⟨1002, 0, none⟩))), (7, (Value.int .i64 x0)), (8, (Value.int .i64 x1))], [(1000, (AObj.cells [(Value.slice (some ⟨500, 0, none⟩) n2 c3), (Value.int .i64 x4), (Value.int .i64 x5), (Value.int .i64 x6)] 28 false 1)), (1001, (AObj.cells [(Value.slice (some ⟨501, 0, none⟩) n7 c8), (Value.int .i64 x9)] 31 false 1)), (1002, (AObj.cells [(Value.slice (some ⟨502, 0, none⟩) n10 c11), (Value.slice (some ⟨503, 0, none⟩) n12 c13)] 34 false 1)), (500, (AObj.sym l14 false 2)), (501, (AObj.sym l15 false 1)), (502, (AObj.sym l16 false 2)), (503, (AObj.sym l17 false 1))])
def rN1 (C : Ct) (L : AtLoop) (x0 : Int) (x1 : Int) (n2 : Nat) (c3 : Nat) (x4 : Int) (x5 : Int) (x6 : Int) (n7 : Nat) (c8 : Nat) (x9 : Int) (n10 : Nat) (c11 : Nat) (n12 : Nat) (c13 : Nat) (l14 : List Value) (l15 : List Value) (l16 : List Value) (l17 : List Value) (B : Bx) (X : Xx) (k : List D → Prop) : Prop := jRound Try.prog (hL C) L [] 3 0 [(3, (Value.pointer (some ⟨1000, 0, none⟩))), (4, (Value.pointer (some ⟨1001, 0, none⟩))), (5, (Value.pointer (some ⟨1002, 0, none⟩))), (7, (Value.int .i64 x0)), (8, (Value.int .i64 x1))] [(1000, (AObj.cells [(Value.slice (some ⟨500, 0, none⟩) n2 c3), (Value.int .i64 x4), (Value.int .i64 x5), (Value.int .i64 x6)] 28 false 1)), (1001, (AObj.cells [(Value.slice (some ⟨501, 0, none⟩) n7 c8), (Value.int .i64 x9)] 31 false 1)), (1002, (AObj.cells [(Value.slice (some ⟨502, 0, none⟩) n10 c11), (Value.slice (some ⟨503, 0, none⟩) n12 c13)] 34 false 1)), (500, (AObj.sym l14 false 2)), (501, (AObj.sym l15 false 1)), (502, (AObj.sym l16 false 2)), (503, (AObj.sym l17 false 1))] B X (dataK k)
theorem rN1_text (C : Ct) (L : AtLoop) (x0 : Int) (x1 : Int) (n2 : Nat) (c3 : Nat) (x4 : Int) (x5 : Int) (x6 : Int) (n7 : Nat) (c8 : Nat) (x9 : Int) (n10 : Nat) (c11 : Nat) (n12 : Nat) (c13 : Nat) (l14 : List Go.Value) (l15 : List Go.Value) (l16 : List Go.Value) (l17 : List Go.Value) (B : Bx) (X : Xx) (k : List D → Prop) : rN1 C L x0 x1 n2 c3 x4 x5 x6 n7 c8 x9 n10 c11 n12 c13 l14 l15 l16 l17 B X k =
 (bcase (decide (x1 < (↑n10 : Int)))
 (bcase (decide (0 ≤ x1))
 (bcase (decide (x1 < (↑n10 : Int)))
 (∃ n1 : Int,
 ((At (l16) (Addr.off { block := 502, off := 0 + Int.toNat x1 * 2 } + 1) 1 [(vI n1)]) ∧
 (B [(Prod.mk 3 (Pt 1000 0)), (Prod.mk 4 (Pt 1001 0)), (Prod.mk 5 (Pt 1002 0)), (Prod.mk 7 (vI (IntKind.wrap .i64 (x0 + n1)))), (Prod.mk 8 (vI (IntKind.wrap .i64 (x1 + 1))))] [(Prod.mk 1000 (AObj.cells [(Sl 500 (n2) (c3)), (vI x4), (vI x5), (vI x6)] 28 false 1)), (Prod.mk 1001 (AObj.cells [(Sl 501 (n7) (c8)), (vI x9)] 31 false 1)), (Prod.mk 1002 (AObj.cells [(Sl 502 (n10) (c11)), (Sl 503 (n12) (c13))] 34 false 1)), (Prod.mk 500 (AObj.sym (l14) false 2)), (Prod.mk 501 (AObj.sym (l15) false 1)), (Prod.mk 502 (AObj.sym (l16) false 2)), (Prod.mk 503 (AObj.sym (l17) false 1))])))
 False)
 False)
 (X 0 [(Prod.mk 3 (Pt 1000 0)), (Prod.mk 4 (Pt 1001 0)), (Prod.mk 5 (Pt 1002 0)), (Prod.mk 7 (vI x0))] [(Prod.mk 1000 (AObj.cells [(Sl 500 (n2) (c3)), (vI x4), (vI x5), (vI x6)] 28 false 1)), (Prod.mk 1001 (AObj.cells [(Sl 501 (n7) (c8)), (vI x9)] 31 false 1)), (Prod.mk 1002 (AObj.cells [(Sl 502 (n10) (c11)), (Sl 503 (n12) (c13))] 34 false 1)), (Prod.mk 500 (AObj.sym (l14) false 2)), (Prod.mk 501 (AObj.sym (l15) false 1)), (Prod.mk 502 (AObj.sym (l16) false 2)), (Prod.mk 503 (AObj.sym (l17) false 1))])) := by kernel_rfl
def nN2 (C : Ct) (L : AtLoop) (x0 : Int) (n1 : Nat) (c2 : Nat) (x3 : Int) (x4 : Int) (x5 : Int) (n6 : Nat) (c7 : Nat) (x8 : Int) (n9 : Nat) (c10 : Nat) (n11 : Nat) (c12 : Nat) (l13 : List Value) (l14 : List Value) (l15 : List Value) (l16 : List Value) (k : List D → Prop) : Prop := jNext Try.prog (hL C) L [] 3 0 .normal [(3, (Value.pointer (some ⟨1000, 0, none⟩))), (4, (Value.pointer (some ⟨1001, 0, none⟩))), (5, (Value.pointer (some ⟨1002, 0, none⟩))), (7, (Value.int .i64 x0))] [(1000, (AObj.cells [(Value.slice (some ⟨500, 0, none⟩) n1 c2), (Value.int .i64 x3), (Value.int .i64 x4), (Value.int .i64 x5)] 28 false 1)), (1001, (AObj.cells [(Value.slice (some ⟨501, 0, none⟩) n6 c7), (Value.int .i64 x8)] 31 false 1)), (1002, (AObj.cells [(Value.slice (some ⟨502, 0, none⟩) n9 c10), (Value.slice (some ⟨503, 0, none⟩) n11 c12)] 34 false 1)), (500, (AObj.sym l13 false 2)), (501, (AObj.sym l14 false 1)), (502, (AObj.sym l15 false 2)), (503, (AObj.sym l16 false 1))] (dataK k)
theorem nN2_text (C : Ct) (L : AtLoop) (x0 : Int) (n1 : Nat) (c2 : Nat) (x3 : Int) (x4 : Int) (x5 : Int) (n6 : Nat) (c7 : Nat) (x8 : Int) (n9 : Nat) (c10 : Nat) (n11 : Nat) (c12 : Nat) (l13 : List Go.Value) (l14 : List Go.Value) (l15 : List Go.Value) (l16 : List Go.Value) (k : List D → Prop) : nN2 C L x0 n1 c2 x3 x4 x5 n6 c7 x8 n9 c10 n11 c12 l13 l14 l15 l16 k =
 (bcase (decide (x0 > 40))
 (k kT)
 (bcase (dL n6 1 l14)
 ((Says C 9 [(D.agg [(Dw n6 1 l14), (dI x8)])] [(D.agg [(Dw n6 1 l14), (dI x8)])]) ∧
 (L 2 [(Prod.mk 3 (Pt 1000 0)), (Prod.mk 4 (Pt 1001 0)), (Prod.mk 5 (Pt 1002 0)), (Prod.mk 9 (Pt 1003 0)), (Prod.mk 10 (vI 0)), (Prod.mk 11 (vI 0))] [(Prod.mk 1000 (AObj.cells [(Sl 500 (n1) (c2)), (vI x3), (vI x4), (vI x5)] 28 false 1)), (Prod.mk 1001 (AObj.cells [(Sl 501 (n6) (c7)), (vI x8)] 31 false 1)), (Prod.mk 1002 (AObj.cells [(Sl 502 (n9) (c10)), (Sl 503 (n11) (c12))] 34 false 1)), (Prod.mk 1003 (AObj.cells [(Sl 1004 (n6) (n6)), (vI x8)] 31 false 2)), (Prod.mk 500 (AObj.sym (l13) false 2)), (Prod.mk 501 (AObj.sym (l14) false 1)), (Prod.mk 502 (AObj.sym (l15) false 2)), (Prod.mk 503 (AObj.sym (l16) false 1)), (Prod.mk 1004 (AObj.sym (Tk n6 1 l14) true 1))]))
 False)) := by kernel_rfl
abbrev zN3 (x0 : Int) (x1 : Int) (n2 : Nat) (c3 : Nat) (x4 : Int) (x5 : Int) (x6 : Int) (n7 : Nat) (c8 : Nat) (x9 : Int) (n10 : Nat) (c11 : Nat) (n12 : Nat) (c13 : Nat) (n14 : Nat) (x15 : Int) (l16 : List Value) (l17 : List Value) (l18 : List Value) (l19 : List Value) (l20 : List Value) : Slots × Blocks := ([(3, (Value.pointer (some ⟨1000, 0, none⟩))), (4, (Value.pointer (some ⟨1001, 0, none⟩))), (5, (Value.pointer (some ⟨1002, 0, none⟩))), (9, (Value.pointer (some ⟨1003, 0, none⟩))), (10, (Value.int .i64 x0)), (11, (Value.int .i64 x1))], [(1000, (AObj.cells [(Value.slice (some ⟨500, 0, none⟩) n2 c3), (Value.int .i64 x4), (Value.int .i64 x5), (Value.int .i64 x6)] 28 false 1)), (1001, (AObj.cells [(Value.slice (some ⟨501, 0, none⟩) n7 c8), (Value.int .i64 x9)] 31 false 1)), (1002, (AObj.cells [(Value.slice (some ⟨502, 0, none⟩) n10 c11), (Value.slice (some ⟨503, 0, none⟩) n12 c13)] 34 false 1)), (1003, (AObj.cells [(Value.slice (some ⟨1004, 0, none⟩) n14 n14), (Value.int .i64 x15)] 31 false 2)), (500, (AObj.sym l16 false 2)), (501, (AObj.sym l17 false 1)), (502, (AObj.sym l18 false 2)), (503, (AObj.sym l19 false 1)), (1004, (AObj.sym l20 true 1))])
def rN3 (C : Ct) (L : AtLoop) (x0 : Int) (x1 : Int) (n2 : Nat) (c3 : Nat) (x4 : Int) (x5 : Int) (x6 : Int) (n7 : Nat) (c8 : Nat) (x9 : Int) (n10 : Nat) (c11 : Nat) (n12 : Nat) (c13 : Nat) (n14 : Nat) (x15 : Int) (l16 : List Value) (l17 : List Value) (l18 : List Value) (l19 : List Value) (l20 : List Value) (B : Bx) (X : Xx) (k : List D → Prop) : Prop := jRound Try.prog (hL C) L [] 3 2 [(3, (Value.pointer (some ⟨1000, 0, none⟩))), (4, (Value.pointer (some ⟨1001, 0, none⟩))), (5, (Value.pointer (some ⟨1002, 0, none⟩))), (9, (Value.pointer (some ⟨1003, 0, none⟩))), (10, (Value.int .i64 x0)), (11, (Value.int .i64 x1))] [(1000, (AObj.cells [(Value.slice (some ⟨500, 0, none⟩) n2 c3), (Value.int .i64 x4), (Value.int .i64 x5), (Value.int .i64 x6)] 28 false 1)), (1001, (AObj.cells [(Value.slice (some ⟨501, 0, none⟩) n7 c8), (Value.int .i64 x9)] 31 false 1)), (1002, (AObj.cells [(Value.slice (some ⟨502, 0, none⟩) n10 c11), (Value.slice (some ⟨503, 0, none⟩) n12 c13)] 34 false 1)), (1003, (AObj.cells [(Value.slice (some ⟨1004, 0, none⟩) n14 n14), (Value.int .i64 x15)] 31 false 2)), (500, (AObj.sym l16 false 2)), (501, (AObj.sym l17 false 1)), (502, (AObj.sym l18 false 2)), (503, (AObj.sym l19 false 1)), (1004, (AObj.sym l20 true 1))] B X (dataK k)
theorem rN3_text (C : Ct) (L : AtLoop) (x0 : Int) (x1 : Int) (n2 : Nat) (c3 : Nat) (x4 : Int) (x5 : Int) (x6 : Int) (n7 : Nat) (c8 : Nat) (x9 : Int) (n10 : Nat) (c11 : Nat) (n12 : Nat) (c13 : Nat) (n14 : Nat) (x15 : Int) (l16 : List Go.Value) (l17 : List Go.Value) (l18 : List Go.Value) (l19 : List Go.Value) (l20 : List Go.Value) (B : Bx) (X : Xx) (k : List D → Prop) : rN3 C L x0 x1 n2 c3 x4 x5 x6 n7 c8 x9 n10 c11 n12 c13 n14 x15 l16 l17 l18 l19 l20 B X k =
 (bcase (decide (x1 < (↑n10 : Int)))
 (L 4 [(Prod.mk 3 (Pt 1000 0)), (Prod.mk 4 (Pt 1001 0)), (Prod.mk 5 (Pt 1002 0)), (Prod.mk 9 (Pt 1003 0)), (Prod.mk 10 (vI x0)), (Prod.mk 11 (vI x1)), (Prod.mk 12 (vI 0))] [(Prod.mk 1000 (AObj.cells [(Sl 500 (n2) (c3)), (vI x4), (vI x5), (vI x6)] 28 false 1)), (Prod.mk 1001 (AObj.cells [(Sl 501 (n7) (c8)), (vI x9)] 31 false 1)), (Prod.mk 1002 (AObj.cells [(Sl 502 (n10) (c11)), (Sl 503 (n12) (c13))] 34 false 1)), (Prod.mk 1003 (AObj.cells [(Sl 1004 (n14) (n14)), (vI x15)] 31 false 2)), (Prod.mk 500 (AObj.sym (l16) false 2)), (Prod.mk 501 (AObj.sym (l17) false 1)), (Prod.mk 502 (AObj.sym (l18) false 2)), (Prod.mk 503 (AObj.sym (l19) false 1)), (Prod.mk 1004 (AObj.sym (l20) true 1))])
 (X 2 [(Prod.mk 3 (Pt 1000 0)), (Prod.mk 4 (Pt 1001 0)), (Prod.mk 5 (Pt 1002 0)), (Prod.mk 9 (Pt 1003 0))] [(Prod.mk 1000 (AObj.cells [(Sl 500 (n2) (c3)), (vI x4), (vI x5), (vI x6)] 28 false 1)), (Prod.mk 1001 (AObj.cells [(Sl 501 (n7) (c8)), (vI x9)] 31 false 1)), (Prod.mk 1002 (AObj.cells [(Sl 502 (n10) (c11)), (Sl 503 (n12) (c13))] 34 false 1)), (Prod.mk 1003 (AObj.cells [(Sl 1004 (n14) (n14)), (vI x15)] 31 false 2)), (Prod.mk 500 (AObj.sym (l16) false 2)), (Prod.mk 501 (AObj.sym (l17) false 1)), (Prod.mk 502 (AObj.sym (l18) false 2)), (Prod.mk 503 (AObj.sym (l19) false 1)), (Prod.mk 1004 (AObj.sym (l20) true 1))])) := by kernel_rfl
abbrev zN4 (x0 : Int) (x1 : Int) (x2 : Int) (n3 : Nat) (c4 : Nat) (x5 : Int) (x6 : Int) (x7 : Int) (n8 : Nat) (c9 : Nat) (x10 : Int) (n11 : Nat) (c12 : Nat) (n13 : Nat) (c14 : Nat) (n15 : Nat) (x16 : Int) (l17 : List Value) (l18 : List Value) (l19 : List Value) (l20 : List Value) (l21 : List Value) : Slots × Blocks := ([(3, (Value.pointer (some ⟨1000, 0, none⟩))), (4, (Value.pointer (some ⟨1001, 0, none⟩))), (5, (Value.pointer (some ⟨1002, 0, none⟩))), (9, (Value.pointer (some ⟨1003, 0, none⟩))), (10, (Value.int .i64 x0)), (11, (Value.int .i64 x1)), (12, (Value.int .i64 x2))], [(1000, (AObj.cells [(Value.slice (some ⟨500, 0, none⟩) n3 c4), (Value.int .i64 x5), (Value.int .i64 x6), (Value.int .i64 x7)] 28 false 1)), (1001, (AObj.cells [(Value.slice (some ⟨501, 0, none⟩) n8 c9), (Value.int .i64 x10)] 31 false 1)), (1002, (AObj.cells [(Value.slice (some ⟨502, 0, none⟩) n11 c12), (Value.slice (some ⟨503, 0, none⟩) n13 c14)] 34 false 1)), (1003, (AObj.cells [(Value.slice (some ⟨1004, 0, none⟩) n15 n15), (Value.int .i64 x16)] 31 false 2)), (500, (AObj.sym l17 false 2)), (501, (AObj.sym l18 false 1)), (502, (AObj.sym l19 false 2)), (503, (AObj.sym l20 false 1)), (1004, (AObj.sym l21 true 1))])
def rN4 (C : Ct) (L : AtLoop) (x0 : Int) (x1 : Int) (x2 : Int) (n3 : Nat) (c4 : Nat) (x5 : Int) (x6 : Int) (x7 : Int) (n8 : Nat) (c9 : Nat) (x10 : Int) (n11 : Nat) (c12 : Nat) (n13 : Nat) (c14 : Nat) (n15 : Nat) (x16 : Int) (l17 : List Value) (l18 : List Value) (l19 : List Value) (l20 : List Value) (l21 : List Value) (B : Bx) (X : Xx) (k : List D → Prop) : Prop := jRound2 Try.prog (hL C) L [] 3 2 4 [(3, (Value.pointer (some ⟨1000, 0, none⟩))), (4, (Value.pointer (some ⟨1001, 0, none⟩))), (5, (Value.pointer (some ⟨1002, 0, none⟩))), (9, (Value.pointer (some ⟨1003, 0, none⟩))), (10, (Value.int .i64 x0)), (11, (Value.int .i64 x1)), (12, (Value.int .i64 x2))] [(1000, (AObj.cells [(Value.slice (some ⟨500, 0, none⟩) n3 c4), (Value.int .i64 x5), (Value.int .i64 x6), (Value.int .i64 x7)] 28 false 1)), (1001, (AObj.cells [(Value.slice (some ⟨501, 0, none⟩) n8 c9), (Value.int .i64 x10)] 31 false 1)), (1002, (AObj.cells [(Value.slice (some ⟨502, 0, none⟩) n11 c12), (Value.slice (some ⟨503, 0, none⟩) n13 c14)] 34 false 1)), (1003, (AObj.cells [(Value.slice (some ⟨1004, 0, none⟩) n15 n15), (Value.int .i64 x16)] 31 false 2)), (500, (AObj.sym l17 false 2)), (501, (AObj.sym l18 false 1)), (502, (AObj.sym l19 false 2)), (503, (AObj.sym l20 false 1)), (1004, (AObj.sym l21 true 1))] B X (dataK k)
theorem rN4_text (C : Ct) (L : AtLoop) (x0 : Int) (x1 : Int) (x2 : Int) (n3 : Nat) (c4 : Nat) (x5 : Int) (x6 : Int) (x7 : Int) (n8 : Nat) (c9 : Nat) (x10 : Int) (n11 : Nat) (c12 : Nat) (n13 : Nat) (c14 : Nat) (n15 : Nat) (x16 : Int) (l17 : List Go.Value) (l18 : List Go.Value) (l19 : List Go.Value) (l20 : List Go.Value) (l21 : List Go.Value) (B : Bx) (X : Xx) (k : List D → Prop) : rN4 C L x0 x1 x2 n3 c4 x5 x6 x7 n8 c9 x10 n11 c12 n13 c14 n15 x16 l17 l18 l19 l20 l21 B X k =
 (bcase (decide (0 ≤ x1))
 (bcase (decide (x1 < (↑n11 : Int)))
 (∃ n1 : Int,
 ((At (l19) (Addr.off { block := 502, off := 0 + Int.toNat x1 * 2 } + 1) 1 [(vI n1)]) ∧
 (bcase (decide (x2 < n1))
 (bcase ((↑n13 : Int) != 0)
 (bcase (decide (0 ≤ Int.tmod x0 (↑n13 : Int)))
 (bcase (decide (Int.tmod x0 (↑n13 : Int) < (↑n13 : Int)))
 (∃ n2 : Int,
 ((At (l20) (0 + Int.toNat (Int.tmod x0 (↑n13 : Int)) * 1) 1 [(vI n2)]) ∧
 (((Qv (vI (IntKind.wrap .i64 (IntKind.wrap .i64 (x7 - x6) + 1)))) ∧
 ((Qv (vI (IntKind.wrap .i64 (x7 - x6)))) ∧
 ((Qv (vI x6)) ∧
 ((Qv (Pt 1000 2)) ∧
 ((Qv (Pt 1000 2)) ∧
 ((Qv (vI x7)) ∧
 ((Qv (Pt 1000 3)) ∧
 ((Qv (Pt 1000 2)) ∧
 ((∃ n4 : Int,
 ((At (l20) (0 + Int.toNat (Int.tmod x0 (↑n13 : Int)) * 1) 1 [(vI n4)]) ∧
 ((vI n4) = (vI n2)))) ∧
 ((bcase (decide (0 ≤ Int.tmod x0 (↑n13 : Int)))
 (bcase (decide (Int.tmod x0 (↑n13 : Int) < (↑n13 : Int)))
 (Qv (Pt 503 (0 + Int.toNat (Int.tmod x0 (↑n13 : Int)) * 1)))
 False)
 False) ∧
 ((bcase ((↑n13 : Int) != 0)
 (Qv (vI (Int.tmod x0 (↑n13 : Int))))
 False) ∧
 ((Qv (vI ((↑n13 : Int)))) ∧
 ((Qv (Sl 503 (n13) (c14))) ∧
 ((Qv (Pt 1002 1)) ∧
 ((Qv (vI x0)) ∧
 ((Qv (Sl 503 (n13) (c14))) ∧
 ((Qv (Pt 1002 1)) ∧
 ((Qv (vI x6)) ∧
 ((Qv (Pt 1000 2)) ∧
 ((Qv (Pt 1000 2)) ∧
 True)))))))))))))))))))) ∧
 (∃ n4 : Int,
 ((Says C 10 [(dI n2), (D.val (vI (IntKind.wrap .i64 (IntKind.wrap .i64 (x7 - x6) + 1))))] [(dI n4)]) ∧
 (((Qv (vI (IntKind.wrap .i64 (x6 + n4)))) ∧
 ((Qv (vI (IntKind.wrap .i64 (x7 - x6)))) ∧
 ((Qv (vI x6)) ∧
 ((Qv (Pt 1000 2)) ∧
 ((Qv (Pt 1000 2)) ∧
 ((Qv (vI x7)) ∧
 ((Qv (Pt 1000 3)) ∧
 ((Qv (Pt 1000 2)) ∧
 ((bcase (decide (0 ≤ Int.tmod x0 (↑n13 : Int)))
 (bcase (decide (Int.tmod x0 (↑n13 : Int) < (↑n13 : Int)))
 (Qv (Pt 503 (0 + Int.toNat (Int.tmod x0 (↑n13 : Int)) * 1)))
 False)
 False) ∧
 ((bcase ((↑n13 : Int) != 0)
 (Qv (vI (Int.tmod x0 (↑n13 : Int))))
 False) ∧
 ((Qv (vI ((↑n13 : Int)))) ∧
 ((Qv (Sl 503 (n13) (c14))) ∧
 ((Qv (Pt 1002 1)) ∧
 ((Qv (vI x0)) ∧
 ((Qv (Sl 503 (n13) (c14))) ∧
 ((Qv (Pt 1002 1)) ∧
 ((Qv (vI x6)) ∧
 ((Qv (Pt 1000 2)) ∧
 ((Qv (Pt 1000 2)) ∧
 True))))))))))))))))))) ∧
 (True ∧
 (bcase (decide (0 ≤ x1))
 (bcase (decide (x1 < (↑n11 : Int)))
 (∃ n5 : Int,
 ((At (l19) (0 + Int.toNat x1 * 2) 1 [(vI n5)]) ∧
 ((((Qv (Pt 1005 0)) ∧
 (Qv (some (AObj.cells [(Value.slice none 0 0), (vI 0)] 31 false 2)))) ∧
 ((Qv (Value.agg [(vI (IntKind.wrap .i64 (x6 + n4))), (vI n5)].toArray)) ∧
 ((∃ n6 : Int,
 ((At (l19) (0 + Int.toNat x1 * 2) 1 [(vI n6)]) ∧
 ((vI n6) = (vI n5)))) ∧
 ((Qv (Pt 502 (0 + Int.toNat x1 * 2))) ∧
 ((bcase (decide (0 ≤ x1))
 (bcase (decide (x1 < (↑n11 : Int)))
 (Qv (Pt 502 (0 + Int.toNat x1 * 2)))
 False)
 False) ∧
 ((Qv (vI x1)) ∧
 ((Qv (Sl 502 (n11) (c12))) ∧
 ((Qv (Pt 1002 0)) ∧
 ((Qv (vI (IntKind.wrap .i64 (x6 + n4)))) ∧
 ((Qv (Value.agg [(Sl 1004 (n15) (n15)), (vI x16)].toArray)) ∧
 ((Qv (Value.agg [(Sl 500 (n3) (c4)), (vI x5), (vI x6), (vI x7)].toArray)) ∧
 True))))))))))) ∧
 (bcase (dL n3 2 l17)
 ((Says C 12 [(D.agg [(Dw n3 2 l17), (dI x5), (dI x6), (dI x7)])] [(D.agg [(Dw n3 2 l17), (dI x5), (dI x6), (dI x7)])]) ∧
 ((((Qv (Pt 1005 0)) ∧
 (Qv (some (AObj.cells [(Value.slice none 0 0), (vI 0)] 31 false 2)))) ∧
 ((Qv (Value.agg [(vI (IntKind.wrap .i64 (x6 + n4))), (vI n5)].toArray)) ∧
 ((∃ n6 : Int,
 ((At (l19) (0 + Int.toNat x1 * 2) 1 [(vI n6)]) ∧
 ((vI n6) = (vI n5)))) ∧
 ((Qv (Pt 502 (0 + Int.toNat x1 * 2))) ∧
 ((bcase (decide (0 ≤ x1))
 (bcase (decide (x1 < (↑n11 : Int)))
 (Qv (Pt 502 (0 + Int.toNat x1 * 2)))
 False)
 False) ∧
 ((Qv (vI x1)) ∧
 ((Qv (Sl 502 (n11) (c12))) ∧
 ((Qv (Pt 1002 0)) ∧
 ((Qv (vI (IntKind.wrap .i64 (x6 + n4)))) ∧
 ((Qv (Value.agg [(Sl 1004 (n15) (n15)), (vI x16)].toArray)) ∧
 True)))))))))) ∧
 (bcase (dL n15 1 l21)
 ((Says C 9 [(D.agg [(Dw n15 1 l21), (dI x16)])] [(D.agg [(Dw n15 1 l21), (dI x16)])]) ∧
 ((((Qv (Pt 1005 0)) ∧
 (Qv (some (AObj.cells [(Value.slice none 0 0), (vI 0)] 31 false 2)))) ∧
 ((Qv (Value.agg [(vI (IntKind.wrap .i64 (x6 + n4))), (vI n5)].toArray)) ∧
 ((∃ n6 : Int,
 ((At (l19) (0 + Int.toNat x1 * 2) 1 [(vI n6)]) ∧
 ((vI n6) = (vI n5)))) ∧
 ((Qv (Pt 502 (0 + Int.toNat x1 * 2))) ∧
 ((bcase (decide (0 ≤ x1))
 (bcase (decide (x1 < (↑n11 : Int)))
 (Qv (Pt 502 (0 + Int.toNat x1 * 2)))
 False)
 False) ∧
 ((Qv (vI x1)) ∧
 ((Qv (Sl 502 (n11) (c12))) ∧
 ((Qv (Pt 1002 0)) ∧
 ((Qv (vI (IntKind.wrap .i64 (x6 + n4)))) ∧
 True))))))))) ∧
 (bcase (dL n3 2 (Tk n3 2 l17))
 (bcase (dL n15 1 (Tk n15 1 l21))
 ((∃ n6 : Int,
 (∃ n7 : Int,
 ((Says C 11 [(D.agg [(Dw n3 2 (Tk n3 2 l17)), (dI x5), (dI x6), (dI x7)]), (D.agg [(Dw n15 1 (Tk n15 1 l21)), (dI x16)]), (D.agg [(D.val (vI (IntKind.wrap .i64 (x6 + n4)))), (dI n5)])] [(D.agg [D.nil, (dI n6)]), (dI n7)]) ∧
 (((Qv (vI n7)) ∧
 ((Qv (Value.agg [(Value.slice none 0 0), (vI n6)].toArray)) ∧
 ((Qv (Value.tuple [(Value.agg [(Value.slice none 0 0), (vI n6)].toArray), (vI n7)].toArray)) ∧
 (((Qv (Pt 1005 0)) ∧
 (Qv (some (AObj.cells [(Value.slice none 0 0), (vI 0)] 31 false 2)))) ∧
 ((∃ n9 : Int,
 ((At (l19) (0 + Int.toNat x1 * 2) 1 [(vI n9)]) ∧
 ((vI n9) = (vI n5)))) ∧
 ((Qv (Pt 502 (0 + Int.toNat x1 * 2))) ∧
 ((bcase (decide (0 ≤ x1))
 (bcase (decide (x1 < (↑n11 : Int)))
 (Qv (Pt 502 (0 + Int.toNat x1 * 2)))
 False)
 False) ∧
 ((Qv (vI x1)) ∧
 ((Qv (Sl 502 (n11) (c12))) ∧
 ((Qv (Pt 1002 0)) ∧
 ((Qv (vI (IntKind.wrap .i64 (x6 + n4)))) ∧
 True))))))))))) ∧
 (((Qv (vI n7)) ∧
 True) ∧
 (True ∧
 (bcase (n7 != 0)
 (k kF)
 (∃ n9 : Int,
 ((Says C 13 [(D.agg [D.nil, (dI n6)])] [(dI n9)]) ∧
 (bcase (n9 != 0)
 (k kF)
 ((Says C 9 [(D.agg [D.nil, (dI n6)])] [(D.agg [(D.sl 0 1 []), (dI n6)])]) ∧
 (B [(Prod.mk 3 (Pt 1000 0)), (Prod.mk 4 (Pt 1001 0)), (Prod.mk 5 (Pt 1002 0)), (Prod.mk 9 (Pt 1003 0)), (Prod.mk 10 (vI (IntKind.wrap .i64 (x0 + 1)))), (Prod.mk 11 (vI x1)), (Prod.mk 12 (vI (IntKind.wrap .i64 (x2 + 1))))] [(Prod.mk 1000 (AObj.cells [(Sl 500 (n3) (c4)), (vI x5), (vI x6), (vI x7)] 28 false 1)), (Prod.mk 1001 (AObj.cells [(Sl 501 (n8) (c9)), (vI x10)] 31 false 1)), (Prod.mk 1002 (AObj.cells [(Sl 502 (n11) (c12)), (Sl 503 (n13) (c14))] 34 false 1)), (Prod.mk 1003 (AObj.cells [(Sl 1004 0 0), (vI n6)] 31 false 2)), (Prod.mk 500 (AObj.sym (l17) false 2)), (Prod.mk 501 (AObj.sym (l18) false 1)), (Prod.mk 502 (AObj.sym (l19) false 2)), (Prod.mk 503 (AObj.sym (l20) false 1)), (Prod.mk 1004 (AObj.sym [] true 1))])))))))))))) ∨
 (∃ n6 : Nat,
 (∃ cs1 : List Go.Value,
 (∃ n7 : Int,
 (∃ n9 : Int,
 ((Says C 11 [(D.agg [(Dw n3 2 (Tk n3 2 l17)), (dI x5), (dI x6), (dI x7)]), (D.agg [(Dw n15 1 (Tk n15 1 l21)), (dI x16)]), (D.agg [(D.val (vI (IntKind.wrap .i64 (x6 + n4)))), (dI n5)])] [(D.agg [(D.sl (n6) 1 (cs1)), (dI n7)]), (dI n9)]) ∧
 (((Qv (vI n9)) ∧
 ((Qv (Value.agg [(Sl 1008 (n6) (n6)), (vI n7)].toArray)) ∧
 ((Qv (Value.tuple [(Value.agg [(Sl 1008 (n6) (n6)), (vI n7)].toArray), (vI n9)].toArray)) ∧
 (((Qv (Pt 1005 0)) ∧
 (Qv (some (AObj.cells [(Value.slice none 0 0), (vI 0)] 31 false 2)))) ∧
 ((∃ n10 : Int,
 ((At (l19) (0 + Int.toNat x1 * 2) 1 [(vI n10)]) ∧
 ((vI n10) = (vI n5)))) ∧
 ((Qv (Pt 502 (0 + Int.toNat x1 * 2))) ∧
 ((bcase (decide (0 ≤ x1))
 (bcase (decide (x1 < (↑n11 : Int)))
 (Qv (Pt 502 (0 + Int.toNat x1 * 2)))
 False)
 False) ∧
 ((Qv (vI x1)) ∧
 ((Qv (Sl 502 (n11) (c12))) ∧
 ((Qv (Pt 1002 0)) ∧
 ((Qv (vI (IntKind.wrap .i64 (x6 + n4)))) ∧
 True))))))))))) ∧
 (((Qv (vI n9)) ∧
 True) ∧
 (True ∧
 (bcase (n9 != 0)
 (k kF)
 (bcase (dL n6 1 cs1)
 (∃ n10 : Int,
 ((Says C 13 [(D.agg [(Dw n6 1 cs1), (dI n7)])] [(dI n10)]) ∧
 (bcase (n10 != 0)
 (k kF)
 (bcase (dL n6 1 cs1)
 ((Says C 9 [(D.agg [(Dw n6 1 cs1), (dI n7)])] [(D.agg [(Dw n6 1 cs1), (dI n7)])]) ∧
 (B [(Prod.mk 3 (Pt 1000 0)), (Prod.mk 4 (Pt 1001 0)), (Prod.mk 5 (Pt 1002 0)), (Prod.mk 9 (Pt 1003 0)), (Prod.mk 10 (vI (IntKind.wrap .i64 (x0 + 1)))), (Prod.mk 11 (vI x1)), (Prod.mk 12 (vI (IntKind.wrap .i64 (x2 + 1))))] [(Prod.mk 1000 (AObj.cells [(Sl 500 (n3) (c4)), (vI x5), (vI x6), (vI x7)] 28 false 1)), (Prod.mk 1001 (AObj.cells [(Sl 501 (n8) (c9)), (vI x10)] 31 false 1)), (Prod.mk 1002 (AObj.cells [(Sl 502 (n11) (c12)), (Sl 503 (n13) (c14))] 34 false 1)), (Prod.mk 1003 (AObj.cells [(Sl 1004 (n6) (n6)), (vI n7)] 31 false 2)), (Prod.mk 500 (AObj.sym (l17) false 2)), (Prod.mk 501 (AObj.sym (l18) false 1)), (Prod.mk 502 (AObj.sym (l19) false 2)), (Prod.mk 503 (AObj.sym (l20) false 1)), (Prod.mk 1004 (AObj.sym (Tk n6 1 cs1) true 1))]))
 False))))
 False)))))))))))
 False)
 False)))
 False)))
 False))))
 False)
 False))))))))
 False)
 False)
 False)
 (X 4 [(Prod.mk 3 (Pt 1000 0)), (Prod.mk 4 (Pt 1001 0)), (Prod.mk 5 (Pt 1002 0)), (Prod.mk 9 (Pt 1003 0)), (Prod.mk 10 (vI x0)), (Prod.mk 11 (vI x1))] [(Prod.mk 1000 (AObj.cells [(Sl 500 (n3) (c4)), (vI x5), (vI x6), (vI x7)] 28 false 1)), (Prod.mk 1001 (AObj.cells [(Sl 501 (n8) (c9)), (vI x10)] 31 false 1)), (Prod.mk 1002 (AObj.cells [(Sl 502 (n11) (c12)), (Sl 503 (n13) (c14))] 34 false 1)), (Prod.mk 1003 (AObj.cells [(Sl 1004 (n15) (n15)), (vI x16)] 31 false 2)), (Prod.mk 500 (AObj.sym (l17) false 2)), (Prod.mk 501 (AObj.sym (l18) false 1)), (Prod.mk 502 (AObj.sym (l19) false 2)), (Prod.mk 503 (AObj.sym (l20) false 1)), (Prod.mk 1004 (AObj.sym (l21) true 1))]))))
 False)
 False) := by kernel_rfl
def nN5 (C : Ct) (L : AtLoop) (n0 : Nat) (c1 : Nat) (x2 : Int) (x3 : Int) (x4 : Int) (n5 : Nat) (c6 : Nat) (x7 : Int) (n8 : Nat) (c9 : Nat) (n10 : Nat) (c11 : Nat) (n12 : Nat) (x13 : Int) (l14 : List Value) (l15 : List Value) (l16 : List Value) (l17 : List Value) (l18 : List Value) (k : List D → Prop) : Prop := jNext Try.prog (hL C) L [] 3 2 .normal [(3, (Value.pointer (some ⟨1000, 0, none⟩))), (4, (Value.pointer (some ⟨1001, 0, none⟩))), (5, (Value.pointer (some ⟨1002, 0, none⟩))), (9, (Value.pointer (some ⟨1003, 0, none⟩)))] [(1000, (AObj.cells [(Value.slice (some ⟨500, 0, none⟩) n0 c1), (Value.int .i64 x2), (Value.int .i64 x3), (Value.int .i64 x4)] 28 false 1)), (1001, (AObj.cells [(Value.slice (some ⟨501, 0, none⟩) n5 c6), (Value.int .i64 x7)] 31 false 1)), (1002, (AObj.cells [(Value.slice (some ⟨502, 0, none⟩) n8 c9), (Value.slice (some ⟨503, 0, none⟩) n10 c11)] 34 false 1)), (1003, (AObj.cells [(Value.slice (some ⟨1004, 0, none⟩) n12 n12), (Value.int .i64 x13)] 31 false 2)), (500, (AObj.sym l14 false 2)), (501, (AObj.sym l15 false 1)), (502, (AObj.sym l16 false 2)), (503, (AObj.sym l17 false 1)), (1004, (AObj.sym l18 true 1))] (dataK k)
theorem nN5_text (C : Ct) (L : AtLoop) (n0 : Nat) (c1 : Nat) (x2 : Int) (x3 : Int) (x4 : Int) (n5 : Nat) (c6 : Nat) (x7 : Int) (n8 : Nat) (c9 : Nat) (n10 : Nat) (c11 : Nat) (n12 : Nat) (x13 : Int) (l14 : List Go.Value) (l15 : List Go.Value) (l16 : List Go.Value) (l17 : List Go.Value) (l18 : List Go.Value) (k : List D → Prop) : nN5 C L n0 c1 x2 x3 x4 n5 c6 x7 n8 c9 n10 c11 n12 x13 l14 l15 l16 l17 l18 k =
 (((Qv (Sl 502 (n8) (c9))) ∧
 ((Qv (Pt 1002 0)) ∧
 ((Qv (Value.agg [(Sl 501 (n5) (c6)), (vI x7)].toArray)) ∧
 ((Qv (Value.agg [(Sl 500 (n0) (c1)), (vI x2), (vI x3), (vI x4)].toArray)) ∧
 True)))) ∧
 (bcase (dL n0 2 l14)
 ((Says C 12 [(D.agg [(Dw n0 2 l14), (dI x2), (dI x3), (dI x4)])] [(D.agg [(Dw n0 2 l14), (dI x2), (dI x3), (dI x4)])]) ∧
 (((Qv (Sl 502 (n8) (c9))) ∧
 ((Qv (Pt 1002 0)) ∧
 ((Qv (Value.agg [(Sl 501 (n5) (c6)), (vI x7)].toArray)) ∧
 True))) ∧
 (bcase (dL n5 1 l15)
 ((Says C 9 [(D.agg [(Dw n5 1 l15), (dI x7)])] [(D.agg [(Dw n5 1 l15), (dI x7)])]) ∧
 (((Qv (Sl 502 (n8) (c9))) ∧
 ((Qv (Pt 1002 0)) ∧
 True)) ∧
 (bcase (dL n8 2 l16)
 ((Says C 15 [(Dw n8 2 l16)] [(Dw n8 2 l16)]) ∧
 (((Qv (Pt 1002 0)) ∧
 True) ∧
 (bcase (dL n0 2 (Tk n0 2 l14))
 (bcase (dL n5 1 (Tk n5 1 l15))
 (bcase (dL n8 2 (Tk n8 2 l16))
 ((∃ n1 : Int,
 ((Says C 14 [(D.agg [(Dw n0 2 (Tk n0 2 l14)), (dI x2), (dI x3), (dI x4)]), (D.agg [(Dw n5 1 (Tk n5 1 l15)), (dI x7)]), (Dw n8 2 (Tk n8 2 l16))] [D.nil, (dI n1)]) ∧
 (((Qv (vI n1)) ∧
 ((Qv (Value.slice none 0 0)) ∧
 ((Qv (Value.tuple [(Value.slice none 0 0), (vI n1)].toArray)) ∧
 ((Qv (Pt 1002 0)) ∧
 True)))) ∧
 (((Qv (vI n1)) ∧
 True) ∧
 (True ∧
 (bcase (n1 != 0)
 (k kF)
 (bcase ((↑0 : Int) != (↑n5 : Int))
 (k kF)
 (bcase ((↑n12 : Int) != (↑n5 : Int))
 (k kF)
 False)))))))) ∨
 (∃ n1 : Nat,
 (∃ cs1 : List Go.Value,
 (∃ n2 : Int,
 ((Says C 14 [(D.agg [(Dw n0 2 (Tk n0 2 l14)), (dI x2), (dI x3), (dI x4)]), (D.agg [(Dw n5 1 (Tk n5 1 l15)), (dI x7)]), (Dw n8 2 (Tk n8 2 l16))] [(D.sl (n1) 2 (cs1)), (dI n2)]) ∧
 (((Qv (vI n2)) ∧
 ((Qv (Sl 1008 (n1) (n1))) ∧
 ((Qv (Value.tuple [(Sl 1008 (n1) (n1)), (vI n2)].toArray)) ∧
 ((Qv (Pt 1002 0)) ∧
 True)))) ∧
 (((Qv (vI n2)) ∧
 True) ∧
 (True ∧
 (bcase (n2 != 0)
 (k kF)
 (bcase ((↑n1 : Int) != (↑n5 : Int))
 (k kF)
 (bcase ((↑n12 : Int) != (↑n5 : Int))
 (k kF)
 (bcase (decide (0 < (↑n1 : Int)))
 (∃ n3 : Int,
 (∃ n4 : Int,
 ((At (cs1) 0 2 [(vI n3), (vI n4)]) ∧
 (L 6 [(Prod.mk 3 (Pt 1000 0)), (Prod.mk 4 (Pt 1001 0)), (Prod.mk 5 (Pt 1002 0)), (Prod.mk 9 (Pt 1003 0)), (Prod.mk 16 (Sl 1004 (n1) (n1))), (Prod.mk 18 (Pt 1005 0)), (Prod.mk 19 (vI 0))] [(Prod.mk 1000 (AObj.cells [(Sl 500 (n0) (c1)), (vI x2), (vI x3), (vI x4)] 28 false 1)), (Prod.mk 1001 (AObj.cells [(Sl 501 (n5) (c6)), (vI x7)] 31 false 1)), (Prod.mk 1002 (AObj.cells [(Sl 502 (n8) (c9)), (Sl 503 (n10) (c11))] 34 false 1)), (Prod.mk 1003 (AObj.cells [(Sl 1006 (n12) (n12)), (vI x13)] 31 false 2)), (Prod.mk 1004 (AObj.sym (cs1) true 2)), (Prod.mk 1005 (AObj.cells [(vI n3), (vI n4)] 26 false 2)), (Prod.mk 500 (AObj.sym (l14) false 2)), (Prod.mk 501 (AObj.sym (l15) false 1)), (Prod.mk 502 (AObj.sym (l16) false 2)), (Prod.mk 503 (AObj.sym (l17) false 1)), (Prod.mk 1006 (AObj.sym (l18) true 1))]))))
 False))))))))))))
 False)
 False)
 False)))
 False)))
 False)))
 False)) := by kernel_rfl
def iN6 (C : Ct) (L : AtLoop) (x0 : Int) (x1 : Int) (n2 : Nat) (c3 : Nat) (x4 : Int) (x5 : Int) (x6 : Int) (n7 : Nat) (c8 : Nat) (x9 : Int) (n10 : Nat) (c11 : Nat) (n12 : Nat) (c13 : Nat) (n14 : Nat) (x15 : Int) (l16 : List Value) (l17 : List Value) (l18 : List Value) (l19 : List Value) (l20 : List Value) (B : Bx) (X : Xx) (k : List D → Prop) : Prop := jIn Try.prog (hL C) L [] 3 2 4 .normal [(3, (Value.pointer (some ⟨1000, 0, none⟩))), (4, (Value.pointer (some ⟨1001, 0, none⟩))), (5, (Value.pointer (some ⟨1002, 0, none⟩))), (9, (Value.pointer (some ⟨1003, 0, none⟩))), (10, (Value.int .i64 x0)), (11, (Value.int .i64 x1))] [(1000, (AObj.cells [(Value.slice (some ⟨500, 0, none⟩) n2 c3), (Value.int .i64 x4), (Value.int .i64 x5), (Value.int .i64 x6)] 28 false 1)), (1001, (AObj.cells [(Value.slice (some ⟨501, 0, none⟩) n7 c8), (Value.int .i64 x9)] 31 false 1)), (1002, (AObj.cells [(Value.slice (some ⟨502, 0, none⟩) n10 c11), (Value.slice (some ⟨503, 0, none⟩) n12 c13)] 34 false 1)), (1003, (AObj.cells [(Value.slice (some ⟨1004, 0, none⟩) n14 n14), (Value.int .i64 x15)] 31 false 2)), (500, (AObj.sym l16 false 2)), (501, (AObj.sym l17 false 1)), (502, (AObj.sym l18 false 2)), (503, (AObj.sym l19 false 1)), (1004, (AObj.sym l20 true 1))] B X (dataK k)
theorem iN6_text (C : Ct) (L : AtLoop) (x0 : Int) (x1 : Int) (n2 : Nat) (c3 : Nat) (x4 : Int) (x5 : Int) (x6 : Int) (n7 : Nat) (c8 : Nat) (x9 : Int) (n10 : Nat) (c11 : Nat) (n12 : Nat) (c13 : Nat) (n14 : Nat) (x15 : Int) (l16 : List Go.Value) (l17 : List Go.Value) (l18 : List Go.Value) (l19 : List Go.Value) (l20 : List Go.Value) (B : Bx) (X : Xx) (k : List D → Prop) : iN6 C L x0 x1 n2 c3 x4 x5 x6 n7 c8 x9 n10 c11 n12 c13 n14 x15 l16 l17 l18 l19 l20 B X k =
 (B [(Prod.mk 3 (Pt 1000 0)), (Prod.mk 4 (Pt 1001 0)), (Prod.mk 5 (Pt 1002 0)), (Prod.mk 9 (Pt 1003 0)), (Prod.mk 10 (vI x0)), (Prod.mk 11 (vI (IntKind.wrap .i64 (x1 + 1))))] [(Prod.mk 1000 (AObj.cells [(Sl 500 (n2) (c3)), (vI x4), (vI x5), (vI x6)] 28 false 1)), (Prod.mk 1001 (AObj.cells [(Sl 501 (n7) (c8)), (vI x9)] 31 false 1)), (Prod.mk 1002 (AObj.cells [(Sl 502 (n10) (c11)), (Sl 503 (n12) (c13))] 34 false 1)), (Prod.mk 1003 (AObj.cells [(Sl 1004 (n14) (n14)), (vI x15)] 31 false 2)), (Prod.mk 500 (AObj.sym (l16) false 2)), (Prod.mk 501 (AObj.sym (l17) false 1)), (Prod.mk 502 (AObj.sym (l18) false 2)), (Prod.mk 503 (AObj.sym (l19) false 1)), (Prod.mk 1004 (AObj.sym (l20) true 1))]) := by kernel_rfl
abbrev zN7 (n0 : Nat) (x1 : Int) (n2 : Nat) (c3 : Nat) (x4 : Int) (x5 : Int) (x6 : Int) (n7 : Nat) (c8 : Nat) (x9 : Int) (n10 : Nat) (c11 : Nat) (n12 : Nat) (c13 : Nat) (n14 : Nat) (x15 : Int) (l16 : List Value) (x17 : Int) (x18 : Int) (l19 : List Value) (l20 : List Value) (l21 : List Value) (l22 : List Value) (l23 : List Value) : Slots × Blocks := ([(3, (Value.pointer (some ⟨1000, 0, none⟩))), (4, (Value.pointer (some ⟨1001, 0, none⟩))), (5, (Value.pointer (some ⟨1002, 0, none⟩))), (9, (Value.pointer (some ⟨1003, 0, none⟩))), (16, (Value.slice (some ⟨1004, 0, none⟩) n0 n0)), (18, (Value.pointer (some ⟨1005, 0, none⟩))), (19, (Value.int .i64 x1))], [(1000, (AObj.cells [(Value.slice (some ⟨500, 0, none⟩) n2 c3), (Value.int .i64 x4), (Value.int .i64 x5), (Value.int .i64 x6)] 28 false 1)), (1001, (AObj.cells [(Value.slice (some ⟨501, 0, none⟩) n7 c8), (Value.int .i64 x9)] 31 false 1)), (1002, (AObj.cells [(Value.slice (some ⟨502, 0, none⟩) n10 c11), (Value.slice (some ⟨503, 0, none⟩) n12 c13)] 34 false 1)), (1003, (AObj.cells [(Value.slice (some ⟨1006, 0, none⟩) n14 n14), (Value.int .i64 x15)] 31 false 2)), (1004, (AObj.sym l16 true 2)), (1005, (AObj.cells [(Value.int .i64 x17), (Value.int .i64 x18)] 26 false 2)), (500, (AObj.sym l19 false 2)), (501, (AObj.sym l20 false 1)), (502, (AObj.sym l21 false 2)), (503, (AObj.sym l22 false 1)), (1006, (AObj.sym l23 true 1))])
def rN7 (C : Ct) (L : AtLoop) (n0 : Nat) (x1 : Int) (n2 : Nat) (c3 : Nat) (x4 : Int) (x5 : Int) (x6 : Int) (n7 : Nat) (c8 : Nat) (x9 : Int) (n10 : Nat) (c11 : Nat) (n12 : Nat) (c13 : Nat) (n14 : Nat) (x15 : Int) (l16 : List Value) (x17 : Int) (x18 : Int) (l19 : List Value) (l20 : List Value) (l21 : List Value) (l22 : List Value) (l23 : List Value) (B : Bx) (X : Xx) (k : List D → Prop) : Prop := jRound Try.prog (hL C) L [] 3 6 [(3, (Value.pointer (some ⟨1000, 0, none⟩))), (4, (Value.pointer (some ⟨1001, 0, none⟩))), (5, (Value.pointer (some ⟨1002, 0, none⟩))), (9, (Value.pointer (some ⟨1003, 0, none⟩))), (16, (Value.slice (some ⟨1004, 0, none⟩) n0 n0)), (18, (Value.pointer (some ⟨1005, 0, none⟩))), (19, (Value.int .i64 x1))] [(1000, (AObj.cells [(Value.slice (some ⟨500, 0, none⟩) n2 c3), (Value.int .i64 x4), (Value.int .i64 x5), (Value.int .i64 x6)] 28 false 1)), (1001, (AObj.cells [(Value.slice (some ⟨501, 0, none⟩) n7 c8), (Value.int .i64 x9)] 31 false 1)), (1002, (AObj.cells [(Value.slice (some ⟨502, 0, none⟩) n10 c11), (Value.slice (some ⟨503, 0, none⟩) n12 c13)] 34 false 1)), (1003, (AObj.cells [(Value.slice (some ⟨1006, 0, none⟩) n14 n14), (Value.int .i64 x15)] 31 false 2)), (1004, (AObj.sym l16 true 2)), (1005, (AObj.cells [(Value.int .i64 x17), (Value.int .i64 x18)] 26 false 2)), (500, (AObj.sym l19 false 2)), (501, (AObj.sym l20 false 1)), (502, (AObj.sym l21 false 2)), (503, (AObj.sym l22 false 1)), (1006, (AObj.sym l23 true 1))] B X (dataK k)
theorem rN7_text (C : Ct) (L : AtLoop) (n0 : Nat) (x1 : Int) (n2 : Nat) (c3 : Nat) (x4 : Int) (x5 : Int) (x6 : Int) (n7 : Nat) (c8 : Nat) (x9 : Int) (n10 : Nat) (c11 : Nat) (n12 : Nat) (c13 : Nat) (n14 : Nat) (x15 : Int) (l16 : List Go.Value) (x17 : Int) (x18 : Int) (l19 : List Go.Value) (l20 : List Go.Value) (l21 : List Go.Value) (l22 : List Go.Value) (l23 : List Go.Value) (B : Bx) (X : Xx) (k : List D → Prop) : rN7 C L n0 x1 n2 c3 x4 x5 x6 n7 c8 x9 n10 c11 n12 c13 n14 x15 l16 x17 x18 l19 l20 l21 l22 l23 B X k =
 (bcase (decide (x1 < (↑n0 : Int)))
 (bcase (decide (0 ≤ x1))
 (bcase (decide (x1 < (↑n14 : Int)))
 (∃ n1 : Int,
 ((At (l23) (0 + Int.toNat x1 * 1) 1 [(vI n1)]) ∧
 (bcase (decide (0 ≤ x1))
 (bcase (decide (x1 < (↑n0 : Int)))
 (∃ n3 : Int,
 ((At (l16) (0 + Int.toNat x1 * 2) 1 [(vI n3)]) ∧
 (bcase (decide (0 ≤ x1))
 (bcase (decide (x1 < (↑n0 : Int)))
 (∃ n4 : Int,
 ((At (l16) (Addr.off { block := 1004, off := 0 + Int.toNat x1 * 2 } + 1) 1 [(vI n4)]) ∧
 (((∃ n5 : Int,
 ((At (l16) (Addr.off { block := 1004, off := 0 + Int.toNat x1 * 2 } + 1) 1 [(vI n5)]) ∧
 ((vI n5) = (vI n4)))) ∧
 ((Qv (Value.pointer (some (Addr.mk 1004 (Addr.off { block := 1004, off := 0 + Int.toNat x1 * 2 } + 1) none)))) ∧
 ((bcase (decide (0 ≤ x1))
 (bcase (decide (x1 < (↑n0 : Int)))
 (Qv (Pt 1004 (0 + Int.toNat x1 * 2)))
 False)
 False) ∧
 ((Qv (vI x1)) ∧
 ((Qv (Sl 1004 (n0) (n0))) ∧
 ((∃ n5 : Int,
 ((At (l16) (0 + Int.toNat x1 * 2) 1 [(vI n5)]) ∧
 ((vI n5) = (vI n3)))) ∧
 ((Qv (Pt 1004 (0 + Int.toNat x1 * 2))) ∧
 ((bcase (decide (0 ≤ x1))
 (bcase (decide (x1 < (↑n0 : Int)))
 (Qv (Pt 1004 (0 + Int.toNat x1 * 2)))
 False)
 False) ∧
 ((Qv (vI x1)) ∧
 ((Qv (Sl 1004 (n0) (n0))) ∧
 ((∃ n5 : Int,
 ((At (l23) (0 + Int.toNat x1 * 1) 1 [(vI n5)]) ∧
 ((vI n5) = (vI n1)))) ∧
 ((bcase (decide (0 ≤ x1))
 (bcase (decide (x1 < (↑n14 : Int)))
 (Qv (Pt 1006 (0 + Int.toNat x1 * 1)))
 False)
 False) ∧
 ((Qv (vI x1)) ∧
 ((Qv (Sl 1006 (n14) (n14))) ∧
 ((Qv (Pt 1003 0)) ∧
 True))))))))))))))) ∧
 (((Says C 16 [(dI n1), (dI n3), (dI n4)] kT) ∧
 (bcase (decide (0 ≤ x1))
 (bcase (decide (x1 < (↑n0 : Int)))
 (∃ n5 : Int,
 ((At (l16) (0 + Int.toNat x1 * 2) 1 [(vI n5)]) ∧
 (((∃ n6 : Int,
 ((At (l16) (0 + Int.toNat x1 * 2) 1 [(vI n6)]) ∧
 ((vI n6) = (vI n5)))) ∧
 ((Qv (Pt 1004 (0 + Int.toNat x1 * 2))) ∧
 ((bcase (decide (0 ≤ x1))
 (bcase (decide (x1 < (↑n0 : Int)))
 (Qv (Pt 1004 (0 + Int.toNat x1 * 2)))
 False)
 False) ∧
 ((Qv (vI x1)) ∧
 ((Qv (Sl 1004 (n0) (n0))) ∧
 (Qf ∧
 (Qf ∧
 ((Qv (Value.pointer (some (Addr.mk 1004 (Addr.off { block := 1004, off := 0 + Int.toNat x1 * 2 } + 1) none)))) ∧
 ((bcase (decide (0 ≤ x1))
 (bcase (decide (x1 < (↑n0 : Int)))
 (Qv (Pt 1004 (0 + Int.toNat x1 * 2)))
 False)
 False) ∧
 ((Qv (vI x1)) ∧
 ((Qv (Sl 1004 (n0) (n0))) ∧
 ((Qv (Pt 1004 (0 + Int.toNat x1 * 2))) ∧
 ((bcase (decide (0 ≤ x1))
 (bcase (decide (x1 < (↑n0 : Int)))
 (Qv (Pt 1004 (0 + Int.toNat x1 * 2)))
 False)
 False) ∧
 ((Qv (vI x1)) ∧
 ((Qv (Sl 1004 (n0) (n0))) ∧
 ((bcase (decide (0 ≤ x1))
 (bcase (decide (x1 < (↑n14 : Int)))
 (Qv (Pt 1006 (0 + Int.toNat x1 * 1)))
 False)
 False) ∧
 ((Qv (vI x1)) ∧
 ((Qv (Sl 1006 (n14) (n14))) ∧
 ((Qv (Pt 1003 0)) ∧
 True))))))))))))))))))) ∧
 (((Says C 16 [(dI n5), (dI 0), (D.val (vI 20000))] kT) ∧
 (bcase (decide (0 ≤ x1))
 (bcase (decide (x1 < (↑n0 : Int)))
 (∃ n6 : Int,
 ((At (l16) (Addr.off { block := 1004, off := 0 + Int.toNat x1 * 2 } + 1) 1 [(vI n6)]) ∧
 (((∃ n8 : Int,
 ((At (l16) (Addr.off { block := 1004, off := 0 + Int.toNat x1 * 2 } + 1) 1 [(vI n8)]) ∧
 ((vI n8) = (vI n6)))) ∧
 ((Qv (Value.pointer (some (Addr.mk 1004 (Addr.off { block := 1004, off := 0 + Int.toNat x1 * 2 } + 1) none)))) ∧
 ((bcase (decide (0 ≤ x1))
 (bcase (decide (x1 < (↑n0 : Int)))
 (Qv (Pt 1004 (0 + Int.toNat x1 * 2)))
 False)
 False) ∧
 ((Qv (vI x1)) ∧
 ((Qv (Sl 1004 (n0) (n0))) ∧
 (Qf ∧
 (Qf ∧
 (Qf ∧
 ((Qv (Pt 1004 (0 + Int.toNat x1 * 2))) ∧
 ((bcase (decide (0 ≤ x1))
 (bcase (decide (x1 < (↑n0 : Int)))
 (Qv (Pt 1004 (0 + Int.toNat x1 * 2)))
 False)
 False) ∧
 ((Qv (vI x1)) ∧
 ((Qv (Sl 1004 (n0) (n0))) ∧
 (Qf ∧
 ((Qv (Value.pointer (some (Addr.mk 1004 (Addr.off { block := 1004, off := 0 + Int.toNat x1 * 2 } + 1) none)))) ∧
 ((bcase (decide (0 ≤ x1))
 (bcase (decide (x1 < (↑n0 : Int)))
 (Qv (Pt 1004 (0 + Int.toNat x1 * 2)))
 False)
 False) ∧
 ((Qv (vI x1)) ∧
 ((Qv (Sl 1004 (n0) (n0))) ∧
 ((Qv (Pt 1004 (0 + Int.toNat x1 * 2))) ∧
 ((bcase (decide (0 ≤ x1))
 (bcase (decide (x1 < (↑n0 : Int)))
 (Qv (Pt 1004 (0 + Int.toNat x1 * 2)))
 False)
 False) ∧
 ((Qv (vI x1)) ∧
 ((Qv (Sl 1004 (n0) (n0))) ∧
 ((bcase (decide (0 ≤ x1))
 (bcase (decide (x1 < (↑n14 : Int)))
 (Qv (Pt 1006 (0 + Int.toNat x1 * 1)))
 False)
 False) ∧
 ((Qv (vI x1)) ∧
 ((Qv (Sl 1006 (n14) (n14))) ∧
 ((Qv (Pt 1003 0)) ∧
 True))))))))))))))))))))))))) ∧
 (((Says C 16 [(dI n6), (dI 0), (D.val (vI 20000))] kT) ∧
 ((Qf ∧
 (Qf ∧
 ((Qv (Value.pointer (some (Addr.mk 1004 (Addr.off { block := 1004, off := 0 + Int.toNat x1 * 2 } + 1) none)))) ∧
 ((bcase (decide (0 ≤ x1))
 (bcase (decide (x1 < (↑n0 : Int)))
 (Qv (Pt 1004 (0 + Int.toNat x1 * 2)))
 False)
 False) ∧
 ((Qv (vI x1)) ∧
 ((Qv (Sl 1004 (n0) (n0))) ∧
 (Qf ∧
 (Qf ∧
 ((Qv (Pt 1004 (0 + Int.toNat x1 * 2))) ∧
 ((bcase (decide (0 ≤ x1))
 (bcase (decide (x1 < (↑n0 : Int)))
 (Qv (Pt 1004 (0 + Int.toNat x1 * 2)))
 False)
 False) ∧
 ((Qv (vI x1)) ∧
 ((Qv (Sl 1004 (n0) (n0))) ∧
 (Qf ∧
 ((Qv (Value.pointer (some (Addr.mk 1004 (Addr.off { block := 1004, off := 0 + Int.toNat x1 * 2 } + 1) none)))) ∧
 ((bcase (decide (0 ≤ x1))
 (bcase (decide (x1 < (↑n0 : Int)))
 (Qv (Pt 1004 (0 + Int.toNat x1 * 2)))
 False)
 False) ∧
 ((Qv (vI x1)) ∧
 ((Qv (Sl 1004 (n0) (n0))) ∧
 ((Qv (Pt 1004 (0 + Int.toNat x1 * 2))) ∧
 ((bcase (decide (0 ≤ x1))
 (bcase (decide (x1 < (↑n0 : Int)))
 (Qv (Pt 1004 (0 + Int.toNat x1 * 2)))
 False)
 False) ∧
 ((Qv (vI x1)) ∧
 ((Qv (Sl 1004 (n0) (n0))) ∧
 ((bcase (decide (0 ≤ x1))
 (bcase (decide (x1 < (↑n14 : Int)))
 (Qv (Pt 1006 (0 + Int.toNat x1 * 1)))
 False)
 False) ∧
 ((Qv (vI x1)) ∧
 ((Qv (Sl 1006 (n14) (n14))) ∧
 ((Qv (Pt 1003 0)) ∧
 True))))))))))))))))))))))))) ∧
 (bcase (decide (0 ≤ x1))
 (bcase (decide (x1 < (↑n0 : Int)))
 (∃ n8 : Int,
 ((At (l16) (0 + Int.toNat x1 * 2) 1 [(vI n8)]) ∧
 (bcase (decide (0 ≤ x1))
 (bcase (decide (x1 < (↑n0 : Int)))
 (∃ n9 : Int,
 ((At (l16) (Addr.off { block := 1004, off := 0 + Int.toNat x1 * 2 } + 1) 1 [(vI n9)]) ∧
 (((Qv (Value.agg [(vI (if n8 < x17 then n8 else x17)), (vI (if n9 > x18 then n9 else x18))].toArray)) ∧
 ((Qv (vI (if n9 > x18 then n9 else x18))) ∧
 ((∃ n11 : Int,
 ((At (l16) (Addr.off { block := 1004, off := 0 + Int.toNat x1 * 2 } + 1) 1 [(vI n11)]) ∧
 ((vI n11) = (vI n9)))) ∧
 ((Qv (Value.pointer (some (Addr.mk 1004 (Addr.off { block := 1004, off := 0 + Int.toNat x1 * 2 } + 1) none)))) ∧
 ((bcase (decide (0 ≤ x1))
 (bcase (decide (x1 < (↑n0 : Int)))
 (Qv (Pt 1004 (0 + Int.toNat x1 * 2)))
 False)
 False) ∧
 ((Qv (vI x1)) ∧
 ((Qv (Sl 1004 (n0) (n0))) ∧
 ((Qv (vI x18)) ∧
 ((Qv (Pt 1005 1)) ∧
 ((Qv (vI (if n8 < x17 then n8 else x17))) ∧
 ((∃ n11 : Int,
 ((At (l16) (0 + Int.toNat x1 * 2) 1 [(vI n11)]) ∧
 ((vI n11) = (vI n8)))) ∧
 ((Qv (Pt 1004 (0 + Int.toNat x1 * 2))) ∧
 ((bcase (decide (0 ≤ x1))
 (bcase (decide (x1 < (↑n0 : Int)))
 (Qv (Pt 1004 (0 + Int.toNat x1 * 2)))
 False)
 False) ∧
 ((Qv (vI x1)) ∧
 ((Qv (Sl 1004 (n0) (n0))) ∧
 ((Qv (vI x17)) ∧
 ((Qv (Pt 1005 0)) ∧
 True))))))))))))))))) ∧
 (True ∧
 (B [(Prod.mk 3 (Pt 1000 0)), (Prod.mk 4 (Pt 1001 0)), (Prod.mk 5 (Pt 1002 0)), (Prod.mk 9 (Pt 1003 0)), (Prod.mk 16 (Sl 1004 (n0) (n0))), (Prod.mk 18 (Pt 1005 0)), (Prod.mk 19 (vI (IntKind.wrap .i64 (x1 + 1))))] [(Prod.mk 1000 (AObj.cells [(Sl 500 (n2) (c3)), (vI x4), (vI x5), (vI x6)] 28 false 1)), (Prod.mk 1001 (AObj.cells [(Sl 501 (n7) (c8)), (vI x9)] 31 false 1)), (Prod.mk 1002 (AObj.cells [(Sl 502 (n10) (c11)), (Sl 503 (n12) (c13))] 34 false 1)), (Prod.mk 1003 (AObj.cells [(Sl 1006 (n14) (n14)), (vI x15)] 31 false 2)), (Prod.mk 1004 (AObj.sym (l16) true 2)), (Prod.mk 1005 (AObj.cells [(vI (if n8 < x17 then n8 else x17)), (vI (if n9 > x18 then n9 else x18))] 26 false 2)), (Prod.mk 500 (AObj.sym (l19) false 2)), (Prod.mk 501 (AObj.sym (l20) false 1)), (Prod.mk 502 (AObj.sym (l21) false 2)), (Prod.mk 503 (AObj.sym (l22) false 1)), (Prod.mk 1006 (AObj.sym (l23) true 1))])))))
 False)
 False)))
 False)
 False))) ∨
 ((Says C 16 [(dI n6), (dI 0), (D.val (vI 20000))] kF) ∧
 ((Qb ∧
 (Qb ∧
 ((Qv (Value.pointer (some (Addr.mk 1004 (Addr.off { block := 1004, off := 0 + Int.toNat x1 * 2 } + 1) none)))) ∧
 ((bcase (decide (0 ≤ x1))
 (bcase (decide (x1 < (↑n0 : Int)))
 (Qv (Pt 1004 (0 + Int.toNat x1 * 2)))
 False)
 False) ∧
 ((Qv (vI x1)) ∧
 ((Qv (Sl 1004 (n0) (n0))) ∧
 (Qf ∧
 (Qf ∧
 ((Qv (Pt 1004 (0 + Int.toNat x1 * 2))) ∧
 ((bcase (decide (0 ≤ x1))
 (bcase (decide (x1 < (↑n0 : Int)))
 (Qv (Pt 1004 (0 + Int.toNat x1 * 2)))
 False)
 False) ∧
 ((Qv (vI x1)) ∧
 ((Qv (Sl 1004 (n0) (n0))) ∧
 (Qf ∧
 ((Qv (Value.pointer (some (Addr.mk 1004 (Addr.off { block := 1004, off := 0 + Int.toNat x1 * 2 } + 1) none)))) ∧
 ((bcase (decide (0 ≤ x1))
 (bcase (decide (x1 < (↑n0 : Int)))
 (Qv (Pt 1004 (0 + Int.toNat x1 * 2)))
 False)
 False) ∧
 ((Qv (vI x1)) ∧
 ((Qv (Sl 1004 (n0) (n0))) ∧
 ((Qv (Pt 1004 (0 + Int.toNat x1 * 2))) ∧
 ((bcase (decide (0 ≤ x1))
 (bcase (decide (x1 < (↑n0 : Int)))
 (Qv (Pt 1004 (0 + Int.toNat x1 * 2)))
 False)
 False) ∧
 ((Qv (vI x1)) ∧
 ((Qv (Sl 1004 (n0) (n0))) ∧
 ((bcase (decide (0 ≤ x1))
 (bcase (decide (x1 < (↑n14 : Int)))
 (Qv (Pt 1006 (0 + Int.toNat x1 * 1)))
 False)
 False) ∧
 ((Qv (vI x1)) ∧
 ((Qv (Sl 1006 (n14) (n14))) ∧
 ((Qv (Pt 1003 0)) ∧
 True))))))))))))))))))))))))) ∧
 (k kF)))))))
 False)
 False)) ∨
 ((Says C 16 [(dI n5), (dI 0), (D.val (vI 20000))] kF) ∧
 ((Qu ∧
 (Qu ∧
 (Qu ∧
 (Qu ∧
 (Qu ∧
 (Qb ∧
 (Qb ∧
 (Qb ∧
 ((Qv (Pt 1004 (0 + Int.toNat x1 * 2))) ∧
 ((bcase (decide (0 ≤ x1))
 (bcase (decide (x1 < (↑n0 : Int)))
 (Qv (Pt 1004 (0 + Int.toNat x1 * 2)))
 False)
 False) ∧
 ((Qv (vI x1)) ∧
 ((Qv (Sl 1004 (n0) (n0))) ∧
 (Qf ∧
 ((Qv (Value.pointer (some (Addr.mk 1004 (Addr.off { block := 1004, off := 0 + Int.toNat x1 * 2 } + 1) none)))) ∧
 ((bcase (decide (0 ≤ x1))
 (bcase (decide (x1 < (↑n0 : Int)))
 (Qv (Pt 1004 (0 + Int.toNat x1 * 2)))
 False)
 False) ∧
 ((Qv (vI x1)) ∧
 ((Qv (Sl 1004 (n0) (n0))) ∧
 ((Qv (Pt 1004 (0 + Int.toNat x1 * 2))) ∧
 ((bcase (decide (0 ≤ x1))
 (bcase (decide (x1 < (↑n0 : Int)))
 (Qv (Pt 1004 (0 + Int.toNat x1 * 2)))
 False)
 False) ∧
 ((Qv (vI x1)) ∧
 ((Qv (Sl 1004 (n0) (n0))) ∧
 ((bcase (decide (0 ≤ x1))
 (bcase (decide (x1 < (↑n14 : Int)))
 (Qv (Pt 1006 (0 + Int.toNat x1 * 1)))
 False)
 False) ∧
 ((Qv (vI x1)) ∧
 ((Qv (Sl 1006 (n14) (n14))) ∧
 ((Qv (Pt 1003 0)) ∧
 True))))))))))))))))))))))))) ∧
 ((Qb ∧
 (Qu ∧
 (Qu ∧
 (Qu ∧
 (Qu ∧
 (Qu ∧
 (Qb ∧
 (Qb ∧
 ((Qv (Pt 1004 (0 + Int.toNat x1 * 2))) ∧
 ((bcase (decide (0 ≤ x1))
 (bcase (decide (x1 < (↑n0 : Int)))
 (Qv (Pt 1004 (0 + Int.toNat x1 * 2)))
 False)
 False) ∧
 ((Qv (vI x1)) ∧
 ((Qv (Sl 1004 (n0) (n0))) ∧
 (Qf ∧
 ((Qv (Value.pointer (some (Addr.mk 1004 (Addr.off { block := 1004, off := 0 + Int.toNat x1 * 2 } + 1) none)))) ∧
 ((bcase (decide (0 ≤ x1))
 (bcase (decide (x1 < (↑n0 : Int)))
 (Qv (Pt 1004 (0 + Int.toNat x1 * 2)))
 False)
 False) ∧
 ((Qv (vI x1)) ∧
 ((Qv (Sl 1004 (n0) (n0))) ∧
 ((Qv (Pt 1004 (0 + Int.toNat x1 * 2))) ∧
 ((bcase (decide (0 ≤ x1))
 (bcase (decide (x1 < (↑n0 : Int)))
 (Qv (Pt 1004 (0 + Int.toNat x1 * 2)))
 False)
 False) ∧
 ((Qv (vI x1)) ∧
 ((Qv (Sl 1004 (n0) (n0))) ∧
 ((bcase (decide (0 ≤ x1))
 (bcase (decide (x1 < (↑n14 : Int)))
 (Qv (Pt 1006 (0 + Int.toNat x1 * 1)))
 False)
 False) ∧
 ((Qv (vI x1)) ∧
 ((Qv (Sl 1006 (n14) (n14))) ∧
 ((Qv (Pt 1003 0)) ∧
 True))))))))))))))))))))))))) ∧
 (k kF))))))))
 False)
 False)) ∨
 ((Says C 16 [(dI n1), (dI n3), (dI n4)] kF) ∧
 ((Qu ∧
 (Qu ∧
 (Qu ∧
 (Qu ∧
 (Qu ∧
 (Qb ∧
 (Qb ∧
 ((Qv (Value.pointer (some (Addr.mk 1004 (Addr.off { block := 1004, off := 0 + Int.toNat x1 * 2 } + 1) none)))) ∧
 ((bcase (decide (0 ≤ x1))
 (bcase (decide (x1 < (↑n0 : Int)))
 (Qv (Pt 1004 (0 + Int.toNat x1 * 2)))
 False)
 False) ∧
 ((Qv (vI x1)) ∧
 ((Qv (Sl 1004 (n0) (n0))) ∧
 ((Qv (Pt 1004 (0 + Int.toNat x1 * 2))) ∧
 ((bcase (decide (0 ≤ x1))
 (bcase (decide (x1 < (↑n0 : Int)))
 (Qv (Pt 1004 (0 + Int.toNat x1 * 2)))
 False)
 False) ∧
 ((Qv (vI x1)) ∧
 ((Qv (Sl 1004 (n0) (n0))) ∧
 ((bcase (decide (0 ≤ x1))
 (bcase (decide (x1 < (↑n14 : Int)))
 (Qv (Pt 1006 (0 + Int.toNat x1 * 1)))
 False)
 False) ∧
 ((Qv (vI x1)) ∧
 ((Qv (Sl 1006 (n14) (n14))) ∧
 ((Qv (Pt 1003 0)) ∧
 True))))))))))))))))))) ∧
 ((Qu ∧
 (Qu ∧
 (Qu ∧
 (Qu ∧
 (Qu ∧
 (Qb ∧
 (Qb ∧
 (Qu ∧
 (Qu ∧
 (Qu ∧
 (Qu ∧
 (Qu ∧
 (Qb ∧
 ((Qv (Value.pointer (some (Addr.mk 1004 (Addr.off { block := 1004, off := 0 + Int.toNat x1 * 2 } + 1) none)))) ∧
 ((bcase (decide (0 ≤ x1))
 (bcase (decide (x1 < (↑n0 : Int)))
 (Qv (Pt 1004 (0 + Int.toNat x1 * 2)))
 False)
 False) ∧
 ((Qv (vI x1)) ∧
 ((Qv (Sl 1004 (n0) (n0))) ∧
 ((Qv (Pt 1004 (0 + Int.toNat x1 * 2))) ∧
 ((bcase (decide (0 ≤ x1))
 (bcase (decide (x1 < (↑n0 : Int)))
 (Qv (Pt 1004 (0 + Int.toNat x1 * 2)))
 False)
 False) ∧
 ((Qv (vI x1)) ∧
 ((Qv (Sl 1004 (n0) (n0))) ∧
 ((bcase (decide (0 ≤ x1))
 (bcase (decide (x1 < (↑n14 : Int)))
 (Qv (Pt 1006 (0 + Int.toNat x1 * 1)))
 False)
 False) ∧
 ((Qv (vI x1)) ∧
 ((Qv (Sl 1006 (n14) (n14))) ∧
 ((Qv (Pt 1003 0)) ∧
 True))))))))))))))))))))))))) ∧
 ((Qb ∧
 (Qu ∧
 (Qu ∧
 (Qu ∧
 (Qu ∧
 (Qu ∧
 (Qb ∧
 (Qu ∧
 (Qu ∧
 (Qu ∧
 (Qu ∧
 (Qu ∧
 (Qb ∧
 ((Qv (Value.pointer (some (Addr.mk 1004 (Addr.off { block := 1004, off := 0 + Int.toNat x1 * 2 } + 1) none)))) ∧
 ((bcase (decide (0 ≤ x1))
 (bcase (decide (x1 < (↑n0 : Int)))
 (Qv (Pt 1004 (0 + Int.toNat x1 * 2)))
 False)
 False) ∧
 ((Qv (vI x1)) ∧
 ((Qv (Sl 1004 (n0) (n0))) ∧
 ((Qv (Pt 1004 (0 + Int.toNat x1 * 2))) ∧
 ((bcase (decide (0 ≤ x1))
 (bcase (decide (x1 < (↑n0 : Int)))
 (Qv (Pt 1004 (0 + Int.toNat x1 * 2)))
 False)
 False) ∧
 ((Qv (vI x1)) ∧
 ((Qv (Sl 1004 (n0) (n0))) ∧
 ((bcase (decide (0 ≤ x1))
 (bcase (decide (x1 < (↑n14 : Int)))
 (Qv (Pt 1006 (0 + Int.toNat x1 * 1)))
 False)
 False) ∧
 ((Qv (vI x1)) ∧
 ((Qv (Sl 1006 (n14) (n14))) ∧
 ((Qv (Pt 1003 0)) ∧
 True))))))))))))))))))))))))) ∧
 (k kF)))))))))
 False)
 False)))
 False)
 False)))
 False)
 False)
 (X 6 [(Prod.mk 3 (Pt 1000 0)), (Prod.mk 4 (Pt 1001 0)), (Prod.mk 5 (Pt 1002 0)), (Prod.mk 18 (Pt 1003 0))] [(Prod.mk 1000 (AObj.cells [(Sl 500 (n2) (c3)), (vI x4), (vI x5), (vI x6)] 28 false 1)), (Prod.mk 1001 (AObj.cells [(Sl 501 (n7) (c8)), (vI x9)] 31 false 1)), (Prod.mk 1002 (AObj.cells [(Sl 502 (n10) (c11)), (Sl 503 (n12) (c13))] 34 false 1)), (Prod.mk 1003 (AObj.cells [(vI x17), (vI x18)] 26 false 2)), (Prod.mk 500 (AObj.sym (l19) false 2)), (Prod.mk 501 (AObj.sym (l20) false 1)), (Prod.mk 502 (AObj.sym (l21) false 2)), (Prod.mk 503 (AObj.sym (l22) false 1))])) := by kernel_rfl
def nN8 (C : Ct) (L : AtLoop) (n0 : Nat) (c1 : Nat) (x2 : Int) (x3 : Int) (x4 : Int) (n5 : Nat) (c6 : Nat) (x7 : Int) (n8 : Nat) (c9 : Nat) (n10 : Nat) (c11 : Nat) (x12 : Int) (x13 : Int) (l14 : List Value) (l15 : List Value) (l16 : List Value) (l17 : List Value) (k : List D → Prop) : Prop := jNext Try.prog (hL C) L [] 3 6 .normal [(3, (Value.pointer (some ⟨1000, 0, none⟩))), (4, (Value.pointer (some ⟨1001, 0, none⟩))), (5, (Value.pointer (some ⟨1002, 0, none⟩))), (18, (Value.pointer (some ⟨1003, 0, none⟩)))] [(1000, (AObj.cells [(Value.slice (some ⟨500, 0, none⟩) n0 c1), (Value.int .i64 x2), (Value.int .i64 x3), (Value.int .i64 x4)] 28 false 1)), (1001, (AObj.cells [(Value.slice (some ⟨501, 0, none⟩) n5 c6), (Value.int .i64 x7)] 31 false 1)), (1002, (AObj.cells [(Value.slice (some ⟨502, 0, none⟩) n8 c9), (Value.slice (some ⟨503, 0, none⟩) n10 c11)] 34 false 1)), (1003, (AObj.cells [(Value.int .i64 x12), (Value.int .i64 x13)] 26 false 2)), (500, (AObj.sym l14 false 2)), (501, (AObj.sym l15 false 1)), (502, (AObj.sym l16 false 2)), (503, (AObj.sym l17 false 1))] (dataK k)
theorem nN8_text (C : Ct) (L : AtLoop) (n0 : Nat) (c1 : Nat) (x2 : Int) (x3 : Int) (x4 : Int) (n5 : Nat) (c6 : Nat) (x7 : Int) (n8 : Nat) (c9 : Nat) (n10 : Nat) (c11 : Nat) (x12 : Int) (x13 : Int) (l14 : List Go.Value) (l15 : List Go.Value) (l16 : List Go.Value) (l17 : List Go.Value) (k : List D → Prop) : nN8 C L n0 c1 x2 x3 x4 n5 c6 x7 n8 c9 n10 c11 x12 x13 l14 l15 l16 l17 k =
 (((Qv (Value.agg [(vI x12), (vI x13)].toArray)) ∧
 ((Qv (Sl 502 (n8) (c9))) ∧
 ((Qv (Pt 1002 0)) ∧
 ((Qv (Value.agg [(Sl 501 (n5) (c6)), (vI x7)].toArray)) ∧
 ((Qv (Value.agg [(Sl 500 (n0) (c1)), (vI x2), (vI x3), (vI x4)].toArray)) ∧
 True))))) ∧
 (bcase (dL n0 2 l14)
 ((Says C 12 [(D.agg [(Dw n0 2 l14), (dI x2), (dI x3), (dI x4)])] [(D.agg [(Dw n0 2 l14), (dI x2), (dI x3), (dI x4)])]) ∧
 (((Qv (Value.agg [(vI x12), (vI x13)].toArray)) ∧
 ((Qv (Sl 502 (n8) (c9))) ∧
 ((Qv (Pt 1002 0)) ∧
 ((Qv (Value.agg [(Sl 501 (n5) (c6)), (vI x7)].toArray)) ∧
 True)))) ∧
 (bcase (dL n5 1 l15)
 ((Says C 9 [(D.agg [(Dw n5 1 l15), (dI x7)])] [(D.agg [(Dw n5 1 l15), (dI x7)])]) ∧
 (((Qv (Value.agg [(vI x12), (vI x13)].toArray)) ∧
 ((Qv (Sl 502 (n8) (c9))) ∧
 ((Qv (Pt 1002 0)) ∧
 True))) ∧
 (bcase (dL n8 2 l16)
 ((Says C 15 [(Dw n8 2 l16)] [(Dw n8 2 l16)]) ∧
 (((Qv (Value.agg [(Sl 1006 (n8) (n8)), (vI x12), (vI x13)].toArray)) ∧
 ((Qv (Value.agg [(vI x12), (vI x13)].toArray)) ∧
 ((Qv (Pt 1002 0)) ∧
 True))) ∧
 (bcase (dL n0 2 (Tk n0 2 l14))
 (bcase (dL n5 1 (Tk n5 1 l15))
 (bcase (dL n8 2 (Tk n8 2 l16))
 (∃ n1 : Int,
 (∃ n2 : Int,
 ((Says C 17 [(D.agg [(Dw n0 2 (Tk n0 2 l14)), (dI x2), (dI x3), (dI x4)]), (D.agg [(Dw n5 1 (Tk n5 1 l15)), (dI x7)]), (D.agg [(Dw n8 2 (Tk n8 2 l16)), (dI x12), (dI x13)])] [(dI n1), (dI n2)]) ∧
 (((Qv (vI n2)) ∧
 ((Qv (vI n1)) ∧
 ((Qv (Value.tuple [(vI n1), (vI n2)].toArray)) ∧
 ((Qv (Value.agg [(vI x12), (vI x13)].toArray)) ∧
 ((Qv (Pt 1002 0)) ∧
 True))))) ∧
 (((Qv (vI n2)) ∧
 True) ∧
 (True ∧
 (bcase (n2 == 0)
 (bcase (n1 == 2)
 (k kT)
 (k kF))
 (k kF))))))))
 False)
 False)
 False)))
 False)))
 False)))
 False)) := by kernel_rfl
def gNsssn (C : Ct) (L : AtLoop) (n0 : Nat) (c0 : Nat) (l0 : List Value) (x1 : Int) (x2 : Int) (x3 : Int) (n4 : Nat) (c4 : Nat) (l4 : List Value) (x5 : Int) (n6 : Nat) (c6 : Nat) (l6 : List Value) (k : List D → Prop) : Prop := wpFn Try.prog (hL C) L 0 3 #[.agg #[.slice (some ⟨500, 0, none⟩) n0 c0, .int .i64 x1, .int .i64 x2, .int .i64 x3], .agg #[.slice (some ⟨501, 0, none⟩) n4 c4, .int .i64 x5], .agg #[.slice (some ⟨502, 0, none⟩) n6 c6, .slice none 0 0]] (heapOf [(500, .sym l0 false 2), (501, .sym l4 false 1), (502, .sym l6 false 2)]) (dataK k)
theorem gNsssn_text (C : Ct) (L : AtLoop) (n0 : Nat) (c0 : Nat) (l0 : List Go.Value) (x1 : Int) (x2 : Int) (x3 : Int) (n4 : Nat) (c4 : Nat) (l4 : List Go.Value) (x5 : Int) (n6 : Nat) (c6 : Nat) (l6 : List Go.Value) (k : List D → Prop) : gNsssn C L n0 c0 l0 x1 x2 x3 n4 c4 l4 x5 n6 c6 l6 k =
 (((Says C 5 [] kT) ∧
 (bcase (decide ((↑n0 : Int) ≤ 12))
 (bcase (decide ((↑n4 : Int) ≤ 10))
 (bcase (dL n0 2 l0)
 (bcase (dL n4 1 l4)
 (∃ n1 : Int,
 ((Says C 7 [(D.agg [(Dw n0 2 l0), (dI x1), (dI x2), (dI x3)]), (D.agg [(Dw n4 1 l4), (dI x5)])] [(dI n1)]) ∧
 (bcase (n1 != 0)
 (k kT)
 (bcase ((↑n6 : Int) == 0)
 (k kT)
 (bcase (decide ((↑n6 : Int) > 5))
 (k kT)
 (bcase (dL n6 2 l6)
 (∃ n2 : Int,
 ((Says C 8 [(Dw n6 2 l6)] [(dI n2)]) ∧
 (bcase (n2 != 0)
 (k kT)
 (k kT))))
 False))))))
 False)
 False)
 (k kT))
 (k kT))) ∨
 ((Says C 5 [] kF) ∧
 (k kF))) := by kernel_rfl
def gNssns (C : Ct) (L : AtLoop) (n0 : Nat) (c0 : Nat) (l0 : List Value) (x1 : Int) (x2 : Int) (x3 : Int) (n4 : Nat) (c4 : Nat) (l4 : List Value) (x5 : Int) (n7 : Nat) (c7 : Nat) (l7 : List Value) (k : List D → Prop) : Prop := wpFn Try.prog (hL C) L 0 3 #[.agg #[.slice (some ⟨500, 0, none⟩) n0 c0, .int .i64 x1, .int .i64 x2, .int .i64 x3], .agg #[.slice (some ⟨501, 0, none⟩) n4 c4, .int .i64 x5], .agg #[.slice none 0 0, .slice (some ⟨502, 0, none⟩) n7 c7]] (heapOf [(500, .sym l0 false 2), (501, .sym l4 false 1), (502, .sym l7 false 1)]) (dataK k)
theorem gNssns_text (C : Ct) (L : AtLoop) (n0 : Nat) (c0 : Nat) (l0 : List Go.Value) (x1 : Int) (x2 : Int) (x3 : Int) (n4 : Nat) (c4 : Nat) (l4 : List Go.Value) (x5 : Int) (n7 : Nat) (c7 : Nat) (l7 : List Go.Value) (k : List D → Prop) : gNssns C L n0 c0 l0 x1 x2 x3 n4 c4 l4 x5 n7 c7 l7 k =
 (((Says C 5 [] kT) ∧
 (bcase (decide ((↑n0 : Int) ≤ 12))
 (bcase (decide ((↑n4 : Int) ≤ 10))
 (bcase (dL n0 2 l0)
 (bcase (dL n4 1 l4)
 (∃ n1 : Int,
 ((Says C 7 [(D.agg [(Dw n0 2 l0), (dI x1), (dI x2), (dI x3)]), (D.agg [(Dw n4 1 l4), (dI x5)])] [(dI n1)]) ∧
 (bcase (n1 != 0)
 (k kT)
 (k kT))))
 False)
 False)
 (k kT))
 (k kT))) ∨
 ((Says C 5 [] kF) ∧
 (k kF))) := by kernel_rfl
def gNssnn (C : Ct) (L : AtLoop) (n0 : Nat) (c0 : Nat) (l0 : List Value) (x1 : Int) (x2 : Int) (x3 : Int) (n4 : Nat) (c4 : Nat) (l4 : List Value) (x5 : Int) (k : List D → Prop) : Prop := wpFn Try.prog (hL C) L 0 3 #[.agg #[.slice (some ⟨500, 0, none⟩) n0 c0, .int .i64 x1, .int .i64 x2, .int .i64 x3], .agg #[.slice (some ⟨501, 0, none⟩) n4 c4, .int .i64 x5], .agg #[.slice none 0 0, .slice none 0 0]] (heapOf [(500, .sym l0 false 2), (501, .sym l4 false 1)]) (dataK k)
theorem gNssnn_text (C : Ct) (L : AtLoop) (n0 : Nat) (c0 : Nat) (l0 : List Go.Value) (x1 : Int) (x2 : Int) (x3 : Int) (n4 : Nat) (c4 : Nat) (l4 : List Go.Value) (x5 : Int) (k : List D → Prop) : gNssnn C L n0 c0 l0 x1 x2 x3 n4 c4 l4 x5 k =
 (((Says C 5 [] kT) ∧
 (bcase (decide ((↑n0 : Int) ≤ 12))
 (bcase (decide ((↑n4 : Int) ≤ 10))
 (bcase (dL n0 2 l0)
 (bcase (dL n4 1 l4)
 (∃ n1 : Int,
 ((Says C 7 [(D.agg [(Dw n0 2 l0), (dI x1), (dI x2), (dI x3)]), (D.agg [(Dw n4 1 l4), (dI x5)])] [(dI n1)]) ∧
 (bcase (n1 != 0)
 (k kT)
 (k kT))))
 False)
 False)
 (k kT))
 (k kT))) ∨
 ((Says C 5 [] kF) ∧
 (k kF))) := by kernel_rfl
def gNsnss (C : Ct) (L : AtLoop) (n0 : Nat) (c0 : Nat) (l0 : List Value) (x1 : Int) (x2 : Int) (x3 : Int) (x5 : Int) (n6 : Nat) (c6 : Nat) (l6 : List Value) (n7 : Nat) (c7 : Nat) (l7 : List Value) (k : List D → Prop) : Prop := wpFn Try.prog (hL C) L 0 3 #[.agg #[.slice (some ⟨500, 0, none⟩) n0 c0, .int .i64 x1, .int .i64 x2, .int .i64 x3], .agg #[.slice none 0 0, .int .i64 x5], .agg #[.slice (some ⟨501, 0, none⟩) n6 c6, .slice (some ⟨502, 0, none⟩) n7 c7]] (heapOf [(500, .sym l0 false 2), (501, .sym l6 false 2), (502, .sym l7 false 1)]) (dataK k)
theorem gNsnss_text (C : Ct) (L : AtLoop) (n0 : Nat) (c0 : Nat) (l0 : List Go.Value) (x1 : Int) (x2 : Int) (x3 : Int) (x5 : Int) (n6 : Nat) (c6 : Nat) (l6 : List Go.Value) (n7 : Nat) (c7 : Nat) (l7 : List Go.Value) (k : List D → Prop) : gNsnss C L n0 c0 l0 x1 x2 x3 x5 n6 c6 l6 n7 c7 l7 k =
 (((Says C 5 [] kT) ∧
 (bcase (decide ((↑n0 : Int) ≤ 12))
 (bcase (dL n0 2 l0)
 (∃ n1 : Int,
 ((Says C 7 [(D.agg [(Dw n0 2 l0), (dI x1), (dI x2), (dI x3)]), (D.agg [D.nil, (dI x5)])] [(dI n1)]) ∧
 (bcase (n1 != 0)
 (k kT)
 (bcase ((↑n6 : Int) == 0)
 (k kT)
 (bcase (decide ((↑n6 : Int) > 5))
 (k kT)
 (bcase (dL n6 2 l6)
 (∃ n2 : Int,
 ((Says C 8 [(Dw n6 2 l6)] [(dI n2)]) ∧
 (bcase (n2 != 0)
 (k kT)
 (bcase ((↑n7 : Int) == 0)
 (k kT)
 (bcase (decide ((↑n7 : Int) > 60))
 (k kT)
 (L 0 [(Prod.mk 3 (Pt 1000 0)), (Prod.mk 4 (Pt 1001 0)), (Prod.mk 5 (Pt 1002 0)), (Prod.mk 7 (vI 0)), (Prod.mk 8 (vI 0))] [(Prod.mk 1000 (AObj.cells [(Sl 500 (n0) (c0)), (vI x1), (vI x2), (vI x3)] 28 false 1)), (Prod.mk 1001 (AObj.cells [(Value.slice none 0 0), (vI x5)] 31 false 1)), (Prod.mk 1002 (AObj.cells [(Sl 501 (n6) (c6)), (Sl 502 (n7) (c7))] 34 false 1)), (Prod.mk 500 (AObj.sym (l0) false 2)), (Prod.mk 501 (AObj.sym (l6) false 2)), (Prod.mk 502 (AObj.sym (l7) false 1))]))))))
 False))))))
 False)
 (k kT))) ∨
 ((Says C 5 [] kF) ∧
 (k kF))) := by kernel_rfl
def gNsnsn (C : Ct) (L : AtLoop) (n0 : Nat) (c0 : Nat) (l0 : List Value) (x1 : Int) (x2 : Int) (x3 : Int) (x5 : Int) (n6 : Nat) (c6 : Nat) (l6 : List Value) (k : List D → Prop) : Prop := wpFn Try.prog (hL C) L 0 3 #[.agg #[.slice (some ⟨500, 0, none⟩) n0 c0, .int .i64 x1, .int .i64 x2, .int .i64 x3], .agg #[.slice none 0 0, .int .i64 x5], .agg #[.slice (some ⟨501, 0, none⟩) n6 c6, .slice none 0 0]] (heapOf [(500, .sym l0 false 2), (501, .sym l6 false 2)]) (dataK k)
theorem gNsnsn_text (C : Ct) (L : AtLoop) (n0 : Nat) (c0 : Nat) (l0 : List Go.Value) (x1 : Int) (x2 : Int) (x3 : Int) (x5 : Int) (n6 : Nat) (c6 : Nat) (l6 : List Go.Value) (k : List D → Prop) : gNsnsn C L n0 c0 l0 x1 x2 x3 x5 n6 c6 l6 k =
 (((Says C 5 [] kT) ∧
 (bcase (decide ((↑n0 : Int) ≤ 12))
 (bcase (dL n0 2 l0)
 (∃ n1 : Int,
 ((Says C 7 [(D.agg [(Dw n0 2 l0), (dI x1), (dI x2), (dI x3)]), (D.agg [D.nil, (dI x5)])] [(dI n1)]) ∧
 (bcase (n1 != 0)
 (k kT)
 (bcase ((↑n6 : Int) == 0)
 (k kT)
 (bcase (decide ((↑n6 : Int) > 5))
 (k kT)
 (bcase (dL n6 2 l6)
 (∃ n2 : Int,
 ((Says C 8 [(Dw n6 2 l6)] [(dI n2)]) ∧
 (bcase (n2 != 0)
 (k kT)
 (k kT))))
 False))))))
 False)
 (k kT))) ∨
 ((Says C 5 [] kF) ∧
 (k kF))) := by kernel_rfl
def gNsnns (C : Ct) (L : AtLoop) (n0 : Nat) (c0 : Nat) (l0 : List Value) (x1 : Int) (x2 : Int) (x3 : Int) (x5 : Int) (n7 : Nat) (c7 : Nat) (l7 : List Value) (k : List D → Prop) : Prop := wpFn Try.prog (hL C) L 0 3 #[.agg #[.slice (some ⟨500, 0, none⟩) n0 c0, .int .i64 x1, .int .i64 x2, .int .i64 x3], .agg #[.slice none 0 0, .int .i64 x5], .agg #[.slice none 0 0, .slice (some ⟨501, 0, none⟩) n7 c7]] (heapOf [(500, .sym l0 false 2), (501, .sym l7 false 1)]) (dataK k)
theorem gNsnns_text (C : Ct) (L : AtLoop) (n0 : Nat) (c0 : Nat) (l0 : List Go.Value) (x1 : Int) (x2 : Int) (x3 : Int) (x5 : Int) (n7 : Nat) (c7 : Nat) (l7 : List Go.Value) (k : List D → Prop) : gNsnns C L n0 c0 l0 x1 x2 x3 x5 n7 c7 l7 k =
 (((Says C 5 [] kT) ∧
 (bcase (decide ((↑n0 : Int) ≤ 12))
 (bcase (dL n0 2 l0)
 (∃ n1 : Int,
 ((Says C 7 [(D.agg [(Dw n0 2 l0), (dI x1), (dI x2), (dI x3)]), (D.agg [D.nil, (dI x5)])] [(dI n1)]) ∧
 (bcase (n1 != 0)
 (k kT)
 (k kT))))
 False)
 (k kT))) ∨
 ((Says C 5 [] kF) ∧
 (k kF))) := by kernel_rfl
def gNsnnn (C : Ct) (L : AtLoop) (n0 : Nat) (c0 : Nat) (l0 : List Value) (x1 : Int) (x2 : Int) (x3 : Int) (x5 : Int) (k : List D → Prop) : Prop := wpFn Try.prog (hL C) L 0 3 #[.agg #[.slice (some ⟨500, 0, none⟩) n0 c0, .int .i64 x1, .int .i64 x2, .int .i64 x3], .agg #[.slice none 0 0, .int .i64 x5], .agg #[.slice none 0 0, .slice none 0 0]] (heapOf [(500, .sym l0 false 2)]) (dataK k)
theorem gNsnnn_text (C : Ct) (L : AtLoop) (n0 : Nat) (c0 : Nat) (l0 : List Go.Value) (x1 : Int) (x2 : Int) (x3 : Int) (x5 : Int) (k : List D → Prop) : gNsnnn C L n0 c0 l0 x1 x2 x3 x5 k =
 (((Says C 5 [] kT) ∧
 (bcase (decide ((↑n0 : Int) ≤ 12))
 (bcase (dL n0 2 l0)
 (∃ n1 : Int,
 ((Says C 7 [(D.agg [(Dw n0 2 l0), (dI x1), (dI x2), (dI x3)]), (D.agg [D.nil, (dI x5)])] [(dI n1)]) ∧
 (bcase (n1 != 0)
 (k kT)
 (k kT))))
 False)
 (k kT))) ∨
 ((Says C 5 [] kF) ∧
 (k kF))) := by kernel_rfl
def gNnsss (C : Ct) (L : AtLoop) (x1 : Int) (x2 : Int) (x3 : Int) (n4 : Nat) (c4 : Nat) (l4 : List Value) (x5 : Int) (n6 : Nat) (c6 : Nat) (l6 : List Value) (n7 : Nat) (c7 : Nat) (l7 : List Value) (k : List D → Prop) : Prop := wpFn Try.prog (hL C) L 0 3 #[.agg #[.slice none 0 0, .int .i64 x1, .int .i64 x2, .int .i64 x3], .agg #[.slice (some ⟨500, 0, none⟩) n4 c4, .int .i64 x5], .agg #[.slice (some ⟨501, 0, none⟩) n6 c6, .slice (some ⟨502, 0, none⟩) n7 c7]] (heapOf [(500, .sym l4 false 1), (501, .sym l6 false 2), (502, .sym l7 false 1)]) (dataK k)
theorem gNnsss_text (C : Ct) (L : AtLoop) (x1 : Int) (x2 : Int) (x3 : Int) (n4 : Nat) (c4 : Nat) (l4 : List Go.Value) (x5 : Int) (n6 : Nat) (c6 : Nat) (l6 : List Go.Value) (n7 : Nat) (c7 : Nat) (l7 : List Go.Value) (k : List D → Prop) : gNnsss C L x1 x2 x3 n4 c4 l4 x5 n6 c6 l6 n7 c7 l7 k =
 (((Says C 5 [] kT) ∧
 (bcase (decide ((↑n4 : Int) ≤ 10))
 (bcase (dL n4 1 l4)
 (∃ n1 : Int,
 ((Says C 7 [(D.agg [D.nil, (dI x1), (dI x2), (dI x3)]), (D.agg [(Dw n4 1 l4), (dI x5)])] [(dI n1)]) ∧
 (bcase (n1 != 0)
 (k kT)
 (bcase ((↑n6 : Int) == 0)
 (k kT)
 (bcase (decide ((↑n6 : Int) > 5))
 (k kT)
 (bcase (dL n6 2 l6)
 (∃ n2 : Int,
 ((Says C 8 [(Dw n6 2 l6)] [(dI n2)]) ∧
 (bcase (n2 != 0)
 (k kT)
 (bcase ((↑n7 : Int) == 0)
 (k kT)
 (bcase (decide ((↑n7 : Int) > 60))
 (k kT)
 (L 0 [(Prod.mk 3 (Pt 1000 0)), (Prod.mk 4 (Pt 1001 0)), (Prod.mk 5 (Pt 1002 0)), (Prod.mk 7 (vI 0)), (Prod.mk 8 (vI 0))] [(Prod.mk 1000 (AObj.cells [(Value.slice none 0 0), (vI x1), (vI x2), (vI x3)] 28 false 1)), (Prod.mk 1001 (AObj.cells [(Sl 500 (n4) (c4)), (vI x5)] 31 false 1)), (Prod.mk 1002 (AObj.cells [(Sl 501 (n6) (c6)), (Sl 502 (n7) (c7))] 34 false 1)), (Prod.mk 500 (AObj.sym (l4) false 1)), (Prod.mk 501 (AObj.sym (l6) false 2)), (Prod.mk 502 (AObj.sym (l7) false 1))]))))))
 False))))))
 False)
 (k kT))) ∨
 ((Says C 5 [] kF) ∧
 (k kF))) := by kernel_rfl
def gNnssn (C : Ct) (L : AtLoop) (x1 : Int) (x2 : Int) (x3 : Int) (n4 : Nat) (c4 : Nat) (l4 : List Value) (x5 : Int) (n6 : Nat) (c6 : Nat) (l6 : List Value) (k : List D → Prop) : Prop := wpFn Try.prog (hL C) L 0 3 #[.agg #[.slice none 0 0, .int .i64 x1, .int .i64 x2, .int .i64 x3], .agg #[.slice (some ⟨500, 0, none⟩) n4 c4, .int .i64 x5], .agg #[.slice (some ⟨501, 0, none⟩) n6 c6, .slice none 0 0]] (heapOf [(500, .sym l4 false 1), (501, .sym l6 false 2)]) (dataK k)
theorem gNnssn_text (C : Ct) (L : AtLoop) (x1 : Int) (x2 : Int) (x3 : Int) (n4 : Nat) (c4 : Nat) (l4 : List Go.Value) (x5 : Int) (n6 : Nat) (c6 : Nat) (l6 : List Go.Value) (k : List D → Prop) : gNnssn C L x1 x2 x3 n4 c4 l4 x5 n6 c6 l6 k =
 (((Says C 5 [] kT) ∧
 (bcase (decide ((↑n4 : Int) ≤ 10))
 (bcase (dL n4 1 l4)
 (∃ n1 : Int,
 ((Says C 7 [(D.agg [D.nil, (dI x1), (dI x2), (dI x3)]), (D.agg [(Dw n4 1 l4), (dI x5)])] [(dI n1)]) ∧
 (bcase (n1 != 0)
 (k kT)
 (bcase ((↑n6 : Int) == 0)
 (k kT)
 (bcase (decide ((↑n6 : Int) > 5))
 (k kT)
 (bcase (dL n6 2 l6)
 (∃ n2 : Int,
 ((Says C 8 [(Dw n6 2 l6)] [(dI n2)]) ∧
 (bcase (n2 != 0)
 (k kT)
 (k kT))))
 False))))))
 False)
 (k kT))) ∨
 ((Says C 5 [] kF) ∧
 (k kF))) := by kernel_rfl
def gNnsns (C : Ct) (L : AtLoop) (x1 : Int) (x2 : Int) (x3 : Int) (n4 : Nat) (c4 : Nat) (l4 : List Value) (x5 : Int) (n7 : Nat) (c7 : Nat) (l7 : List Value) (k : List D → Prop) : Prop := wpFn Try.prog (hL C) L 0 3 #[.agg #[.slice none 0 0, .int .i64 x1, .int .i64 x2, .int .i64 x3], .agg #[.slice (some ⟨500, 0, none⟩) n4 c4, .int .i64 x5], .agg #[.slice none 0 0, .slice (some ⟨501, 0, none⟩) n7 c7]] (heapOf [(500, .sym l4 false 1), (501, .sym l7 false 1)]) (dataK k)
theorem gNnsns_text (C : Ct) (L : AtLoop) (x1 : Int) (x2 : Int) (x3 : Int) (n4 : Nat) (c4 : Nat) (l4 : List Go.Value) (x5 : Int) (n7 : Nat) (c7 : Nat) (l7 : List Go.Value) (k : List D → Prop) : gNnsns C L x1 x2 x3 n4 c4 l4 x5 n7 c7 l7 k =
 (((Says C 5 [] kT) ∧
 (bcase (decide ((↑n4 : Int) ≤ 10))
 (bcase (dL n4 1 l4)
 (∃ n1 : Int,
 ((Says C 7 [(D.agg [D.nil, (dI x1), (dI x2), (dI x3)]), (D.agg [(Dw n4 1 l4), (dI x5)])] [(dI n1)]) ∧
 (bcase (n1 != 0)
 (k kT)
 (k kT))))
 False)
 (k kT))) ∨
 ((Says C 5 [] kF) ∧
 (k kF))) := by kernel_rfl
def gNnsnn (C : Ct) (L : AtLoop) (x1 : Int) (x2 : Int) (x3 : Int) (n4 : Nat) (c4 : Nat) (l4 : List Value) (x5 : Int) (k : List D → Prop) : Prop := wpFn Try.prog (hL C) L 0 3 #[.agg #[.slice none 0 0, .int .i64 x1, .int .i64 x2, .int .i64 x3], .agg #[.slice (some ⟨500, 0, none⟩) n4 c4, .int .i64 x5], .agg #[.slice none 0 0, .slice none 0 0]] (heapOf [(500, .sym l4 false 1)]) (dataK k)
theorem gNnsnn_text (C : Ct) (L : AtLoop) (x1 : Int) (x2 : Int) (x3 : Int) (n4 : Nat) (c4 : Nat) (l4 : List Go.Value) (x5 : Int) (k : List D → Prop) : gNnsnn C L x1 x2 x3 n4 c4 l4 x5 k =
 (((Says C 5 [] kT) ∧
 (bcase (decide ((↑n4 : Int) ≤ 10))
 (bcase (dL n4 1 l4)
 (∃ n1 : Int,
 ((Says C 7 [(D.agg [D.nil, (dI x1), (dI x2), (dI x3)]), (D.agg [(Dw n4 1 l4), (dI x5)])] [(dI n1)]) ∧
 (bcase (n1 != 0)
 (k kT)
 (k kT))))
 False)
 (k kT))) ∨
 ((Says C 5 [] kF) ∧
 (k kF))) := by kernel_rfl
def gNnnss (C : Ct) (L : AtLoop) (x1 : Int) (x2 : Int) (x3 : Int) (x5 : Int) (n6 : Nat) (c6 : Nat) (l6 : List Value) (n7 : Nat) (c7 : Nat) (l7 : List Value) (k : List D → Prop) : Prop := wpFn Try.prog (hL C) L 0 3 #[.agg #[.slice none 0 0, .int .i64 x1, .int .i64 x2, .int .i64 x3], .agg #[.slice none 0 0, .int .i64 x5], .agg #[.slice (some ⟨500, 0, none⟩) n6 c6, .slice (some ⟨501, 0, none⟩) n7 c7]] (heapOf [(500, .sym l6 false 2), (501, .sym l7 false 1)]) (dataK k)
theorem gNnnss_text (C : Ct) (L : AtLoop) (x1 : Int) (x2 : Int) (x3 : Int) (x5 : Int) (n6 : Nat) (c6 : Nat) (l6 : List Go.Value) (n7 : Nat) (c7 : Nat) (l7 : List Go.Value) (k : List D → Prop) : gNnnss C L x1 x2 x3 x5 n6 c6 l6 n7 c7 l7 k =
 (((Says C 5 [] kT) ∧
 (∃ n1 : Int,
 ((Says C 7 [(D.agg [D.nil, (dI x1), (dI x2), (dI x3)]), (D.agg [D.nil, (dI x5)])] [(dI n1)]) ∧
 (bcase (n1 != 0)
 (k kT)
 (bcase ((↑n6 : Int) == 0)
 (k kT)
 (bcase (decide ((↑n6 : Int) > 5))
 (k kT)
 (bcase (dL n6 2 l6)
 (∃ n2 : Int,
 ((Says C 8 [(Dw n6 2 l6)] [(dI n2)]) ∧
 (bcase (n2 != 0)
 (k kT)
 (bcase ((↑n7 : Int) == 0)
 (k kT)
 (bcase (decide ((↑n7 : Int) > 60))
 (k kT)
 (L 0 [(Prod.mk 3 (Pt 1000 0)), (Prod.mk 4 (Pt 1001 0)), (Prod.mk 5 (Pt 1002 0)), (Prod.mk 7 (vI 0)), (Prod.mk 8 (vI 0))] [(Prod.mk 1000 (AObj.cells [(Value.slice none 0 0), (vI x1), (vI x2), (vI x3)] 28 false 1)), (Prod.mk 1001 (AObj.cells [(Value.slice none 0 0), (vI x5)] 31 false 1)), (Prod.mk 1002 (AObj.cells [(Sl 500 (n6) (c6)), (Sl 501 (n7) (c7))] 34 false 1)), (Prod.mk 500 (AObj.sym (l6) false 2)), (Prod.mk 501 (AObj.sym (l7) false 1))]))))))
 False))))))) ∨
 ((Says C 5 [] kF) ∧
 (k kF))) := by kernel_rfl
def gNnnsn (C : Ct) (L : AtLoop) (x1 : Int) (x2 : Int) (x3 : Int) (x5 : Int) (n6 : Nat) (c6 : Nat) (l6 : List Value) (k : List D → Prop) : Prop := wpFn Try.prog (hL C) L 0 3 #[.agg #[.slice none 0 0, .int .i64 x1, .int .i64 x2, .int .i64 x3], .agg #[.slice none 0 0, .int .i64 x5], .agg #[.slice (some ⟨500, 0, none⟩) n6 c6, .slice none 0 0]] (heapOf [(500, .sym l6 false 2)]) (dataK k)
theorem gNnnsn_text (C : Ct) (L : AtLoop) (x1 : Int) (x2 : Int) (x3 : Int) (x5 : Int) (n6 : Nat) (c6 : Nat) (l6 : List Go.Value) (k : List D → Prop) : gNnnsn C L x1 x2 x3 x5 n6 c6 l6 k =
 (((Says C 5 [] kT) ∧
 (∃ n1 : Int,
 ((Says C 7 [(D.agg [D.nil, (dI x1), (dI x2), (dI x3)]), (D.agg [D.nil, (dI x5)])] [(dI n1)]) ∧
 (bcase (n1 != 0)
 (k kT)
 (bcase ((↑n6 : Int) == 0)
 (k kT)
 (bcase (decide ((↑n6 : Int) > 5))
 (k kT)
 (bcase (dL n6 2 l6)
 (∃ n2 : Int,
 ((Says C 8 [(Dw n6 2 l6)] [(dI n2)]) ∧
 (bcase (n2 != 0)
 (k kT)
 (k kT))))
 False))))))) ∨
 ((Says C 5 [] kF) ∧
 (k kF))) := by kernel_rfl
def gNnnns (C : Ct) (L : AtLoop) (x1 : Int) (x2 : Int) (x3 : Int) (x5 : Int) (n7 : Nat) (c7 : Nat) (l7 : List Value) (k : List D → Prop) : Prop := wpFn Try.prog (hL C) L 0 3 #[.agg #[.slice none 0 0, .int .i64 x1, .int .i64 x2, .int .i64 x3], .agg #[.slice none 0 0, .int .i64 x5], .agg #[.slice none 0 0, .slice (some ⟨500, 0, none⟩) n7 c7]] (heapOf [(500, .sym l7 false 1)]) (dataK k)
theorem gNnnns_text (C : Ct) (L : AtLoop) (x1 : Int) (x2 : Int) (x3 : Int) (x5 : Int) (n7 : Nat) (c7 : Nat) (l7 : List Go.Value) (k : List D → Prop) : gNnnns C L x1 x2 x3 x5 n7 c7 l7 k =
 (((Says C 5 [] kT) ∧
 (∃ n1 : Int,
 ((Says C 7 [(D.agg [D.nil, (dI x1), (dI x2), (dI x3)]), (D.agg [D.nil, (dI x5)])] [(dI n1)]) ∧
 (bcase (n1 != 0)
 (k kT)
 (k kT))))) ∨
 ((Says C 5 [] kF) ∧
 (k kF))) := by kernel_rfl
def gNnnnn (C : Ct) (L : AtLoop) (x1 : Int) (x2 : Int) (x3 : Int) (x5 : Int) (k : List D → Prop) : Prop := wpFn Try.prog (hL C) L 0 3 #[.agg #[.slice none 0 0, .int .i64 x1, .int .i64 x2, .int .i64 x3], .agg #[.slice none 0 0, .int .i64 x5], .agg #[.slice none 0 0, .slice none 0 0]] (heapOf []) (dataK k)
theorem gNnnnn_text (C : Ct) (L : AtLoop) (x1 : Int) (x2 : Int) (x3 : Int) (x5 : Int) (k : List D → Prop) : gNnnnn C L x1 x2 x3 x5 k =
 (((Says C 5 [] kT) ∧
 (∃ n1 : Int,
 ((Says C 7 [(D.agg [D.nil, (dI x1), (dI x2), (dI x3)]), (D.agg [D.nil, (dI x5)])] [(dI n1)]) ∧
 (bcase (n1 != 0)
 (k kT)
 (k kT))))) ∨
 ((Says C 5 [] kF) ∧
 (k kF))) := by kernel_rfl
end Go.Proofs.G5j

/- The enclosure holds for every emissivity (no program in it). -/
namespace Go.Proofs.G2
open Go.Abs
theorem half_em (T : List Pt) {a em b share : Int} (h : a ≤ em ∧ em ≤ b) (hs : 0 ≤ share) (set x : Int) :
    (half T a set share x ≤ half T em set share x ∧ half T em set share x ≤ half T b set share x) ∨ (half T b set share x ≤ half T em set share x ∧ half T em set share x ≤ half T a set share x) := by
  simp only [half_k]
  have m1 : a * share ≤ em * share := Int.mul_le_mul_of_nonneg_right h.1 hs
  have m2 : em * share ≤ b * share := Int.mul_le_mul_of_nonneg_right h.2 hs
  rcases Int.le_total 0 (rad set T - rad x T) with g | g
  · left
    have q1 := Int.ediv_le_ediv (show (0 : Int) < 1000000 by decide) (Int.mul_le_mul_of_nonneg_right m1 g)
    have q2 := Int.ediv_le_ediv (show (0 : Int) < 1000000 by decide) (Int.mul_le_mul_of_nonneg_right m2 g)
    omega
  · right
    have q1 := Int.ediv_le_ediv (show (0 : Int) < 1000000 by decide) (Int.mul_le_mul_of_nonpos_right m1 g)
    have q2 := Int.ediv_le_ediv (show (0 : Int) < 1000000 by decide) (Int.mul_le_mul_of_nonpos_right m2 g)
    omega
theorem low_le {T : List Pt} (hT : OkT T) {a em b share : Int} (h : a ≤ em ∧ em ≤ b) (he : 0 ≤ em ∧ em ≤ 1000) (hs : 0 ≤ share ∧ share ≤ 1000) (set : Int) {x y : Int} (hxy : x ≤ y) :
    lowR (fun z => rad z T) false a b (rad set T) (rad set T) share x ≤ half T em set share y := by
  have e1 := half_em T h hs.1 set x
  have e2 := half_mono hT he hs set hxy
  show (if half T b set share x < half T a set share x then half T b set share x else half T a set share x) ≤ _
  split <;> omega
theorem high_ge {T : List Pt} (hT : OkT T) {a em b share : Int} (h : a ≤ em ∧ em ≤ b) (he : 0 ≤ em ∧ em ≤ 1000) (hs : 0 ≤ share ∧ share ≤ 1000) (set : Int) {x y : Int} (hxy : y ≤ x) :
    half T em set share y ≤ lowR (fun z => rad z T) true a b (rad set T) (rad set T) share x := by
  have e1 := half_em T h hs.1 set x
  have e2 := half_mono hT he hs set hxy
  show _ ≤ (if half T a set share x < half T b set share x then half T b set share x else half T a set share x)
  split <;> omega
/-- each node lies between those of two other slabs -/
structure Hold (l n h : List Int) : Prop where
  lo : l.length = n.length
  hi : h.length = n.length
  all : ∀ i, i < n.length → gd l i ≤ gd n i ∧ gd n i ≤ gd h i
theorem Hold.refl (l : List Int) : Hold l l l := ⟨rfl, rfl, fun _ _ => ⟨Int.le_refl _, Int.le_refl _⟩⟩
theorem hold_step {T : List Pt} (hT : OkT T) {mi a em b bo : Int} (hm : 0 ≤ mi ∧ mi ≤ 50) (h : a ≤ em ∧ em ≤ b) (he : 0 ≤ em ∧ em ≤ 1000) (hb : 0 ≤ bo ∧ bo ≤ 1000) (set : Int) {l n u : List Int} (H : Hold l n u) :
    Hold (encS (fun z => rad z T) false mi a b (rad set T) (rad set T) bo l) (stepL T mi em set bo n) (encS (fun z => rad z T) true mi a b (rad set T) (rad set T) bo u) := by
  have hl := H.lo
  have hu := H.hi
  refine ⟨by simp [encS, hl], by simp [encS, hu], fun i hi => ?_⟩
  rw [stepL_length] at hi
  have hn0 : 0 < n.length := by omega
  constructor
  · rw [encS, stepL, gd_mix (by simp; omega), gd_mix (by simp; omega)]
    refine mixAt_mono hm (by simp [hl]) (fun j hj => ?_) (by simp; omega)
    have hj : j < l.length := by simpa using hj
    rw [gd_set (by simpa using hj), gd_set hj, gd_first (by omega), ← hl]
    split
    · rename_i e; rw [← e]; exact low_le hT h he (by decide) set (H.all _ (by omega)).1
    · split
      · rename_i e; rw [← e]; exact low_le hT h he hb set (H.all 0 hn0).1
      · exact (H.all j (by omega)).1
  · rw [encS, stepL, gd_mix (by simp; omega), gd_mix (by simp; omega)]
    refine mixAt_mono hm (by simp [hu]) (fun j hj => ?_) (by simp; omega)
    have hj : j < n.length := by simpa using hj
    rw [gd_set (by simp; omega), gd_set (by omega), gd_first hj, hu]
    split
    · rename_i e; rw [← e]; exact high_ge hT h he (by decide) set (H.all _ (by omega)).2
    · split
      · rename_i e; rw [← e]; exact high_ge hT h he hb set (H.all 0 hn0).2
      · exact (H.all j (by omega)).2
end Go.Proofs.G2

/- FurnaceEnclosed in data. -/
namespace Go.Proofs.G5j
open Go Go.Abs Go.Proofs Go.Proofs.G2
set_option maxRecDepth 100000
theorem both0 {a b : Int} (h : both a b = 0) : a = 0 ∧ b = 0 := by unfold both at h; split at h <;> omega
/-- the steps of zones -/
def smZ : List (Int × Int) → Int
  | [] => 0
  | p :: r => p.2 + smZ r
theorem smZ_append : ∀ (a b : List (Int × Int)), smZ (a ++ b) = smZ a + smZ b
  | [], b => by simp [smZ]
  | p :: r, b => by rw [List.cons_append, smZ, smZ, smZ_append r b]; omega
theorem smZ_snoc {z : List (Int × Int)} {i : Nat} (h : i < z.length) : smZ (z.take (i + 1)) = smZ (z.take i) + z[i].2 := by
  rw [List.take_succ_eq_append_getElem h, smZ_append]; simp [smZ]
theorem smZ_in : ∀ {z : List (Int × Int)}, OkZ z → 0 ≤ smZ z ∧ smZ z ≤ 1000 * z.length
  | [], _ => by simp [smZ]
  | p :: r, h => by
    have h1 := h p (List.mem_cons_self ..)
    have h2 := smZ_in (z := r) (fun q hq => h q (List.mem_cons_of_mem _ hq))
    rw [smZ, List.length_cons]; omega
theorem smZ_take {z : List (Int × Int)} (h : OkZ z) (i : Nat) : 0 ≤ smZ (z.take i) ∧ smZ (z.take i) ≤ 1000 * (z.take i).length := smZ_in fun p hp => h p (List.mem_of_mem_take hp)
theorem smZ_drop {z : List (Int × Int)} (h : OkZ z) (i : Nat) : smZ (z.take i) ≤ smZ z := by
  have e := smZ_append (z.take i) (z.drop i)
  rw [List.take_append_drop] at e
  have := (smZ_in (z := z.drop i) fun p hp => h p (List.mem_of_mem_drop hp)).1
  omega
theorem rdy_yes {ta tb : Int} : ∀ {l : List (Int × Int)} (o : Int), (∀ p ∈ l, ta ≤ p.1 ∧ p.1 ≤ p.2 ∧ p.2 ≤ tb) → rdy ta tb o l = o
  | [], _, _ => rfl
  | p :: r, o, h => by
    have h1 := h p (List.mem_cons_self ..)
    rw [rdy, if_neg (by omega), if_neg (by omega)]
    exact rdy_yes o fun q hq => h q (List.mem_cons_of_mem _ hq)
structure LawE (ps : List Pt) (m lo hi : Int) (l : List Int) (bo : Int) (z : List (Int × Int)) (t : List Int) : Prop where
  v : ValJ ps m lo hi l bo z
  er : rulE ps m lo hi = 0
  es : slE l bo = 0
  ez : rtE z = 0
  lh : lo ≤ hi
  t1 : 1 ≤ t.length
  t60 : t.length ≤ 60
theorem slE_nod {l : List Int} {bo : Int} (N : NodOK l) (hb : 0 ≤ bo ∧ bo ≤ 1000) : slE l bo = 0 := by
  have := N.two; have := N.few
  unfold slE
  rw [if_neg (by omega), if_neg (by omega), if_pos ⟨N.all, hb⟩]
theorem rul_le {ps : List Pt} {m lo hi : Int} (h : rulE ps m lo hi = 0) : lo ≤ hi := by
  unfold rulE at h
  repeat' split at h
  all_goals first | omega | (simp_all; done)
theorem nod_gd {l : List Int} (N : NodOK l) {i : Nat} (h : i < l.length) : 0 ≤ gd l i ∧ gd l i ≤ 20000 := N.all _ (gd_mem h)
theorem step_nod {ps : List Pt} {m em set bo : Int} (o : OkS ps m em bo) (hs : 0 ≤ set ∧ set ≤ 20000) {l : List Int} (N : NodOK l) : NodOK (stepL ps m em set bo l) := by
  refine ⟨by rw [stepL_length]; exact N.two, by rw [stepL_length]; exact N.few, fun x hx => ?_⟩
  obtain ⟨i, hi, rfl⟩ := List.mem_iff_getElem.1 hx
  rw [gd_at hi]
  exact step_in o (lo := 0) (hi := 20000) hs (fun j hj => nod_gd N hj) (by rwa [stepL_length] at hi)
theorem tmod_nat {a : Int} (h : 0 ≤ a) (n : Nat) : Int.tmod a (n : Int) = ((a.toNat % n : Nat) : Int) := by
  rw [Int.tmod_eq_emod_of_nonneg h, Int.natCast_emod, Int.toNat_of_nonneg h]
theorem bc_n {a b : Int} {x y : Prop} (h : a ≠ b) : bcase (a != b) x y = x := by rw [show (a != b) = true by simpa using h]; rfl
theorem lawE (ps : List Pt) (m lo hi : Int) (l : List Int) (bo : Int) (z : List (Int × Int)) (t : List Int) : C5 3 [dRu ps m lo hi, dSl l bo, .agg [.sl z.length 2 (vp z), .sl t.length 1 (vi t)]] [.val (.bool true)] := by
  let rd : Int → Int := fun x => rad x ps
  let V : Prop := LawE ps m lo hi l bo z t
  let Lz : Nat → List Int := fun i => encZ rd false m lo hi bo (z.take i) l
  let Hz : Nat → List Int := fun i => encZ rd true m lo hi bo (z.take i) l
  let inv0 : (Nat × Nat × Nat × Nat × Nat) → Prop := fun x => V ∧ x.1 ≤ z.length
  let st0 : (Nat × Nat × Nat × Nat × Nat) → Slots × Blocks := fun x => zN1 (smZ (z.take x.1)) (x.1 : Int) ps.length x.2.1 m lo hi l.length x.2.2.1 bo z.length x.2.2.2.1 t.length x.2.2.2.2 (vp ps) (vi l) (vp z) (vi t)
  let inv2 : (Nat × List Int × Nat × Nat × Nat × Nat) → Prop := fun x => (V ∧ smZ z ≤ 40) ∧ x.1 ≤ z.length ∧ NodOK x.2.1 ∧ x.2.1.length = l.length ∧ Hold (Lz x.1) x.2.1 (Hz x.1)
  let st2 : (Nat × List Int × Nat × Nat × Nat × Nat) → Slots × Blocks := fun x => zN3 (smZ (z.take x.1)) (x.1 : Int) ps.length x.2.2.1 m lo hi l.length x.2.2.2.1 bo z.length x.2.2.2.2.1 t.length x.2.2.2.2.2 l.length bo (vp ps) (vi l) (vp z) (vi t) (vi x.2.1)
  let E : List (Int × Int) := encP ps m lo hi bo z l
  let inv6 : (Nat × List Int × Int × Int × Nat × Nat × Nat × Nat) → Prop := fun x => V ∧ x.1 ≤ l.length ∧ (x.2.1.length = l.length ∧ Hold (encR ps false m lo hi bo z l) x.2.1 (encR ps true m lo hi bo z l)) ∧ (0 ≤ x.2.2.1 ∧ x.2.2.1 ≤ x.2.2.2.1 ∧ x.2.2.2.1 ≤ 20000) ∧ (∀ j (h : j < E.length), j < x.1 → x.2.2.1 ≤ E[j].1 ∧ E[j].2 ≤ x.2.2.2.1)
  let st6 : (Nat × List Int × Int × Int × Nat × Nat × Nat × Nat) → Slots × Blocks := fun x => zN7 l.length (x.1 : Int) ps.length x.2.2.2.2.1 m lo hi l.length x.2.2.2.2.2.1 bo z.length x.2.2.2.2.2.2.1 t.length x.2.2.2.2.2.2.2 l.length bo (vp E) x.2.2.1 x.2.2.2.1 (vp ps) (vi l) (vp z) (vi t) (vi x.2.1)
  let LL : AtLoop := fun id s b => match id with
    | 0 => ∃ y, inv0 y ∧ st0 y = (s, b)
    | 2 => ∃ y, inv2 y ∧ st2 y = (s, b)
    | 6 => ∃ y, inv6 y ∧ st6 y = (s, b)
    | _ => False
  refine con_J hokL2 mixed [] (L := LL) Try.func3 rfl (by show 4 ≤ 400; omega) rfl (pts := [0, 2, 6]) (loops := [0, 2, 6]) (by kernel_rfl) (by kernel_rfl) (fun caps _ => ?_) (fun id q1 q2 => absurd q1 q2) (fun id hid => ?_)
  · show gN C5 _ ps.length (caps 500) (vp ps) m lo hi l.length (caps 501) (vi l) bo z.length (caps 502) (vp z) t.length (caps 503) (vi t) _
    rw [gN_text]
    refine .inl ⟨⟨conA⟩, bc_dec (fun h12 => bc_dec (fun h10 => ?_) (fun _ => rfl)) (fun _ => rfl)⟩
    have cbE := conbE ps (by omega) m lo hi l (by omega) bo
    simp only [Dw, Tk, vp_whole, vi_whole, bc_t (v2le ps), bc_t (v1le l)]
    refine ⟨_, ⟨cbE⟩, bc_bne (fun _ => trivial) (fun hB => bc_beq (fun _ => trivial) (fun h1 => bc_dec (fun _ => trivial) (fun h5 => ?_)))⟩
    have crE := conrE z (by omega)
    simp only [vp_whole, bc_t (v2le z)]
    refine ⟨_, ⟨crE⟩, bc_bne (fun _ => trivial) (fun hZ => bc_beq (fun _ => trivial) (fun h2 => bc_dec (fun _ => trivial) (fun h60 => ?_)))⟩
    obtain ⟨e1, e2⟩ := both0 hB
    obtain ⟨⟨hv, hl10⟩, hm, ha, hb⟩ := rul_all e1
    obtain ⟨q2, q8, hg, hbo⟩ := sl_ok e2
    obtain ⟨hz5, hzz⟩ := rt_ok hZ
    have hlh : lo ≤ hi := rul_le e1
    exact ⟨(0, caps 500, caps 501, caps 502, caps 503), ⟨⟨⟨hv, hl10, hm, ha, hb, hbo, ⟨q2, q8, hg⟩, by omega, hz5, hzz⟩, e1, e2, hZ, hlh, by omega, by omega⟩, Nat.zero_le _⟩, rfl⟩
  · simp only [List.mem_cons, List.not_mem_nil, or_false] at hid
    rcases hid with rfl | rfl | rfl
    · refine ⟨⟨_, st0, inv0, fun x => z.length - x.1, fun s b h => h, [], [], by kernel_rfl, by kernel_rfl, ?_⟩⟩
      rintro ⟨i, c0, c1, c2, c3⟩ ⟨W, hi'⟩
      refine ⟨fun _ _ _ => False, ?_, (fun id2 q1 q2 => absurd q1 q2), (fun id2 hid2 => by cases hid2)⟩
      have hi' : i ≤ z.length := hi'
      have hz5 := W.v.z5
      have h8 := W.v.nod.few
      have h10 := W.v.few
      show rN1 C5 _ (smZ (z.take i)) (i : Int) ps.length c0 m lo hi l.length c1 bo z.length c2 t.length c3 (vp ps) (vi l) (vp z) (vi t) _ _ _
      rw [rN1_text]
      have b1 := smZ_take W.v.zz i
      have b2 : (z.take i).length ≤ 5 := by rw [List.length_take]; omega
      refine bc_dec (fun h => ?_) (fun h => ?_)
      · have h2 : i < z.length := by omega
        have p0 : (0 : Int) ≤ (i : Int) := by omega
        have hq := W.v.zz z[i] (List.getElem_mem h2)
        simp only [bc_t p0, bc_t h, Int.toNat_natCast, at1 (vp_sndA z i h2 502)]
        refine ⟨(i + 1, c0, c1, c2, c3), ⟨W, by show i + 1 ≤ z.length; omega⟩, by show z.length - (i + 1) < z.length - i; omega, ?_⟩
        rw [w64 (z := smZ (z.take i) + z[i].2) (by omega) (by omega), ← smZ_snoc h2, w64 (by omega) (by omega)]; rfl
      · show (if 0 = 0 then _ else _)
        rw [if_pos rfl]
        show nN2 C5 _ (smZ (z.take i)) ps.length c0 m lo hi l.length c1 bo z.length c2 t.length c3 (vp ps) (vi l) (vp z) (vi t) _
        rw [nN2_text]
        have e : i = z.length := by omega
        rw [e, List.take_length]
        refine bc_dec (fun _ => rfl) (fun h40 => ?_)
        simp only [Dw, Tk, vi_whole, bc_t (v1le l)]
        refine ⟨⟨conYs l (by omega) bo⟩, (0, l, c0, c1, c2, c3), ⟨⟨W, by omega⟩, Nat.zero_le _, W.v.nod, rfl, Hold.refl l⟩, rfl⟩
    · refine ⟨⟨_, st2, inv2, fun x => z.length - x.1, fun s b h => h, [4], [4], by kernel_rfl, by kernel_rfl, ?_⟩⟩
      rintro ⟨i, now0, c0, c1, c2, c3⟩ ⟨⟨W, h40⟩, hi', N0, n0, H0⟩
      have hi' : i ≤ z.length := hi'
      have N0 : NodOK now0 := N0
      have n0 : now0.length = l.length := n0
      have H0 : Hold (Lz i) now0 (Hz i) := H0
      have hz5 := W.v.z5
      have h2 := W.v.nod.two
      have h8 := W.v.nod.few
      have h10 := W.v.few
      have t1 := W.t1
      have t60 := W.t60
      have lh := W.lh
      have ha := W.v.a
      have hb := W.v.b
      let S : Int := (z.getD i (0, 0)).1
      let T : Int := (z.getD i (0, 0)).2
      let li : Nat → List Int := fun k => encN rd false m lo hi (rd S) (rd S) bo k (Lz i)
      let ri : Nat → List Int := fun k => encN rd true m lo hi (rd S) (rd S) bo k (Hz i)
      let inv4 : (Nat × List Int) → Prop := fun y => (i < z.length ∧ (y.1 : Int) ≤ T) ∧ NodOK y.2 ∧ y.2.length = l.length ∧ Hold (li y.1) y.2 (ri y.1)
      let st4 : (Nat × List Int) → Slots × Blocks := fun y => zN4 (smZ (z.take i) + (y.1 : Int)) (i : Int) (y.1 : Int) ps.length c0 m lo hi l.length c1 bo z.length c2 t.length c3 l.length bo (vp ps) (vi l) (vp z) (vi t) (vi y.2)
      refine ⟨fun _ s' bl => ∃ y, inv4 y ∧ st4 y = (s', bl), ?_, fun id2 q1 q2 => absurd q1 q2, fun id2 hid2 => ?_⟩
      · show rN3 C5 _ (smZ (z.take i)) (i : Int) ps.length c0 m lo hi l.length c1 bo z.length c2 t.length c3 l.length bo (vp ps) (vi l) (vp z) (vi t) (vi now0) _ _ _
        rw [rN3_text]
        refine bc_dec (fun h => ?_) (fun h => ?_)
        · have hi1 : i < z.length := by omega
          have hq := W.v.zz z[i] (List.getElem_mem hi1)
          refine ⟨(0, now0), ⟨⟨hi1, ?_⟩, N0, n0, H0⟩, ?_⟩
          · show ((0 : Nat) : Int) ≤ (z.getD i (0, 0)).2
            rw [List.getD_eq_getElem?_getD, List.getElem?_eq_getElem hi1]; exact hq.2.1
          · show zN4 (smZ (z.take i) + ((0 : Nat) : Int)) _ _ _ _ _ _ _ _ _ _ _ _ _ _ _ _ _ _ _ _ _ = _
            rw [show smZ (z.take i) + ((0 : Nat) : Int) = smZ (z.take i) by omega]; rfl
        · show (if 2 = 2 then _ else _)
          rw [if_pos rfl]
          show nN5 C5 _ ps.length c0 m lo hi l.length c1 bo z.length c2 t.length c3 l.length bo (vp ps) (vi l) (vp z) (vi t) (vi now0) _
          rw [nN5_text]
          have e : i = z.length := by omega
          have e1 : Lz i = encR ps false m lo hi bo z l := by show encZ _ _ _ _ _ _ (z.take i) l = _; rw [e, List.take_length]; rfl
          have e2 : Hz i = encR ps true m lo hi bo z l := by show encZ _ _ _ _ _ _ (z.take i) l = _; rw [e, List.take_length]; rfl
          rw [e1, e2] at H0
          have hE0 : eoE ps m lo hi l bo z = 0 := by unfold eoE; rw [fst0_two, fst0_two, if_pos W.er, if_pos W.es, W.ez]
          have cEO := conEO ps (by omega) m lo hi l (by omega) bo z (by omega)
          rw [if_pos hE0] at cEO
          have hp0 : (0 : Int) < (l.length : Int) := by omega
          have hn : E.length = l.length := by
            rw [List.length_zip]; show min (encZ _ _ _ _ _ _ _ _).length (encZ _ _ _ _ _ _ _ _).length = _
            rw [encZ_length, encZ_length, Nat.min_self]
          simp only [Dw, Tk, vp_whole, vi_whole, bc_t (v2le ps), bc_t (v1le l), bc_t (v2le z), bc_nf, Qv, eq_self, true_and, and_true]
          refine ⟨⟨conYr ps (by omega) m lo hi⟩, ⟨conYs l (by omega) bo⟩, ⟨conyR z (by omega)⟩, .inr ⟨_, _, _, ⟨cEO⟩, ?_⟩⟩
          simp only [bc_nf, bc_t hp0]
          have hE0' : 0 < E.length := by omega
          have NL : NodOK (encR ps false m lo hi bo z l) := encZ_ok (radOK W.v.tab W.v.few W.v.mi W.v.a W.v.b W.v.bo) false _ W.v.zz W.v.nod
          have NH : NodOK (encR ps true m lo hi bo z l) := encZ_ok (radOK W.v.tab W.v.few W.v.mi W.v.a W.v.b W.v.bo) true _ W.v.zz W.v.nod
          have nl : (encR ps false m lo hi bo z l).length = l.length := encZ_length ..
          have nh : (encR ps true m lo hi bo z l).length = l.length := encZ_length ..
          have f0 : E[0].1 = gd (encR ps false m lo hi bo z l) 0 := by show ((encR ps false m lo hi bo z l).zip (encR ps true m lo hi bo z l))[0].1 = _; rw [List.getElem_zip]; exact gd_at (by omega)
          have f1 : E[0].2 = gd (encR ps true m lo hi bo z l) 0 := by show ((encR ps false m lo hi bo z l).zip (encR ps true m lo hi bo z l))[0].2 = _; rw [List.getElem_zip]; exact gd_at (by omega)
          have g0 := nod_gd NL (i := 0) (by omega)
          have g1 := nod_gd NH (i := 0) (by omega)
          have g2 := H0.all 0 (by omega)
          exact ⟨_, _, vp_two E 0 hE0', (0, now0, E[0].1, E[0].2, c0, c1, c2, c3), ⟨W, Nat.zero_le _, ⟨n0, H0⟩, ⟨by show 0 ≤ E[0].1; omega, by show E[0].1 ≤ E[0].2; omega, by show E[0].2 ≤ 20000; omega⟩, fun j _ hj => absurd hj (Nat.not_lt_zero j)⟩, rfl⟩
      · obtain rfl := List.mem_singleton.1 hid2
        refine ⟨⟨_, st4, inv4, fun y => T.toNat - y.1, fun s' bl h => h, [], by kernel_rfl, by kernel_rfl, ?_⟩⟩
        rintro ⟨k, now⟩ ⟨⟨hi1, hkT⟩, N, nn, H⟩
        have hi1 : i < z.length := hi1
        have N : NodOK now := N
        have nn : now.length = l.length := nn
        have H : Hold (li k) now (ri k) := H
        have ez : z.getD i (0, 0) = z[i] := by rw [List.getD_eq_getElem?_getD, List.getElem?_eq_getElem hi1]; rfl
        have eS : S = z[i].1 := by show (z.getD i (0, 0)).1 = _; rw [ez]
        have eT : T = z[i].2 := by show (z.getD i (0, 0)).2 = _; rw [ez]
        have hkT : (k : Int) ≤ z[i].2 := by rw [← eT]; exact hkT
        obtain ⟨hs, ht⟩ := W.v.zz z[i] (List.getElem_mem hi1)
        have b1 := smZ_take W.v.zz i
        have b2 : smZ (z.take i) + z[i].2 ≤ 40 := by
          have := smZ_drop W.v.zz (i + 1)
          rw [smZ_snoc hi1] at this; omega
        refine ⟨fun _ _ _ => False, ?_, fun id3 h3 => by cases h3⟩
        show rN4 C5 _ (smZ (z.take i) + (k : Int)) (i : Int) (k : Int) ps.length c0 m lo hi l.length c1 bo z.length c2 t.length c3 l.length bo (vp ps) (vi l) (vp z) (vi t) (vi now) _ _ _
        rw [rN4_text]
        have p0 : (0 : Int) ≤ (i : Int) := by omega
        have p1 : (i : Int) < (z.length : Int) := by omega
        have pt : (t.length : Int) ≠ 0 := by omega
        let q : Nat := (smZ (z.take i) + (k : Int)).toNat % t.length
        have hq : q < t.length := Nat.mod_lt _ (by omega)
        have eq : Int.tmod (smZ (z.take i) + (k : Int)) (t.length : Int) = (q : Int) := tmod_nat (by omega) _
        have q0 : (0 : Int) ≤ (q : Int) := by omega
        have q1 : (q : Int) < (t.length : Int) := by omega
        have a0 : At (vp z) (0 + i * 2) 1 [vI z[i].1] := vp_one z i hi1
        have a1 : At (vp z) (Addr.off { block := 502, off := 0 + i * 2 } + 1) 1 [vI z[i].2] := vp_sndA z i hi1 502
        have aq : At (vi t) (0 + q * 1) 1 [vI t[q]] := vi_at t q hq
        have y1 : 0 + l.length * 1 ≤ (vi now).length := by have := v1le now; rwa [nn] at this
        simp only [bc_t p0, bc_t p1, Int.toNat_natCast, at1 a0, at1 a1]
        refine bc_dec (fun h => ?_) (fun h => ?_)
        · have w1 : IntKind.wrap .i64 (IntKind.wrap .i64 (hi - lo) + 1) = hi - lo + 1 := by rw [w64 (z := hi - lo) (by omega) (by omega), w64 (by omega) (by omega)]
          have hm := Int.emod_nonneg t[q] (show hi - lo + 1 ≠ 0 by omega)
          have hm2 := Int.emod_lt_of_pos t[q] (show 0 < hi - lo + 1 by omega)
          let em : Int := lo + t[q] % (hi - lo + 1)
          have he : lo ≤ em ∧ em ≤ hi := by show lo ≤ lo + _ ∧ lo + _ ≤ hi; omega
          have w2 : IntKind.wrap .i64 (lo + t[q] % (hi - lo + 1)) = em := w64 (by omega) (by omega)
          have cMo := conMo t[q] (hi - lo + 1) (by omega)
          have o : OkS ps m em bo := ⟨W.v.tab, W.v.mi, by omega, W.v.bo⟩
          have hh0 : heE ps m lo hi now bo em z[i].1 = 0 := by
            unfold heE; rw [fst0_three, fst0_two, if_pos W.er, slE_nod N W.v.bo, if_pos rfl, eErr0.2 (by omega), if_pos rfl, tErr0.2 hs]
          have cHe := conHe ps (by omega) m lo hi now (by omega) bo em z[i].1
          rw [if_pos hh0] at cHe
          let nx : List Int := stepL ps m em z[i].1 bo now
          have nnx : nx.length = l.length := by show (stepL ps m em z[i].1 bo now).length = _; rw [stepL_length, nn]
          have Nx : NodOK nx := step_nod o hs N
          have cHe : C5 11 [dRu ps m lo hi, .agg [.sl l.length 1 (vi now), dI bo], .agg [dI em, dI z[i].1]] [.agg [.sl l.length 1 (vi nx), dI bo], dI 0] := by
            have c := cHe
            rw [show dSl now bo = .agg [.sl l.length 1 (vi now), dI bo] by rw [← nn], show dSl (stepL ps m em z[i].1 bo now) bo = .agg [.sl l.length 1 (vi nx), dI bo] by rw [← nnx]] at c
            exact c
          have cSE : C5 13 [.agg [.sl l.length 1 (vi nx), dI bo]] [dI 0] := by
            have c := conSE nx (by omega) bo
            rw [slE_nod Nx W.v.bo, show dSl nx bo = .agg [.sl l.length 1 (vi nx), dI bo] by rw [← nnx]] at c
            exact c
          have cY : ∀ x : List Int, x.length = l.length → C5 9 [.agg [.sl l.length 1 (vi x), dI bo]] [.agg [.sl l.length 1 (vi x), dI bo]] := fun x hx => by
            have c := conYs x (by omega) bo
            rw [show dSl x bo = .agg [.sl l.length 1 (vi x), dI bo] by rw [← hx]] at c
            exact c
          have y2 : 0 + l.length * 1 ≤ (vi nx).length := by have := v1le nx; rwa [nnx] at this
          simp only [Dw, Tk, bc_n pt, eq, bc_t q0, bc_t q1, Int.toNat_natCast, at1 aq, w1, w2, vp_whole, vi_tk nn, bc_t (v2le ps), bc_t y1, Qv, eq_self, true_and, and_true]
          refine ⟨_, ⟨cMo⟩, ?_⟩
          simp only [w2]
          refine ⟨⟨conYr ps (by omega) m lo hi⟩, ⟨cY now nn⟩, .inr ⟨_, _, _, _, ⟨cHe⟩, ?_⟩⟩
          simp only [bc_nf, bc_t y2, vi_tk nnx]
          refine ⟨_, ⟨cSE⟩, ?_⟩
          simp only [bc_nf, bc_t y2, vi_tk nnx]
          have HS := hold_step W.v.tab W.v.mi he (by omega) W.v.bo z[i].1 H
          refine ⟨⟨cY nx nnx⟩, (k + 1, nx), ⟨⟨hi1, by rw [eT]; show ((k + 1 : Nat) : Int) ≤ _; omega⟩, Nx, nnx, ?_⟩, by rw [eT]; show z[i].2.toNat - (k + 1) < z[i].2.toNat - k; omega, ?_⟩
          · show Hold (encN _ _ _ _ _ _ _ _ (k + 1) _) nx (encN _ _ _ _ _ _ _ _ (k + 1) _)
            rw [encN_succ, encN_succ, eS]
            have HS := HS
            simp only [li, ri, eS] at HS
            exact HS
          · show zN4 (smZ (z.take i) + ((k + 1 : Nat) : Int)) _ ((k + 1 : Nat) : Int) _ _ _ _ _ _ _ _ _ _ _ _ _ _ _ _ _ _ (vi nx) = _
            rw [w64 (z := smZ (z.take i) + (k : Int) + 1) (by omega) (by omega), w64 (z := (k : Int) + 1) (by omega) (by omega), show smZ (z.take i) + ((k + 1 : Nat) : Int) = smZ (z.take i) + (k : Int) + 1 by omega]; rfl
        · simp only [if_true]
          show iN6 C5 _ (smZ (z.take i) + (k : Int)) (i : Int) ps.length c0 m lo hi l.length c1 bo z.length c2 t.length c3 l.length bo (vp ps) (vi l) (vp z) (vi t) (vi now) _ _ _
          rw [iN6_text]
          have ek : z[i].2.toNat = k := by omega
          refine ⟨(i + 1, now, c0, c1, c2, c3), ⟨⟨W, h40⟩, by show i + 1 ≤ z.length; omega, N, nn, ?_⟩, by show z.length - (i + 1) < z.length - i; omega, ?_⟩
          · show Hold (encZ _ _ _ _ _ _ (z.take (i + 1)) l) now (encZ _ _ _ _ _ _ (z.take (i + 1)) l)
            rw [encZ_snoc _ _ _ _ _ _ hi1, encZ_snoc _ _ _ _ _ _ hi1, ek]
            have H := H
            simp only [li, ri, eS] at H
            exact H
          · show zN3 (smZ (z.take (i + 1))) _ _ _ _ _ _ _ _ _ _ _ _ _ _ _ _ _ _ _ _ = _
            rw [smZ_snoc hi1, show smZ (z.take i) + z[i].2 = smZ (z.take i) + (k : Int) by omega, w64 (z := (i : Int) + 1) (by omega) (by omega)]; rfl
    · refine ⟨⟨_, st6, inv6, fun x => l.length - x.1, fun s b h => h, [], [], by kernel_rfl, by kernel_rfl, ?_⟩⟩
      rintro ⟨i, now, ta, tb, c0, c1, c2, c3⟩ ⟨W, hi', ⟨nn, H⟩, ⟨hta, htt, htb⟩, hall⟩
      refine ⟨fun _ _ _ => False, ?_, (fun id2 q1 q2 => absurd q1 q2), (fun id2 hid2 => by cases hid2)⟩
      have hi' : i ≤ l.length := hi'
      have nn : now.length = l.length := nn
      have hta : 0 ≤ ta := hta
      have htt : ta ≤ tb := htt
      have htb : tb ≤ 20000 := htb
      have hall : ∀ j (h : j < E.length), j < i → ta ≤ E[j].1 ∧ E[j].2 ≤ tb := hall
      have hz5 := W.v.z5
      have h2 := W.v.nod.two
      have h8 := W.v.nod.few
      have h10 := W.v.few
      have nl : (encR ps false m lo hi bo z l).length = l.length := encZ_length ..
      have nh : (encR ps true m lo hi bo z l).length = l.length := encZ_length ..
      have hn : E.length = l.length := by show ((encR ps false m lo hi bo z l).zip (encR ps true m lo hi bo z l)).length = _; rw [List.length_zip, nl, nh, Nat.min_self]
      have NL : NodOK (encR ps false m lo hi bo z l) := encZ_ok (radOK W.v.tab W.v.few W.v.mi W.v.a W.v.b W.v.bo) false _ W.v.zz W.v.nod
      have NH : NodOK (encR ps true m lo hi bo z l) := encZ_ok (radOK W.v.tab W.v.few W.v.mi W.v.a W.v.b W.v.bo) true _ W.v.zz W.v.nod
      have f0 : ∀ j (h : j < E.length), E[j].1 = gd (encR ps false m lo hi bo z l) j ∧ E[j].2 = gd (encR ps true m lo hi bo z l) j := fun j h => by
        have q1 : j < (encR ps false m lo hi bo z l).length := by omega
        have q2 : j < (encR ps true m lo hi bo z l).length := by omega
        have e : E[j] = ((encR ps false m lo hi bo z l)[j], (encR ps true m lo hi bo z l)[j]) := by show ((encR ps false m lo hi bo z l).zip (encR ps true m lo hi bo z l))[j] = _; rw [List.getElem_zip]
        rw [e, gd_at q1, gd_at q2]; exact ⟨rfl, rfl⟩
      show rN7 C5 _ l.length (i : Int) ps.length c0 m lo hi l.length c1 bo z.length c2 t.length c3 l.length bo (vp E) ta tb (vp ps) (vi l) (vp z) (vi t) (vi now) _ _ _
      rw [rN7_text]
      refine bc_dec (fun h => ?_) (fun h => ?_)
      · have h1 : i < l.length := by omega
        have hE : i < E.length := by omega
        have hN : i < now.length := by omega
        have p0 : (0 : Int) ≤ (i : Int) := by omega
        obtain ⟨e1, e2⟩ := f0 i hE
        have g0 := nod_gd NL (i := i) (by omega)
        have g1 := nod_gd NH (i := i) (by omega)
        have g2 := H.all i (by omega)
        have en : now[i] = gd now i := gd_at hN
        have c1' := conWi now[i] E[i].1 E[i].2
        rw [decide_eq_true (show E[i].1 ≤ now[i] ∧ now[i] ≤ E[i].2 by rw [en, e1, e2]; exact g2)] at c1'
        have c2' := conWi E[i].1 0 20000
        rw [decide_eq_true (show 0 ≤ E[i].1 ∧ E[i].1 ≤ 20000 by rw [e1]; exact g0)] at c2'
        have c3' := conWi E[i].2 0 20000
        rw [decide_eq_true (show 0 ≤ E[i].2 ∧ E[i].2 ≤ 20000 by rw [e2]; exact g1)] at c3'
        have a0 : At (vp E) (0 + i * 2) 1 [vI E[i].1] := vp_one E i hE
        have a1 : At (vp E) (Addr.off { block := 1004, off := 0 + i * 2 } + 1) 1 [vI E[i].2] := vp_sndA E i hE 1004
        have an : At (vi now) (0 + i * 1) 1 [vI now[i]] := vi_at now i hN
        simp only [bc_t p0, bc_t h, Int.toNat_natCast, at1 a0, at1 a1, at1 an, Qv, eq_self, true_and, and_true]
        refine .inl ⟨⟨c1'⟩, .inl ⟨⟨c2'⟩, .inl ⟨⟨c3'⟩, ?_⟩⟩⟩
        refine ⟨(i + 1, now, (if E[i].1 < ta then E[i].1 else ta), (if E[i].2 > tb then E[i].2 else tb), c0, c1, c2, c3), ⟨W, by show i + 1 ≤ l.length; omega, ⟨nn, H⟩, ?_, ?_⟩, by show l.length - (i + 1) < l.length - i; omega, ?_⟩
        · show (0 : Int) ≤ (if E[i].1 < ta then E[i].1 else ta) ∧ (if E[i].1 < ta then E[i].1 else ta) ≤ (if E[i].2 > tb then E[i].2 else tb) ∧ (if E[i].2 > tb then E[i].2 else tb) ≤ 20000
          repeat' split
          all_goals omega
        · intro j hj hji
          show (if E[i].1 < ta then E[i].1 else ta) ≤ E[j].1 ∧ E[j].2 ≤ (if E[i].2 > tb then E[i].2 else tb)
          have hji : j < i + 1 := hji
          rcases Nat.lt_or_ge j i with hlt | hge
          · have := hall j hj hlt
            repeat' split
            all_goals omega
          · have : j = i := by omega
            subst this
            repeat' split
            all_goals omega
        · rw [w64 (by omega) (by omega)]; rfl
      · show (if 6 = 6 then _ else _)
        rw [if_pos rfl]
        show nN8 C5 _ ps.length c0 m lo hi l.length c1 bo z.length c2 t.length c3 ta tb (vp ps) (vi l) (vp z) (vi t) _
        rw [nN8_text]
        have e : i = l.length := by omega
        have hgo : goE z ta tb = 0 := by
          have := W.v.z1
          unfold goE; rw [if_neg (fun q => q W.ez), if_neg (by omega)]
          unfold tgE; rw [if_pos (by omega), if_neg (by omega)]
        have hI0 : isE ps m lo hi l bo z ta tb = 0 := by unfold isE; rw [fst0_two, fst0_two, if_pos W.er, if_pos W.es, hgo]
        have cIs := conIsV ps (by omega) m lo hi l (by omega) bo z (by omega) ta tb hI0
        have hr : rdy ta tb 2 (encP ps m lo hi bo z l) = 2 := rdy_yes 2 fun p hp => by
          obtain ⟨j, hj, rfl⟩ := List.mem_iff_getElem.1 hp
          have hj' : j < E.length := hj
          have q1 := hall j hj' (by omega)
          obtain ⟨e1, e2⟩ := f0 j hj'
          have g2 := H.all j (by omega)
          have q1 : ta ≤ E[j].1 ∧ E[j].2 ≤ tb := q1
          show ta ≤ E[j].1 ∧ E[j].1 ≤ E[j].2 ∧ E[j].2 ≤ tb
          omega
        rw [hr] at cIs
        simp only [Dw, Tk, vp_whole, vi_whole, bc_t (v2le ps), bc_t (v1le l), bc_t (v2le z), Qv, eq_self, true_and, and_true]
        refine ⟨⟨conYr ps (by omega) m lo hi⟩, ⟨conYs l (by omega) bo⟩, ⟨conyR z (by omega)⟩, _, _, ⟨cIs⟩, ?_⟩
        simp only [bc_qt]
end Go.Proofs.G5j

/- FurnaceEnclosed in data: shapes with a nil slice. -/
namespace Go.Proofs.G5j
open Go Go.Abs Go.Proofs Go.Proofs.G2
set_option maxRecDepth 100000
theorem both_r {a b : Int} (h : b ≠ 0) : both a b ≠ 0 := by unfold both; split <;> assumption
theorem lawEsssn (ps : List Pt) (m lo hi : Int) (l : List Int) (bo : Int) (z : List (Int × Int)) : C5 3 [dRu ps m lo hi, dSl l bo, .agg [.sl z.length 2 (vp z), .nil]] [.val (.bool true)] := by
  refine con_J hokL2 mixed [] (L := fun _ _ _ => False) Try.func3 rfl (by show 3 ≤ 400; omega) rfl (pts := [0, 2, 6]) (loops := [0, 2, 6]) (by kernel_rfl) (by kernel_rfl) (fun caps _ => ?_) (fun id q1 q2 => absurd q1 q2) (fun id hid => ?_)
  · show gNsssn C5 _ ps.length (caps 500) (vp ps) m lo hi l.length (caps 501) (vi l) bo z.length (caps 502) (vp z) _
    rw [gNsssn_text]
    refine .inl ⟨⟨conA⟩, ?_⟩
    refine bc_dec (fun h12 => ?_) (fun _ => rfl)
    refine bc_dec (fun h10 => ?_) (fun _ => rfl)
    simp only [Dw, Tk, vp_whole, bc_t (v2le ps), vi_whole, bc_t (v1le l)]
    refine ⟨_, ⟨conbE ps (by omega) m lo hi l (by omega) bo⟩, bc_bne (fun _ => by first | trivial | rfl) (fun _ => bc_beq (fun _ => by first | trivial | rfl) (fun _ => bc_dec (fun _ => by first | trivial | rfl) (fun h5 => ?_)))⟩
    simp only [vp_whole, bc_t (v2le z)]
    exact ⟨_, ⟨conrE z (by omega)⟩, bc_bne (fun _ => by first | trivial | rfl) (fun _ => by first | trivial | rfl)⟩
  · simp only [List.mem_cons, List.not_mem_nil, or_false] at hid
    rcases hid with rfl | rfl | rfl
    · exact ⟨⟨Unit, fun _ => ([], []), fun _ => False, fun _ => 0, fun s b h => h.elim, [], [], by kernel_rfl, by kernel_rfl, fun _ h => h.elim⟩⟩
    · exact ⟨⟨Unit, fun _ => ([], []), fun _ => False, fun _ => 0, fun s b h => h.elim, [4], [4], by kernel_rfl, by kernel_rfl, fun _ h => h.elim⟩⟩
    · exact ⟨⟨Unit, fun _ => ([], []), fun _ => False, fun _ => 0, fun s b h => h.elim, [], [], by kernel_rfl, by kernel_rfl, fun _ h => h.elim⟩⟩
theorem lawEssns (ps : List Pt) (m lo hi : Int) (l : List Int) (bo : Int) (t : List Int) : C5 3 [dRu ps m lo hi, dSl l bo, .agg [.nil, .sl t.length 1 (vi t)]] [.val (.bool true)] := by
  refine con_J hokL2 mixed [] (L := fun _ _ _ => False) Try.func3 rfl (by show 3 ≤ 400; omega) rfl (pts := [0, 2, 6]) (loops := [0, 2, 6]) (by kernel_rfl) (by kernel_rfl) (fun caps _ => ?_) (fun id q1 q2 => absurd q1 q2) (fun id hid => ?_)
  · show gNssns C5 _ ps.length (caps 500) (vp ps) m lo hi l.length (caps 501) (vi l) bo t.length (caps 502) (vi t) _
    rw [gNssns_text]
    refine .inl ⟨⟨conA⟩, ?_⟩
    refine bc_dec (fun h12 => ?_) (fun _ => rfl)
    refine bc_dec (fun h10 => ?_) (fun _ => rfl)
    simp only [Dw, Tk, vp_whole, bc_t (v2le ps), vi_whole, bc_t (v1le l)]
    exact ⟨_, ⟨conbE ps (by omega) m lo hi l (by omega) bo⟩, bc_bne (fun _ => by first | trivial | rfl) (fun _ => by first | trivial | rfl)⟩
  · simp only [List.mem_cons, List.not_mem_nil, or_false] at hid
    rcases hid with rfl | rfl | rfl
    · exact ⟨⟨Unit, fun _ => ([], []), fun _ => False, fun _ => 0, fun s b h => h.elim, [], [], by kernel_rfl, by kernel_rfl, fun _ h => h.elim⟩⟩
    · exact ⟨⟨Unit, fun _ => ([], []), fun _ => False, fun _ => 0, fun s b h => h.elim, [4], [4], by kernel_rfl, by kernel_rfl, fun _ h => h.elim⟩⟩
    · exact ⟨⟨Unit, fun _ => ([], []), fun _ => False, fun _ => 0, fun s b h => h.elim, [], [], by kernel_rfl, by kernel_rfl, fun _ h => h.elim⟩⟩
theorem lawEssnn (ps : List Pt) (m lo hi : Int) (l : List Int) (bo : Int) : C5 3 [dRu ps m lo hi, dSl l bo, .agg [.nil, .nil]] [.val (.bool true)] := by
  refine con_J hokL2 mixed [] (L := fun _ _ _ => False) Try.func3 rfl (by show 2 ≤ 400; omega) rfl (pts := [0, 2, 6]) (loops := [0, 2, 6]) (by kernel_rfl) (by kernel_rfl) (fun caps _ => ?_) (fun id q1 q2 => absurd q1 q2) (fun id hid => ?_)
  · show gNssnn C5 _ ps.length (caps 500) (vp ps) m lo hi l.length (caps 501) (vi l) bo _
    rw [gNssnn_text]
    refine .inl ⟨⟨conA⟩, ?_⟩
    refine bc_dec (fun h12 => ?_) (fun _ => rfl)
    refine bc_dec (fun h10 => ?_) (fun _ => rfl)
    simp only [Dw, Tk, vp_whole, bc_t (v2le ps), vi_whole, bc_t (v1le l)]
    exact ⟨_, ⟨conbE ps (by omega) m lo hi l (by omega) bo⟩, bc_bne (fun _ => by first | trivial | rfl) (fun _ => by first | trivial | rfl)⟩
  · simp only [List.mem_cons, List.not_mem_nil, or_false] at hid
    rcases hid with rfl | rfl | rfl
    · exact ⟨⟨Unit, fun _ => ([], []), fun _ => False, fun _ => 0, fun s b h => h.elim, [], [], by kernel_rfl, by kernel_rfl, fun _ h => h.elim⟩⟩
    · exact ⟨⟨Unit, fun _ => ([], []), fun _ => False, fun _ => 0, fun s b h => h.elim, [4], [4], by kernel_rfl, by kernel_rfl, fun _ h => h.elim⟩⟩
    · exact ⟨⟨Unit, fun _ => ([], []), fun _ => False, fun _ => 0, fun s b h => h.elim, [], [], by kernel_rfl, by kernel_rfl, fun _ h => h.elim⟩⟩
theorem lawEsnss (ps : List Pt) (m lo hi : Int) (bo : Int) (z : List (Int × Int)) (t : List Int) : C5 3 [dRu ps m lo hi, dSn bo, .agg [.sl z.length 2 (vp z), .sl t.length 1 (vi t)]] [.val (.bool true)] := by
  refine con_J hokL2 mixed [] (L := fun _ _ _ => False) Try.func3 rfl (by show 3 ≤ 400; omega) rfl (pts := [0, 2, 6]) (loops := [0, 2, 6]) (by kernel_rfl) (by kernel_rfl) (fun caps _ => ?_) (fun id q1 q2 => absurd q1 q2) (fun id hid => ?_)
  · show gNsnss C5 _ ps.length (caps 500) (vp ps) m lo hi bo z.length (caps 501) (vp z) t.length (caps 502) (vi t) _
    rw [gNsnss_text]
    refine .inl ⟨⟨conA⟩, ?_⟩
    refine bc_dec (fun h12 => ?_) (fun _ => rfl)
    simp only [Dw, Tk, vp_whole, bc_t (v2le ps)]
    exact ⟨_, ⟨conbE1 ps (by omega) m lo hi bo⟩, bc_bne (fun _ => by first | trivial | rfl) (fun h => absurd h (both_r (by decide)))⟩
  · simp only [List.mem_cons, List.not_mem_nil, or_false] at hid
    rcases hid with rfl | rfl | rfl
    · exact ⟨⟨Unit, fun _ => ([], []), fun _ => False, fun _ => 0, fun s b h => h.elim, [], [], by kernel_rfl, by kernel_rfl, fun _ h => h.elim⟩⟩
    · exact ⟨⟨Unit, fun _ => ([], []), fun _ => False, fun _ => 0, fun s b h => h.elim, [4], [4], by kernel_rfl, by kernel_rfl, fun _ h => h.elim⟩⟩
    · exact ⟨⟨Unit, fun _ => ([], []), fun _ => False, fun _ => 0, fun s b h => h.elim, [], [], by kernel_rfl, by kernel_rfl, fun _ h => h.elim⟩⟩
theorem lawEsnsn (ps : List Pt) (m lo hi : Int) (bo : Int) (z : List (Int × Int)) : C5 3 [dRu ps m lo hi, dSn bo, .agg [.sl z.length 2 (vp z), .nil]] [.val (.bool true)] := by
  refine con_J hokL2 mixed [] (L := fun _ _ _ => False) Try.func3 rfl (by show 2 ≤ 400; omega) rfl (pts := [0, 2, 6]) (loops := [0, 2, 6]) (by kernel_rfl) (by kernel_rfl) (fun caps _ => ?_) (fun id q1 q2 => absurd q1 q2) (fun id hid => ?_)
  · show gNsnsn C5 _ ps.length (caps 500) (vp ps) m lo hi bo z.length (caps 501) (vp z) _
    rw [gNsnsn_text]
    refine .inl ⟨⟨conA⟩, ?_⟩
    refine bc_dec (fun h12 => ?_) (fun _ => rfl)
    simp only [Dw, Tk, vp_whole, bc_t (v2le ps)]
    exact ⟨_, ⟨conbE1 ps (by omega) m lo hi bo⟩, bc_bne (fun _ => by first | trivial | rfl) (fun h => absurd h (both_r (by decide)))⟩
  · simp only [List.mem_cons, List.not_mem_nil, or_false] at hid
    rcases hid with rfl | rfl | rfl
    · exact ⟨⟨Unit, fun _ => ([], []), fun _ => False, fun _ => 0, fun s b h => h.elim, [], [], by kernel_rfl, by kernel_rfl, fun _ h => h.elim⟩⟩
    · exact ⟨⟨Unit, fun _ => ([], []), fun _ => False, fun _ => 0, fun s b h => h.elim, [4], [4], by kernel_rfl, by kernel_rfl, fun _ h => h.elim⟩⟩
    · exact ⟨⟨Unit, fun _ => ([], []), fun _ => False, fun _ => 0, fun s b h => h.elim, [], [], by kernel_rfl, by kernel_rfl, fun _ h => h.elim⟩⟩
theorem lawEsnns (ps : List Pt) (m lo hi : Int) (bo : Int) (t : List Int) : C5 3 [dRu ps m lo hi, dSn bo, .agg [.nil, .sl t.length 1 (vi t)]] [.val (.bool true)] := by
  refine con_J hokL2 mixed [] (L := fun _ _ _ => False) Try.func3 rfl (by show 2 ≤ 400; omega) rfl (pts := [0, 2, 6]) (loops := [0, 2, 6]) (by kernel_rfl) (by kernel_rfl) (fun caps _ => ?_) (fun id q1 q2 => absurd q1 q2) (fun id hid => ?_)
  · show gNsnns C5 _ ps.length (caps 500) (vp ps) m lo hi bo t.length (caps 501) (vi t) _
    rw [gNsnns_text]
    refine .inl ⟨⟨conA⟩, ?_⟩
    refine bc_dec (fun h12 => ?_) (fun _ => rfl)
    simp only [Dw, Tk, vp_whole, bc_t (v2le ps)]
    exact ⟨_, ⟨conbE1 ps (by omega) m lo hi bo⟩, bc_bne (fun _ => by first | trivial | rfl) (fun h => absurd h (both_r (by decide)))⟩
  · simp only [List.mem_cons, List.not_mem_nil, or_false] at hid
    rcases hid with rfl | rfl | rfl
    · exact ⟨⟨Unit, fun _ => ([], []), fun _ => False, fun _ => 0, fun s b h => h.elim, [], [], by kernel_rfl, by kernel_rfl, fun _ h => h.elim⟩⟩
    · exact ⟨⟨Unit, fun _ => ([], []), fun _ => False, fun _ => 0, fun s b h => h.elim, [4], [4], by kernel_rfl, by kernel_rfl, fun _ h => h.elim⟩⟩
    · exact ⟨⟨Unit, fun _ => ([], []), fun _ => False, fun _ => 0, fun s b h => h.elim, [], [], by kernel_rfl, by kernel_rfl, fun _ h => h.elim⟩⟩
theorem lawEsnnn (ps : List Pt) (m lo hi : Int) (bo : Int) : C5 3 [dRu ps m lo hi, dSn bo, .agg [.nil, .nil]] [.val (.bool true)] := by
  refine con_J hokL2 mixed [] (L := fun _ _ _ => False) Try.func3 rfl (by show 1 ≤ 400; omega) rfl (pts := [0, 2, 6]) (loops := [0, 2, 6]) (by kernel_rfl) (by kernel_rfl) (fun caps _ => ?_) (fun id q1 q2 => absurd q1 q2) (fun id hid => ?_)
  · show gNsnnn C5 _ ps.length (caps 500) (vp ps) m lo hi bo _
    rw [gNsnnn_text]
    refine .inl ⟨⟨conA⟩, ?_⟩
    refine bc_dec (fun h12 => ?_) (fun _ => rfl)
    simp only [Dw, Tk, vp_whole, bc_t (v2le ps)]
    exact ⟨_, ⟨conbE1 ps (by omega) m lo hi bo⟩, bc_bne (fun _ => by first | trivial | rfl) (fun h => absurd h (both_r (by decide)))⟩
  · simp only [List.mem_cons, List.not_mem_nil, or_false] at hid
    rcases hid with rfl | rfl | rfl
    · exact ⟨⟨Unit, fun _ => ([], []), fun _ => False, fun _ => 0, fun s b h => h.elim, [], [], by kernel_rfl, by kernel_rfl, fun _ h => h.elim⟩⟩
    · exact ⟨⟨Unit, fun _ => ([], []), fun _ => False, fun _ => 0, fun s b h => h.elim, [4], [4], by kernel_rfl, by kernel_rfl, fun _ h => h.elim⟩⟩
    · exact ⟨⟨Unit, fun _ => ([], []), fun _ => False, fun _ => 0, fun s b h => h.elim, [], [], by kernel_rfl, by kernel_rfl, fun _ h => h.elim⟩⟩
theorem lawEnsss (m lo hi : Int) (l : List Int) (bo : Int) (z : List (Int × Int)) (t : List Int) : C5 3 [dRn m lo hi, dSl l bo, .agg [.sl z.length 2 (vp z), .sl t.length 1 (vi t)]] [.val (.bool true)] := by
  refine con_J hokL2 mixed [] (L := fun _ _ _ => False) Try.func3 rfl (by show 3 ≤ 400; omega) rfl (pts := [0, 2, 6]) (loops := [0, 2, 6]) (by kernel_rfl) (by kernel_rfl) (fun caps _ => ?_) (fun id q1 q2 => absurd q1 q2) (fun id hid => ?_)
  · show gNnsss C5 _ m lo hi l.length (caps 500) (vi l) bo z.length (caps 501) (vp z) t.length (caps 502) (vi t) _
    rw [gNnsss_text]
    refine .inl ⟨⟨conA⟩, ?_⟩
    refine bc_dec (fun h10 => ?_) (fun _ => rfl)
    simp only [Dw, Tk, vi_whole, bc_t (v1le l)]
    exact ⟨_, ⟨conbE2 m lo hi l bo⟩, bc_bne (fun _ => by first | trivial | rfl) (fun h => absurd h (by decide))⟩
  · simp only [List.mem_cons, List.not_mem_nil, or_false] at hid
    rcases hid with rfl | rfl | rfl
    · exact ⟨⟨Unit, fun _ => ([], []), fun _ => False, fun _ => 0, fun s b h => h.elim, [], [], by kernel_rfl, by kernel_rfl, fun _ h => h.elim⟩⟩
    · exact ⟨⟨Unit, fun _ => ([], []), fun _ => False, fun _ => 0, fun s b h => h.elim, [4], [4], by kernel_rfl, by kernel_rfl, fun _ h => h.elim⟩⟩
    · exact ⟨⟨Unit, fun _ => ([], []), fun _ => False, fun _ => 0, fun s b h => h.elim, [], [], by kernel_rfl, by kernel_rfl, fun _ h => h.elim⟩⟩
theorem lawEnssn (m lo hi : Int) (l : List Int) (bo : Int) (z : List (Int × Int)) : C5 3 [dRn m lo hi, dSl l bo, .agg [.sl z.length 2 (vp z), .nil]] [.val (.bool true)] := by
  refine con_J hokL2 mixed [] (L := fun _ _ _ => False) Try.func3 rfl (by show 2 ≤ 400; omega) rfl (pts := [0, 2, 6]) (loops := [0, 2, 6]) (by kernel_rfl) (by kernel_rfl) (fun caps _ => ?_) (fun id q1 q2 => absurd q1 q2) (fun id hid => ?_)
  · show gNnssn C5 _ m lo hi l.length (caps 500) (vi l) bo z.length (caps 501) (vp z) _
    rw [gNnssn_text]
    refine .inl ⟨⟨conA⟩, ?_⟩
    refine bc_dec (fun h10 => ?_) (fun _ => rfl)
    simp only [Dw, Tk, vi_whole, bc_t (v1le l)]
    exact ⟨_, ⟨conbE2 m lo hi l bo⟩, bc_bne (fun _ => by first | trivial | rfl) (fun h => absurd h (by decide))⟩
  · simp only [List.mem_cons, List.not_mem_nil, or_false] at hid
    rcases hid with rfl | rfl | rfl
    · exact ⟨⟨Unit, fun _ => ([], []), fun _ => False, fun _ => 0, fun s b h => h.elim, [], [], by kernel_rfl, by kernel_rfl, fun _ h => h.elim⟩⟩
    · exact ⟨⟨Unit, fun _ => ([], []), fun _ => False, fun _ => 0, fun s b h => h.elim, [4], [4], by kernel_rfl, by kernel_rfl, fun _ h => h.elim⟩⟩
    · exact ⟨⟨Unit, fun _ => ([], []), fun _ => False, fun _ => 0, fun s b h => h.elim, [], [], by kernel_rfl, by kernel_rfl, fun _ h => h.elim⟩⟩
theorem lawEnsns (m lo hi : Int) (l : List Int) (bo : Int) (t : List Int) : C5 3 [dRn m lo hi, dSl l bo, .agg [.nil, .sl t.length 1 (vi t)]] [.val (.bool true)] := by
  refine con_J hokL2 mixed [] (L := fun _ _ _ => False) Try.func3 rfl (by show 2 ≤ 400; omega) rfl (pts := [0, 2, 6]) (loops := [0, 2, 6]) (by kernel_rfl) (by kernel_rfl) (fun caps _ => ?_) (fun id q1 q2 => absurd q1 q2) (fun id hid => ?_)
  · show gNnsns C5 _ m lo hi l.length (caps 500) (vi l) bo t.length (caps 501) (vi t) _
    rw [gNnsns_text]
    refine .inl ⟨⟨conA⟩, ?_⟩
    refine bc_dec (fun h10 => ?_) (fun _ => rfl)
    simp only [Dw, Tk, vi_whole, bc_t (v1le l)]
    exact ⟨_, ⟨conbE2 m lo hi l bo⟩, bc_bne (fun _ => by first | trivial | rfl) (fun h => absurd h (by decide))⟩
  · simp only [List.mem_cons, List.not_mem_nil, or_false] at hid
    rcases hid with rfl | rfl | rfl
    · exact ⟨⟨Unit, fun _ => ([], []), fun _ => False, fun _ => 0, fun s b h => h.elim, [], [], by kernel_rfl, by kernel_rfl, fun _ h => h.elim⟩⟩
    · exact ⟨⟨Unit, fun _ => ([], []), fun _ => False, fun _ => 0, fun s b h => h.elim, [4], [4], by kernel_rfl, by kernel_rfl, fun _ h => h.elim⟩⟩
    · exact ⟨⟨Unit, fun _ => ([], []), fun _ => False, fun _ => 0, fun s b h => h.elim, [], [], by kernel_rfl, by kernel_rfl, fun _ h => h.elim⟩⟩
theorem lawEnsnn (m lo hi : Int) (l : List Int) (bo : Int) : C5 3 [dRn m lo hi, dSl l bo, .agg [.nil, .nil]] [.val (.bool true)] := by
  refine con_J hokL2 mixed [] (L := fun _ _ _ => False) Try.func3 rfl (by show 1 ≤ 400; omega) rfl (pts := [0, 2, 6]) (loops := [0, 2, 6]) (by kernel_rfl) (by kernel_rfl) (fun caps _ => ?_) (fun id q1 q2 => absurd q1 q2) (fun id hid => ?_)
  · show gNnsnn C5 _ m lo hi l.length (caps 500) (vi l) bo _
    rw [gNnsnn_text]
    refine .inl ⟨⟨conA⟩, ?_⟩
    refine bc_dec (fun h10 => ?_) (fun _ => rfl)
    simp only [Dw, Tk, vi_whole, bc_t (v1le l)]
    exact ⟨_, ⟨conbE2 m lo hi l bo⟩, bc_bne (fun _ => by first | trivial | rfl) (fun h => absurd h (by decide))⟩
  · simp only [List.mem_cons, List.not_mem_nil, or_false] at hid
    rcases hid with rfl | rfl | rfl
    · exact ⟨⟨Unit, fun _ => ([], []), fun _ => False, fun _ => 0, fun s b h => h.elim, [], [], by kernel_rfl, by kernel_rfl, fun _ h => h.elim⟩⟩
    · exact ⟨⟨Unit, fun _ => ([], []), fun _ => False, fun _ => 0, fun s b h => h.elim, [4], [4], by kernel_rfl, by kernel_rfl, fun _ h => h.elim⟩⟩
    · exact ⟨⟨Unit, fun _ => ([], []), fun _ => False, fun _ => 0, fun s b h => h.elim, [], [], by kernel_rfl, by kernel_rfl, fun _ h => h.elim⟩⟩
theorem lawEnnss (m lo hi : Int) (bo : Int) (z : List (Int × Int)) (t : List Int) : C5 3 [dRn m lo hi, dSn bo, .agg [.sl z.length 2 (vp z), .sl t.length 1 (vi t)]] [.val (.bool true)] := by
  refine con_J hokL2 mixed [] (L := fun _ _ _ => False) Try.func3 rfl (by show 2 ≤ 400; omega) rfl (pts := [0, 2, 6]) (loops := [0, 2, 6]) (by kernel_rfl) (by kernel_rfl) (fun caps _ => ?_) (fun id q1 q2 => absurd q1 q2) (fun id hid => ?_)
  · show gNnnss C5 _ m lo hi bo z.length (caps 500) (vp z) t.length (caps 501) (vi t) _
    rw [gNnnss_text]
    refine .inl ⟨⟨conA⟩, ?_⟩
    exact ⟨_, ⟨conbE3 m lo hi bo⟩, bc_bne (fun _ => by first | trivial | rfl) (fun h => absurd h (by decide))⟩
  · simp only [List.mem_cons, List.not_mem_nil, or_false] at hid
    rcases hid with rfl | rfl | rfl
    · exact ⟨⟨Unit, fun _ => ([], []), fun _ => False, fun _ => 0, fun s b h => h.elim, [], [], by kernel_rfl, by kernel_rfl, fun _ h => h.elim⟩⟩
    · exact ⟨⟨Unit, fun _ => ([], []), fun _ => False, fun _ => 0, fun s b h => h.elim, [4], [4], by kernel_rfl, by kernel_rfl, fun _ h => h.elim⟩⟩
    · exact ⟨⟨Unit, fun _ => ([], []), fun _ => False, fun _ => 0, fun s b h => h.elim, [], [], by kernel_rfl, by kernel_rfl, fun _ h => h.elim⟩⟩
theorem lawEnnsn (m lo hi : Int) (bo : Int) (z : List (Int × Int)) : C5 3 [dRn m lo hi, dSn bo, .agg [.sl z.length 2 (vp z), .nil]] [.val (.bool true)] := by
  refine con_J hokL2 mixed [] (L := fun _ _ _ => False) Try.func3 rfl (by show 1 ≤ 400; omega) rfl (pts := [0, 2, 6]) (loops := [0, 2, 6]) (by kernel_rfl) (by kernel_rfl) (fun caps _ => ?_) (fun id q1 q2 => absurd q1 q2) (fun id hid => ?_)
  · show gNnnsn C5 _ m lo hi bo z.length (caps 500) (vp z) _
    rw [gNnnsn_text]
    refine .inl ⟨⟨conA⟩, ?_⟩
    exact ⟨_, ⟨conbE3 m lo hi bo⟩, bc_bne (fun _ => by first | trivial | rfl) (fun h => absurd h (by decide))⟩
  · simp only [List.mem_cons, List.not_mem_nil, or_false] at hid
    rcases hid with rfl | rfl | rfl
    · exact ⟨⟨Unit, fun _ => ([], []), fun _ => False, fun _ => 0, fun s b h => h.elim, [], [], by kernel_rfl, by kernel_rfl, fun _ h => h.elim⟩⟩
    · exact ⟨⟨Unit, fun _ => ([], []), fun _ => False, fun _ => 0, fun s b h => h.elim, [4], [4], by kernel_rfl, by kernel_rfl, fun _ h => h.elim⟩⟩
    · exact ⟨⟨Unit, fun _ => ([], []), fun _ => False, fun _ => 0, fun s b h => h.elim, [], [], by kernel_rfl, by kernel_rfl, fun _ h => h.elim⟩⟩
theorem lawEnnns (m lo hi : Int) (bo : Int) (t : List Int) : C5 3 [dRn m lo hi, dSn bo, .agg [.nil, .sl t.length 1 (vi t)]] [.val (.bool true)] := by
  refine con_J hokL2 mixed [] (L := fun _ _ _ => False) Try.func3 rfl (by show 1 ≤ 400; omega) rfl (pts := [0, 2, 6]) (loops := [0, 2, 6]) (by kernel_rfl) (by kernel_rfl) (fun caps _ => ?_) (fun id q1 q2 => absurd q1 q2) (fun id hid => ?_)
  · show gNnnns C5 _ m lo hi bo t.length (caps 500) (vi t) _
    rw [gNnnns_text]
    refine .inl ⟨⟨conA⟩, ?_⟩
    exact ⟨_, ⟨conbE3 m lo hi bo⟩, bc_bne (fun _ => by first | trivial | rfl) (fun h => absurd h (by decide))⟩
  · simp only [List.mem_cons, List.not_mem_nil, or_false] at hid
    rcases hid with rfl | rfl | rfl
    · exact ⟨⟨Unit, fun _ => ([], []), fun _ => False, fun _ => 0, fun s b h => h.elim, [], [], by kernel_rfl, by kernel_rfl, fun _ h => h.elim⟩⟩
    · exact ⟨⟨Unit, fun _ => ([], []), fun _ => False, fun _ => 0, fun s b h => h.elim, [4], [4], by kernel_rfl, by kernel_rfl, fun _ h => h.elim⟩⟩
    · exact ⟨⟨Unit, fun _ => ([], []), fun _ => False, fun _ => 0, fun s b h => h.elim, [], [], by kernel_rfl, by kernel_rfl, fun _ h => h.elim⟩⟩
theorem lawEnnnn (m lo hi : Int) (bo : Int) : C5 3 [dRn m lo hi, dSn bo, .agg [.nil, .nil]] [.val (.bool true)] := by
  refine con_J hokL2 mixed [] (L := fun _ _ _ => False) Try.func3 rfl (by show 0 ≤ 400; omega) rfl (pts := [0, 2, 6]) (loops := [0, 2, 6]) (by kernel_rfl) (by kernel_rfl) (fun caps _ => ?_) (fun id q1 q2 => absurd q1 q2) (fun id hid => ?_)
  · show gNnnnn C5 _ m lo hi bo _
    rw [gNnnnn_text]
    refine .inl ⟨⟨conA⟩, ?_⟩
    exact ⟨_, ⟨conbE3 m lo hi bo⟩, bc_bne (fun _ => by first | trivial | rfl) (fun h => absurd h (by decide))⟩
  · simp only [List.mem_cons, List.not_mem_nil, or_false] at hid
    rcases hid with rfl | rfl | rfl
    · exact ⟨⟨Unit, fun _ => ([], []), fun _ => False, fun _ => 0, fun s b h => h.elim, [], [], by kernel_rfl, by kernel_rfl, fun _ h => h.elim⟩⟩
    · exact ⟨⟨Unit, fun _ => ([], []), fun _ => False, fun _ => 0, fun s b h => h.elim, [4], [4], by kernel_rfl, by kernel_rfl, fun _ h => h.elim⟩⟩
    · exact ⟨⟨Unit, fun _ => ([], []), fun _ => False, fun _ => 0, fun s b h => h.elim, [], [], by kernel_rfl, by kernel_rfl, fun _ h => h.elim⟩⟩
end Go.Proofs.G5j

/- FurnaceEnclosed: whatever the input, it returns true, and the input reads as it did. No condition. -/
namespace Go.Proofs.Ytipfpmiljmlekaa.K
open Go Go.Abs Go.RowKit Go.ChangeShapes Go.WideShapes Go.ChangeAt Go.Proofs Go.Flat Go.Proofs.G5j
set_option maxRecDepth 100000
namespace FurnaceEnclosed
abbrev shs : List Sh := [.agg [22, 3, 3, 3], .agg [29, 3], .agg [32, 29]]
theorem shapes : Try.f3.params.toList.mapM (argSh Try.prog) = some shs := by kernel_rfl
theorem all (ds : List D) (h : ShDs Try.prog shs ds) : Con Try.prog 3 ds [.val (.bool true)] := by
  cases h with | cons h1 t => cases t with | cons h2 t => cases t with | cons h3 t =>
  cases t
  obtain ⟨d1, rfl, h1⟩ := h1
  obtain ⟨d2, rfl, h2⟩ := h2
  obtain ⟨d3, rfl, h3⟩ := h3
  cases h1 with | cons p1 t => cases t with | cons p2 t => cases t with | cons p3 t => cases t with | cons p4 t =>
  cases t
  cases h2 with | cons q1 t => cases t with | cons q2 t =>
  cases t
  cases h3 with | cons r0 t => cases t with | cons r1 t =>
  cases t
  obtain ⟨m, rfl, _⟩ := leaf_int Try.underlying3 p2
  obtain ⟨lo, rfl, _⟩ := leaf_int Try.underlying3 p3
  obtain ⟨hi, rfl, _⟩ := leaf_int Try.underlying3 p4
  obtain ⟨bo, rfl, _⟩ := leaf_int Try.underlying3 q2
  rcases leaf_prs Try.underlying22 (by kernel_rfl) p1 with rfl | ⟨ps, rfl, _⟩ <;>
  rcases leaf_ints Try.underlying29 (by kernel_rfl) q1 with rfl | ⟨l, rfl⟩ <;>
  rcases leaf_prs Try.underlying32 (by kernel_rfl) r0 with rfl | ⟨z, rfl, _⟩ <;>
  rcases leaf_ints Try.underlying29 (by kernel_rfl) r1 with rfl | ⟨t, rfl⟩
  · exact lawEnnnn m lo hi bo 
  · exact lawEnnns m lo hi bo t
  · exact lawEnnsn m lo hi bo z 
  · exact lawEnnss m lo hi bo z t
  · exact lawEnsnn m lo hi l bo 
  · exact lawEnsns m lo hi l bo t
  · exact lawEnssn m lo hi l bo z 
  · exact lawEnsss m lo hi l bo z t
  · exact lawEsnnn ps m lo hi bo 
  · exact lawEsnns ps m lo hi bo t
  · exact lawEsnsn ps m lo hi bo z 
  · exact lawEsnss ps m lo hi bo z t
  · exact lawEssnn ps m lo hi l bo 
  · exact lawEssns ps m lo hi l bo t
  · exact lawEsssn ps m lo hi l bo z 
  · exact lawE ps m lo hi l bo z t
theorem lifted (os : Os) (started : os.Started) (H : Type) (enc : TypeId × Value → H) :
    ReturnsInHanded {} Try.checked os 3 .any (Rows.furnaceEnclosedSpec.pre6 enc Try.prog Try.f3 Rows.furnaceEnclosedRow.domain false) (Rows.furnaceEnclosedSpec.post enc Try.prog Try.f3 false true false false) := by
  refine returnsInHanded_of_change (C := Try.checked) own started (by kernel_rfl) Try.func3
    (ChangeSpec.witness6 (enc := enc) (C := Try.checked) false ⟨#[], #[.agg #[.slice none 0 0, .int .i64 0, .int .i64 0, .int .i64 0], .agg #[.slice none 0 0, .int .i64 0], .agg #[.slice none 0 0, .slice none 0 0]], []⟩ 8 (by kernel_rfl) (by kernel_rfl) (by kernel_rfl) (by kernel_rfl)) ?_
  intro W base args ds gs before hval hW _ _
  exact law_shapes (tb := 4) (s := Rows.furnaceEnclosedSpec) shapes all laidP mapsP slicesP (tsP (by kernel_rfl)) rfl Try.underlying4 rfl (fun ds h => by
    match ds, h with
    | [_, _, _], _ => exact ⟨rfl, rfl, rfl⟩) hval hW (good0 W)
theorem holds : Rows.FurnaceEnclosedSaid :=
  OpenClaim.holds_of_wide 3 Try.f3 rfl rfl rfl rfl rfl rfl rfl ⟨rfl, rfl, rfl, rfl, rfl⟩ rfl rfl rfl rfl rfl (by kernel_rfl) Try.func3 (by kernel_rfl)
    (of_decide_eq_true (by kernel_rfl)) (by unfold Func.isWrapper; first | (rw [if_pos (by decide +kernel)]; kernel_rfl) | (rw [if_neg (by decide +kernel)]; exact ⟨rfl, rfl⟩))
    (fun os started H enc _ => lifted os started H enc)
#print axioms holds
end FurnaceEnclosed
end Go.Proofs.Ytipfpmiljmlekaa.K
