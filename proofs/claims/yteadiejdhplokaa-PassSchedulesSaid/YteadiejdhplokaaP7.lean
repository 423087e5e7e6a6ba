/- Texts of the proof, put together: GpPLT, GpP8, GpP9, GpPK. -/
import Derived.Test.YteadiejdhplokaaP5
import Derived.Test.YteadiejdhplokaaP6
/- What is left to show of each function, written out; the kernel reckons it. -/
namespace Go.Proofs.G5p
open Go Go.Abs Go.Proofs
set_option maxRecDepth 100000
set_option linter.unusedVariables false
def preQ (C : Ct) : FuncId → Option Handler := fun g => if g == 9 then some (fixH C copyPR) else if g == 11 then some (fixH C copyPS) else if g == 21 then some (fixH C copyPM) else if [6, 42, 43, 44, 45, 46, 48, 60, 8, 81, 82, 47, 10, 20, 53, 105, 98, 89, 99, 63, 86, 97, 61, 64, 12, 13, 30, 29, 22, 14, 23, 15, 25, 27, 59, 17, 19, 66, 67, 68, 65, 26, 24, 28, 16, 18, 58, 41, 71, 87, 31, 32, 33].contains g then some (saidH Try.prog C) else none
abbrev hQ (C : Ct) : Handler := handlerX Try.prog (preQ C) 12 6
def gL0 (C : Ct) (L : AtLoop) (x0 : Int) (x1 : Int) (x2 : Int) (x3 : Int) (x4 : Int) (x5 : Int) (n6 : Nat) (c6 : Nat) (l6 : List Value) (x7 : Int) (x8 : Int) (x9 : Int) (x10 : Int) (s11 : ByteArray) (n12 : Nat) (c12 : Nat) (l12 : List Value) (x13 : Int) (k : List D → Prop) : Prop := wpFn Try.prog (hQ C) L 0 3 #[.agg #[.int .i64 x0, .int .i64 x1, .int .i64 x2, .int .i64 x3, .int .i64 x4, .int .i64 x5, .slice (some ⟨500, 0, none⟩) n6 c6, .int .i64 x7, .int .i64 x8, .int .i64 x9, .int .i64 x10], .agg #[.string s11, .slice (some ⟨501, 0, none⟩) n12 c12], .int .i64 x13] (heapOf [(500, .sym l6 false 5), (501, .sym l12 false 1)]) (dataK k)
theorem gL0_text (C : Ct) (L : AtLoop) (x0 : Int) (x1 : Int) (x2 : Int) (x3 : Int) (x4 : Int) (x5 : Int) (n6 : Nat) (c6 : Nat) (l6 : List Go.Value) (x7 : Int) (x8 : Int) (x9 : Int) (x10 : Int) (s11 : ByteArray) (n12 : Nat) (c12 : Nat) (l12 : List Go.Value) (x13 : Int) (k : List D → Prop) : gL0 C L x0 x1 x2 x3 x4 x5 n6 c6 l6 x7 x8 x9 x10 s11 n12 c12 l12 x13 k =
 (((Says C 6 [] kT) ∧
 (bcase (decide ((↑n6 : Int) ≤ 8))
 (bcase (decide ((↑n12 : Int) ≤ 8))
 (bcase (decide ((↑(ByteArray.size s11) : Int) ≤ 30))
 (bcase (dL n6 5 l6)
 ((Says C 9 [(D.agg [(dI x0), (dI x1), (dI x2), (dI x3), (dI x4), (dI x5), (Dw n6 5 l6), (dI x7), (dI x8), (dI x9), (dI x10)])] [(D.agg [(dI x0), (dI x1), (dI x2), (dI x3), (dI x4), (dI x5), (Dw n6 5 l6), (dI x7), (dI x8), (dI x9), (dI x10)])]) ∧
 (bcase (dL n6 5 (Tk n6 5 l6))
 (∃ n1 : Int,
 (∃ n2 : Int,
 ((Says C 8 [(D.agg [(dI x0), (dI x1), (dI x2), (dI x3), (dI x4), (dI x5), (Dw n6 5 (Tk n6 5 l6)), (dI x7), (dI x8), (dI x9), (dI x10)])] [(dI n1), (dI n2)]) ∧
 (((Qv (Value.agg [(Value.string (s11)), (Sl 501 (n12) (c12))].toArray)) ∧
 ((Qv (Value.agg [(vI x0), (vI x1), (vI x2), (vI x3), (vI x4), (vI x5), (Sl 500 (n6) (c6)), (vI x7), (vI x8), (vI x9), (vI x10)].toArray)) ∧
 True)) ∧
 (bcase (dL n6 5 l6)
 ((Says C 9 [(D.agg [(dI x0), (dI x1), (dI x2), (dI x3), (dI x4), (dI x5), (Dw n6 5 l6), (dI x7), (dI x8), (dI x9), (dI x10)])] [(D.agg [(dI x0), (dI x1), (dI x2), (dI x3), (dI x4), (dI x5), (Dw n6 5 l6), (dI x7), (dI x8), (dI x9), (dI x10)])]) ∧
 (((Qv (Value.agg [(Value.string (s11)), (Sl 501 (n12) (c12))].toArray)) ∧
 True) ∧
 (bcase (dL n12 1 l12)
 ((Says C 11 [(D.agg [(D.val (Value.string (s11))), (Dw n12 1 l12)])] [(D.agg [(D.val (Value.string (s11))), (Dw n12 1 l12)])]) ∧
 (True ∧
 (bcase (dL n6 5 (Tk n6 5 l6))
 (bcase (dL n12 1 (Tk n12 1 l12))
 (∃ n3 : Int,
 (∃ n4 : Int,
 ((Says C 10 [(D.agg [(dI x0), (dI x1), (dI x2), (dI x3), (dI x4), (dI x5), (Dw n6 5 (Tk n6 5 l6)), (dI x7), (dI x8), (dI x9), (dI x10)]), (D.agg [(D.val (Value.string (s11))), (Dw n12 1 (Tk n12 1 l12))])] [(dI n3), (dI n4)]) ∧
 (((Qv (vI n4)) ∧
 ((Qv (vI n3)) ∧
 ((Qv (Value.tuple [(vI n3), (vI n4)].toArray)) ∧
 True))) ∧
 (((Qv (vI n4)) ∧
 True) ∧
 (True ∧
 (((Qv (Value.agg [(Value.string (s11)), (Sl 501 (n12) (c12))].toArray)) ∧
 ((Qv (Value.agg [(vI x0), (vI x1), (vI x2), (vI x3), (vI x4), (vI x5), (Sl 500 (n6) (c6)), (vI x7), (vI x8), (vI x9), (vI x10)].toArray)) ∧
 True)) ∧
 (bcase (dL n6 5 l6)
 ((Says C 9 [(D.agg [(dI x0), (dI x1), (dI x2), (dI x3), (dI x4), (dI x5), (Dw n6 5 l6), (dI x7), (dI x8), (dI x9), (dI x10)])] [(D.agg [(dI x0), (dI x1), (dI x2), (dI x3), (dI x4), (dI x5), (Dw n6 5 l6), (dI x7), (dI x8), (dI x9), (dI x10)])]) ∧
 (((Qv (Value.agg [(Value.string (s11)), (Sl 501 (n12) (c12))].toArray)) ∧
 True) ∧
 (bcase (dL n12 1 l12)
 ((Says C 11 [(D.agg [(D.val (Value.string (s11))), (Dw n12 1 l12)])] [(D.agg [(D.val (Value.string (s11))), (Dw n12 1 l12)])]) ∧
 (True ∧
 (bcase (dL n6 5 (Tk n6 5 l6))
 (bcase (dL n12 1 (Tk n12 1 l12))
 ((∃ n5 : Int,
 ((Says C 12 [(D.agg [(dI x0), (dI x1), (dI x2), (dI x3), (dI x4), (dI x5), (Dw n6 5 (Tk n6 5 l6)), (dI x7), (dI x8), (dI x9), (dI x10)]), (D.agg [(D.val (Value.string (s11))), (Dw n12 1 (Tk n12 1 l12))])] [D.nil, (dI n5)]) ∧
 (((Qv (vI n5)) ∧
 ((Qv (Value.slice none 0 0)) ∧
 ((Qv (Value.tuple [(Value.slice none 0 0), (vI n5)].toArray)) ∧
 True))) ∧
 (((Qv (vI n5)) ∧
 True) ∧
 (True ∧
 (((Qv (vI x13)) ∧
 ((Qv (Value.agg [(Value.string (s11)), (Sl 501 (n12) (c12))].toArray)) ∧
 ((Qv (Value.agg [(vI x0), (vI x1), (vI x2), (vI x3), (vI x4), (vI x5), (Sl 500 (n6) (c6)), (vI x7), (vI x8), (vI x9), (vI x10)].toArray)) ∧
 True))) ∧
 (bcase (dL n6 5 l6)
 ((Says C 9 [(D.agg [(dI x0), (dI x1), (dI x2), (dI x3), (dI x4), (dI x5), (Dw n6 5 l6), (dI x7), (dI x8), (dI x9), (dI x10)])] [(D.agg [(dI x0), (dI x1), (dI x2), (dI x3), (dI x4), (dI x5), (Dw n6 5 l6), (dI x7), (dI x8), (dI x9), (dI x10)])]) ∧
 (((Qv (vI x13)) ∧
 ((Qv (Value.agg [(Value.string (s11)), (Sl 501 (n12) (c12))].toArray)) ∧
 True)) ∧
 (bcase (dL n12 1 l12)
 ((Says C 11 [(D.agg [(D.val (Value.string (s11))), (Dw n12 1 l12)])] [(D.agg [(D.val (Value.string (s11))), (Dw n12 1 l12)])]) ∧
 (((Qv (vI x13)) ∧
 True) ∧
 (bcase (dL n6 5 (Tk n6 5 l6))
 (bcase (dL n12 1 (Tk n12 1 l12))
 ((∃ n7 : Int,
 ((Says C 13 [(D.agg [(dI x0), (dI x1), (dI x2), (dI x3), (dI x4), (dI x5), (Dw n6 5 (Tk n6 5 l6)), (dI x7), (dI x8), (dI x9), (dI x10)]), (D.agg [(D.val (Value.string (s11))), (Dw n12 1 (Tk n12 1 l12))]), (dI x13)] [D.nil, (dI n7)]) ∧
 (((Qv (vI n7)) ∧
 ((Qv (Value.slice none 0 0)) ∧
 ((Qv (Value.tuple [(Value.slice none 0 0), (vI n7)].toArray)) ∧
 True))) ∧
 (((Qv (vI n7)) ∧
 True) ∧
 (True ∧
 (bcase (dL n6 5 l6)
 (∃ n8 : Int,
 (∃ n9 : Int,
 ((Says C 14 [(D.agg [(dI x0), (dI x1), (dI x2), (dI x3), (dI x4), (dI x5), (Dw n6 5 l6), (dI x7), (dI x8), (dI x9), (dI x10)])] [(dI n8), (dI n9)]) ∧
 (bcase (n2 != n9)
 (k kF)
 (bcase (n1 != n8)
 (k kF)
 (bcase (n9 != 0)
 (bcase (n4 == n9)
 (bcase (n5 == n9)
 (bcase (n7 == n9)
 (bcase (n3 == 0)
 (k kT)
 (k kF))
 (k kF))
 (k kF))
 (k kF))
 (bcase (dL n6 5 l6)
 (bcase (dL n12 1 l12)
 (∃ n10 : Int,
 (∃ n11 : Int,
 ((Says C 15 [(D.agg [(dI x0), (dI x1), (dI x2), (dI x3), (dI x4), (dI x5), (Dw n6 5 l6), (dI x7), (dI x8), (dI x9), (dI x10)]), (D.agg [(D.val (Value.string (s11))), (Dw n12 1 l12)])] [(dI n10), (dI n11)]) ∧
 (bcase (n4 != n11)
 (k kF)
 (bcase (n3 != n10)
 (k kF)
 (bcase (n11 != 0)
 (bcase (n5 == n11)
 (bcase (n7 == n11)
 (k kT)
 (k kF))
 (k kF))
 (bcase (n5 != 0)
 (k kF)
 (bcase (dL n6 5 l6)
 (bcase (dL n12 1 l12)
 (((Says C 17 [(D.agg [(dI x0), (dI x1), (dI x2), (dI x3), (dI x4), (dI x5), (Dw n6 5 l6), (dI x7), (dI x8), (dI x9), (dI x10)]), (D.agg [(D.val (Value.string (s11))), (Dw n12 1 l12)])] [D.nil]) ∧
 (((Says C 16 [D.nil, D.nil] kT) ∧
 (((Says C 18 [(dI x13), (D.val (vI 1)), (D.val (vI 1000000))] kT) ∧
 (bcase (n7 == 0)
 (bcase (dL n6 5 l6)
 (bcase (dL n12 1 l12)
 (((Says C 19 [(D.agg [(dI x0), (dI x1), (dI x2), (dI x3), (dI x4), (dI x5), (Dw n6 5 l6), (dI x7), (dI x8), (dI x9), (dI x10)]), (D.agg [(D.val (Value.string (s11))), (Dw n12 1 l12)]), (dI x13)] [D.nil]) ∧
 (((Says C 16 [D.nil, D.nil] kT) ∧
 (k kT)) ∨
 ((Says C 16 [D.nil, D.nil] kF) ∧
 (k kF)))) ∨
 (∃ n13 : Nat,
 (∃ cs1 : List Go.Value,
 ((Says C 19 [(D.agg [(dI x0), (dI x1), (dI x2), (dI x3), (dI x4), (dI x5), (Dw n6 5 l6), (dI x7), (dI x8), (dI x9), (dI x10)]), (D.agg [(D.val (Value.string (s11))), (Dw n12 1 l12)]), (dI x13)] [(D.sl (n13) 2 (cs1))]) ∧
 (bcase (dL n13 2 cs1)
 (((Says C 16 [D.nil, (Dw n13 2 cs1)] kT) ∧
 (k kT)) ∨
 ((Says C 16 [D.nil, (Dw n13 2 cs1)] kF) ∧
 (k kF)))
 False)))))
 False)
 False)
 (k kF))) ∨
 ((Says C 18 [(dI x13), (D.val (vI 1)), (D.val (vI 1000000))] kF) ∧
 (bcase (n7 == 2)
 (k kT)
 (k kF))))) ∨
 ((Says C 16 [D.nil, D.nil] kF) ∧
 (k kF)))) ∨
 (∃ n13 : Nat,
 (∃ cs1 : List Go.Value,
 ((Says C 17 [(D.agg [(dI x0), (dI x1), (dI x2), (dI x3), (dI x4), (dI x5), (Dw n6 5 l6), (dI x7), (dI x8), (dI x9), (dI x10)]), (D.agg [(D.val (Value.string (s11))), (Dw n12 1 l12)])] [(D.sl (n13) 2 (cs1))]) ∧
 (bcase (dL n13 2 cs1)
 (((Says C 16 [D.nil, (Dw n13 2 cs1)] kT) ∧
 (((Says C 18 [(dI x13), (D.val (vI 1)), (D.val (vI 1000000))] kT) ∧
 (bcase (n7 == 0)
 (bcase (dL n6 5 l6)
 (bcase (dL n12 1 l12)
 (((Says C 19 [(D.agg [(dI x0), (dI x1), (dI x2), (dI x3), (dI x4), (dI x5), (Dw n6 5 l6), (dI x7), (dI x8), (dI x9), (dI x10)]), (D.agg [(D.val (Value.string (s11))), (Dw n12 1 l12)]), (dI x13)] [D.nil]) ∧
 (((Says C 16 [D.nil, D.nil] kT) ∧
 (k kT)) ∨
 ((Says C 16 [D.nil, D.nil] kF) ∧
 (k kF)))) ∨
 (∃ n14 : Nat,
 (∃ cs2 : List Go.Value,
 ((Says C 19 [(D.agg [(dI x0), (dI x1), (dI x2), (dI x3), (dI x4), (dI x5), (Dw n6 5 l6), (dI x7), (dI x8), (dI x9), (dI x10)]), (D.agg [(D.val (Value.string (s11))), (Dw n12 1 l12)]), (dI x13)] [(D.sl (n14) 2 (cs2))]) ∧
 (bcase (dL n14 2 cs2)
 (((Says C 16 [D.nil, (Dw n14 2 cs2)] kT) ∧
 (k kT)) ∨
 ((Says C 16 [D.nil, (Dw n14 2 cs2)] kF) ∧
 (k kF)))
 False)))))
 False)
 False)
 (k kF))) ∨
 ((Says C 18 [(dI x13), (D.val (vI 1)), (D.val (vI 1000000))] kF) ∧
 (bcase (n7 == 2)
 (k kT)
 (k kF))))) ∨
 ((Says C 16 [D.nil, (Dw n13 2 cs1)] kF) ∧
 (k kF)))
 False)))))
 False)
 False))))))))
 False)
 False)))))))
 False)))))) ∨
 (∃ n7 : Nat,
 (∃ cs1 : List Go.Value,
 (∃ n8 : Int,
 ((Says C 13 [(D.agg [(dI x0), (dI x1), (dI x2), (dI x3), (dI x4), (dI x5), (Dw n6 5 (Tk n6 5 l6)), (dI x7), (dI x8), (dI x9), (dI x10)]), (D.agg [(D.val (Value.string (s11))), (Dw n12 1 (Tk n12 1 l12))]), (dI x13)] [(D.sl (n7) 2 (cs1)), (dI n8)]) ∧
 (((Qv (vI n8)) ∧
 ((Qv (Sl 1011 (n7) (n7))) ∧
 ((Qv (Value.tuple [(Sl 1011 (n7) (n7)), (vI n8)].toArray)) ∧
 True))) ∧
 (((Qv (vI n8)) ∧
 True) ∧
 (True ∧
 (bcase (dL n6 5 l6)
 (∃ n9 : Int,
 (∃ n10 : Int,
 ((Says C 14 [(D.agg [(dI x0), (dI x1), (dI x2), (dI x3), (dI x4), (dI x5), (Dw n6 5 l6), (dI x7), (dI x8), (dI x9), (dI x10)])] [(dI n9), (dI n10)]) ∧
 (bcase (n2 != n10)
 (k kF)
 (bcase (n1 != n9)
 (k kF)
 (bcase (n10 != 0)
 (bcase (n4 == n10)
 (bcase (n5 == n10)
 (bcase (n8 == n10)
 (bcase (n3 == 0)
 (bcase (IntKind.wrap .i64 ((↑0 : Int) + (↑n7 : Int)) == 0)
 (k kT)
 (k kF))
 (k kF))
 (k kF))
 (k kF))
 (k kF))
 (bcase (dL n6 5 l6)
 (bcase (dL n12 1 l12)
 (∃ n11 : Int,
 (∃ n13 : Int,
 ((Says C 15 [(D.agg [(dI x0), (dI x1), (dI x2), (dI x3), (dI x4), (dI x5), (Dw n6 5 l6), (dI x7), (dI x8), (dI x9), (dI x10)]), (D.agg [(D.val (Value.string (s11))), (Dw n12 1 l12)])] [(dI n11), (dI n13)]) ∧
 (bcase (n4 != n13)
 (k kF)
 (bcase (n3 != n11)
 (k kF)
 (bcase (n13 != 0)
 (bcase (n5 == n13)
 (bcase (n8 == n13)
 (bcase (IntKind.wrap .i64 ((↑0 : Int) + (↑n7 : Int)) == 0)
 (k kT)
 (k kF))
 (k kF))
 (k kF))
 (bcase (n5 != 0)
 (k kF)
 (bcase (dL n6 5 l6)
 (bcase (dL n12 1 l12)
 (((Says C 17 [(D.agg [(dI x0), (dI x1), (dI x2), (dI x3), (dI x4), (dI x5), (Dw n6 5 l6), (dI x7), (dI x8), (dI x9), (dI x10)]), (D.agg [(D.val (Value.string (s11))), (Dw n12 1 l12)])] [D.nil]) ∧
 (((Says C 16 [D.nil, D.nil] kT) ∧
 (((Says C 18 [(dI x13), (D.val (vI 1)), (D.val (vI 1000000))] kT) ∧
 (bcase (n8 == 0)
 (bcase (dL n6 5 l6)
 (bcase (dL n12 1 l12)
 (((Says C 19 [(D.agg [(dI x0), (dI x1), (dI x2), (dI x3), (dI x4), (dI x5), (Dw n6 5 l6), (dI x7), (dI x8), (dI x9), (dI x10)]), (D.agg [(D.val (Value.string (s11))), (Dw n12 1 l12)]), (dI x13)] [D.nil]) ∧
 (bcase (dL n7 2 cs1)
 (((Says C 16 [(Dw n7 2 cs1), D.nil] kT) ∧
 (k kT)) ∨
 ((Says C 16 [(Dw n7 2 cs1), D.nil] kF) ∧
 (k kF)))
 False)) ∨
 (∃ n14 : Nat,
 (∃ cs2 : List Go.Value,
 ((Says C 19 [(D.agg [(dI x0), (dI x1), (dI x2), (dI x3), (dI x4), (dI x5), (Dw n6 5 l6), (dI x7), (dI x8), (dI x9), (dI x10)]), (D.agg [(D.val (Value.string (s11))), (Dw n12 1 l12)]), (dI x13)] [(D.sl (n14) 2 (cs2))]) ∧
 (bcase (dL n7 2 cs1)
 (bcase (dL n14 2 cs2)
 (((Says C 16 [(Dw n7 2 cs1), (Dw n14 2 cs2)] kT) ∧
 (k kT)) ∨
 ((Says C 16 [(Dw n7 2 cs1), (Dw n14 2 cs2)] kF) ∧
 (k kF)))
 False)
 False)))))
 False)
 False)
 (k kF))) ∨
 ((Says C 18 [(dI x13), (D.val (vI 1)), (D.val (vI 1000000))] kF) ∧
 (bcase (n8 == 2)
 (bcase ((↑n7 : Int) == 0)
 (k kT)
 (k kF))
 (k kF))))) ∨
 ((Says C 16 [D.nil, D.nil] kF) ∧
 (k kF)))) ∨
 (∃ n14 : Nat,
 (∃ cs2 : List Go.Value,
 ((Says C 17 [(D.agg [(dI x0), (dI x1), (dI x2), (dI x3), (dI x4), (dI x5), (Dw n6 5 l6), (dI x7), (dI x8), (dI x9), (dI x10)]), (D.agg [(D.val (Value.string (s11))), (Dw n12 1 l12)])] [(D.sl (n14) 2 (cs2))]) ∧
 (bcase (dL n14 2 cs2)
 (((Says C 16 [D.nil, (Dw n14 2 cs2)] kT) ∧
 (((Says C 18 [(dI x13), (D.val (vI 1)), (D.val (vI 1000000))] kT) ∧
 (bcase (n8 == 0)
 (bcase (dL n6 5 l6)
 (bcase (dL n12 1 l12)
 (((Says C 19 [(D.agg [(dI x0), (dI x1), (dI x2), (dI x3), (dI x4), (dI x5), (Dw n6 5 l6), (dI x7), (dI x8), (dI x9), (dI x10)]), (D.agg [(D.val (Value.string (s11))), (Dw n12 1 l12)]), (dI x13)] [D.nil]) ∧
 (bcase (dL n7 2 cs1)
 (((Says C 16 [(Dw n7 2 cs1), D.nil] kT) ∧
 (k kT)) ∨
 ((Says C 16 [(Dw n7 2 cs1), D.nil] kF) ∧
 (k kF)))
 False)) ∨
 (∃ n15 : Nat,
 (∃ cs3 : List Go.Value,
 ((Says C 19 [(D.agg [(dI x0), (dI x1), (dI x2), (dI x3), (dI x4), (dI x5), (Dw n6 5 l6), (dI x7), (dI x8), (dI x9), (dI x10)]), (D.agg [(D.val (Value.string (s11))), (Dw n12 1 l12)]), (dI x13)] [(D.sl (n15) 2 (cs3))]) ∧
 (bcase (dL n7 2 cs1)
 (bcase (dL n15 2 cs3)
 (((Says C 16 [(Dw n7 2 cs1), (Dw n15 2 cs3)] kT) ∧
 (k kT)) ∨
 ((Says C 16 [(Dw n7 2 cs1), (Dw n15 2 cs3)] kF) ∧
 (k kF)))
 False)
 False)))))
 False)
 False)
 (k kF))) ∨
 ((Says C 18 [(dI x13), (D.val (vI 1)), (D.val (vI 1000000))] kF) ∧
 (bcase (n8 == 2)
 (bcase ((↑n7 : Int) == 0)
 (k kT)
 (k kF))
 (k kF))))) ∨
 ((Says C 16 [D.nil, (Dw n14 2 cs2)] kF) ∧
 (k kF)))
 False)))))
 False)
 False))))))))
 False)
 False)))))))
 False)))))))))
 False)
 False)))
 False)))
 False))))))) ∨
 (∃ n5 : Nat,
 (∃ cs1 : List Go.Value,
 (∃ n7 : Int,
 ((Says C 12 [(D.agg [(dI x0), (dI x1), (dI x2), (dI x3), (dI x4), (dI x5), (Dw n6 5 (Tk n6 5 l6)), (dI x7), (dI x8), (dI x9), (dI x10)]), (D.agg [(D.val (Value.string (s11))), (Dw n12 1 (Tk n12 1 l12))])] [(D.sl (n5) 2 (cs1)), (dI n7)]) ∧
 (((Qv (vI n7)) ∧
 ((Qv (Sl 1009 (n5) (n5))) ∧
 ((Qv (Value.tuple [(Sl 1009 (n5) (n5)), (vI n7)].toArray)) ∧
 True))) ∧
 (((Qv (vI n7)) ∧
 True) ∧
 (True ∧
 (((Qv (vI x13)) ∧
 ((Qv (Value.agg [(Value.string (s11)), (Sl 501 (n12) (c12))].toArray)) ∧
 ((Qv (Value.agg [(vI x0), (vI x1), (vI x2), (vI x3), (vI x4), (vI x5), (Sl 500 (n6) (c6)), (vI x7), (vI x8), (vI x9), (vI x10)].toArray)) ∧
 True))) ∧
 (bcase (dL n6 5 l6)
 ((Says C 9 [(D.agg [(dI x0), (dI x1), (dI x2), (dI x3), (dI x4), (dI x5), (Dw n6 5 l6), (dI x7), (dI x8), (dI x9), (dI x10)])] [(D.agg [(dI x0), (dI x1), (dI x2), (dI x3), (dI x4), (dI x5), (Dw n6 5 l6), (dI x7), (dI x8), (dI x9), (dI x10)])]) ∧
 (((Qv (vI x13)) ∧
 ((Qv (Value.agg [(Value.string (s11)), (Sl 501 (n12) (c12))].toArray)) ∧
 True)) ∧
 (bcase (dL n12 1 l12)
 ((Says C 11 [(D.agg [(D.val (Value.string (s11))), (Dw n12 1 l12)])] [(D.agg [(D.val (Value.string (s11))), (Dw n12 1 l12)])]) ∧
 (((Qv (vI x13)) ∧
 True) ∧
 (bcase (dL n6 5 (Tk n6 5 l6))
 (bcase (dL n12 1 (Tk n12 1 l12))
 ((∃ n8 : Int,
 ((Says C 13 [(D.agg [(dI x0), (dI x1), (dI x2), (dI x3), (dI x4), (dI x5), (Dw n6 5 (Tk n6 5 l6)), (dI x7), (dI x8), (dI x9), (dI x10)]), (D.agg [(D.val (Value.string (s11))), (Dw n12 1 (Tk n12 1 l12))]), (dI x13)] [D.nil, (dI n8)]) ∧
 (((Qv (vI n8)) ∧
 ((Qv (Value.slice none 0 0)) ∧
 ((Qv (Value.tuple [(Value.slice none 0 0), (vI n8)].toArray)) ∧
 True))) ∧
 (((Qv (vI n8)) ∧
 True) ∧
 (True ∧
 (bcase (dL n6 5 l6)
 (∃ n9 : Int,
 (∃ n10 : Int,
 ((Says C 14 [(D.agg [(dI x0), (dI x1), (dI x2), (dI x3), (dI x4), (dI x5), (Dw n6 5 l6), (dI x7), (dI x8), (dI x9), (dI x10)])] [(dI n9), (dI n10)]) ∧
 (bcase (n2 != n10)
 (k kF)
 (bcase (n1 != n9)
 (k kF)
 (bcase (n10 != 0)
 (bcase (n4 == n10)
 (bcase (n7 == n10)
 (bcase (n8 == n10)
 (bcase (n3 == 0)
 (bcase (IntKind.wrap .i64 ((↑n5 : Int) + (↑0 : Int)) == 0)
 (k kT)
 (k kF))
 (k kF))
 (k kF))
 (k kF))
 (k kF))
 (bcase (dL n6 5 l6)
 (bcase (dL n12 1 l12)
 (∃ n11 : Int,
 (∃ n13 : Int,
 ((Says C 15 [(D.agg [(dI x0), (dI x1), (dI x2), (dI x3), (dI x4), (dI x5), (Dw n6 5 l6), (dI x7), (dI x8), (dI x9), (dI x10)]), (D.agg [(D.val (Value.string (s11))), (Dw n12 1 l12)])] [(dI n11), (dI n13)]) ∧
 (bcase (n4 != n13)
 (k kF)
 (bcase (n3 != n11)
 (k kF)
 (bcase (n13 != 0)
 (bcase (n7 == n13)
 (bcase (n8 == n13)
 (bcase (IntKind.wrap .i64 ((↑n5 : Int) + (↑0 : Int)) == 0)
 (k kT)
 (k kF))
 (k kF))
 (k kF))
 (bcase (n7 != 0)
 (k kF)
 (bcase (dL n6 5 l6)
 (bcase (dL n12 1 l12)
 (((Says C 17 [(D.agg [(dI x0), (dI x1), (dI x2), (dI x3), (dI x4), (dI x5), (Dw n6 5 l6), (dI x7), (dI x8), (dI x9), (dI x10)]), (D.agg [(D.val (Value.string (s11))), (Dw n12 1 l12)])] [D.nil]) ∧
 (bcase (dL n5 2 cs1)
 (((Says C 16 [(Dw n5 2 cs1), D.nil] kT) ∧
 (((Says C 18 [(dI x13), (D.val (vI 1)), (D.val (vI 1000000))] kT) ∧
 (bcase (n8 == 0)
 (bcase (dL n6 5 l6)
 (bcase (dL n12 1 l12)
 (((Says C 19 [(D.agg [(dI x0), (dI x1), (dI x2), (dI x3), (dI x4), (dI x5), (Dw n6 5 l6), (dI x7), (dI x8), (dI x9), (dI x10)]), (D.agg [(D.val (Value.string (s11))), (Dw n12 1 l12)]), (dI x13)] [D.nil]) ∧
 (((Says C 16 [D.nil, D.nil] kT) ∧
 (k kT)) ∨
 ((Says C 16 [D.nil, D.nil] kF) ∧
 (k kF)))) ∨
 (∃ n14 : Nat,
 (∃ cs2 : List Go.Value,
 ((Says C 19 [(D.agg [(dI x0), (dI x1), (dI x2), (dI x3), (dI x4), (dI x5), (Dw n6 5 l6), (dI x7), (dI x8), (dI x9), (dI x10)]), (D.agg [(D.val (Value.string (s11))), (Dw n12 1 l12)]), (dI x13)] [(D.sl (n14) 2 (cs2))]) ∧
 (bcase (dL n14 2 cs2)
 (((Says C 16 [D.nil, (Dw n14 2 cs2)] kT) ∧
 (k kT)) ∨
 ((Says C 16 [D.nil, (Dw n14 2 cs2)] kF) ∧
 (k kF)))
 False)))))
 False)
 False)
 (k kF))) ∨
 ((Says C 18 [(dI x13), (D.val (vI 1)), (D.val (vI 1000000))] kF) ∧
 (bcase (n8 == 2)
 (k kT)
 (k kF))))) ∨
 ((Says C 16 [(Dw n5 2 cs1), D.nil] kF) ∧
 (k kF)))
 False)) ∨
 (∃ n14 : Nat,
 (∃ cs2 : List Go.Value,
 ((Says C 17 [(D.agg [(dI x0), (dI x1), (dI x2), (dI x3), (dI x4), (dI x5), (Dw n6 5 l6), (dI x7), (dI x8), (dI x9), (dI x10)]), (D.agg [(D.val (Value.string (s11))), (Dw n12 1 l12)])] [(D.sl (n14) 2 (cs2))]) ∧
 (bcase (dL n5 2 cs1)
 (bcase (dL n14 2 cs2)
 (((Says C 16 [(Dw n5 2 cs1), (Dw n14 2 cs2)] kT) ∧
 (((Says C 18 [(dI x13), (D.val (vI 1)), (D.val (vI 1000000))] kT) ∧
 (bcase (n8 == 0)
 (bcase (dL n6 5 l6)
 (bcase (dL n12 1 l12)
 (((Says C 19 [(D.agg [(dI x0), (dI x1), (dI x2), (dI x3), (dI x4), (dI x5), (Dw n6 5 l6), (dI x7), (dI x8), (dI x9), (dI x10)]), (D.agg [(D.val (Value.string (s11))), (Dw n12 1 l12)]), (dI x13)] [D.nil]) ∧
 (((Says C 16 [D.nil, D.nil] kT) ∧
 (k kT)) ∨
 ((Says C 16 [D.nil, D.nil] kF) ∧
 (k kF)))) ∨
 (∃ n15 : Nat,
 (∃ cs3 : List Go.Value,
 ((Says C 19 [(D.agg [(dI x0), (dI x1), (dI x2), (dI x3), (dI x4), (dI x5), (Dw n6 5 l6), (dI x7), (dI x8), (dI x9), (dI x10)]), (D.agg [(D.val (Value.string (s11))), (Dw n12 1 l12)]), (dI x13)] [(D.sl (n15) 2 (cs3))]) ∧
 (bcase (dL n15 2 cs3)
 (((Says C 16 [D.nil, (Dw n15 2 cs3)] kT) ∧
 (k kT)) ∨
 ((Says C 16 [D.nil, (Dw n15 2 cs3)] kF) ∧
 (k kF)))
 False)))))
 False)
 False)
 (k kF))) ∨
 ((Says C 18 [(dI x13), (D.val (vI 1)), (D.val (vI 1000000))] kF) ∧
 (bcase (n8 == 2)
 (k kT)
 (k kF))))) ∨
 ((Says C 16 [(Dw n5 2 cs1), (Dw n14 2 cs2)] kF) ∧
 (k kF)))
 False)
 False)))))
 False)
 False))))))))
 False)
 False)))))))
 False)))))) ∨
 (∃ n8 : Nat,
 (∃ cs2 : List Go.Value,
 (∃ n9 : Int,
 ((Says C 13 [(D.agg [(dI x0), (dI x1), (dI x2), (dI x3), (dI x4), (dI x5), (Dw n6 5 (Tk n6 5 l6)), (dI x7), (dI x8), (dI x9), (dI x10)]), (D.agg [(D.val (Value.string (s11))), (Dw n12 1 (Tk n12 1 l12))]), (dI x13)] [(D.sl (n8) 2 (cs2)), (dI n9)]) ∧
 (((Qv (vI n9)) ∧
 ((Qv (Sl 1012 (n8) (n8))) ∧
 ((Qv (Value.tuple [(Sl 1012 (n8) (n8)), (vI n9)].toArray)) ∧
 True))) ∧
 (((Qv (vI n9)) ∧
 True) ∧
 (True ∧
 (bcase (dL n6 5 l6)
 (∃ n10 : Int,
 (∃ n11 : Int,
 ((Says C 14 [(D.agg [(dI x0), (dI x1), (dI x2), (dI x3), (dI x4), (dI x5), (Dw n6 5 l6), (dI x7), (dI x8), (dI x9), (dI x10)])] [(dI n10), (dI n11)]) ∧
 (bcase (n2 != n11)
 (k kF)
 (bcase (n1 != n10)
 (k kF)
 (bcase (n11 != 0)
 (bcase (n4 == n11)
 (bcase (n7 == n11)
 (bcase (n9 == n11)
 (bcase (n3 == 0)
 (bcase (IntKind.wrap .i64 ((↑n5 : Int) + (↑n8 : Int)) == 0)
 (k kT)
 (k kF))
 (k kF))
 (k kF))
 (k kF))
 (k kF))
 (bcase (dL n6 5 l6)
 (bcase (dL n12 1 l12)
 (∃ n13 : Int,
 (∃ n14 : Int,
 ((Says C 15 [(D.agg [(dI x0), (dI x1), (dI x2), (dI x3), (dI x4), (dI x5), (Dw n6 5 l6), (dI x7), (dI x8), (dI x9), (dI x10)]), (D.agg [(D.val (Value.string (s11))), (Dw n12 1 l12)])] [(dI n13), (dI n14)]) ∧
 (bcase (n4 != n14)
 (k kF)
 (bcase (n3 != n13)
 (k kF)
 (bcase (n14 != 0)
 (bcase (n7 == n14)
 (bcase (n9 == n14)
 (bcase (IntKind.wrap .i64 ((↑n5 : Int) + (↑n8 : Int)) == 0)
 (k kT)
 (k kF))
 (k kF))
 (k kF))
 (bcase (n7 != 0)
 (k kF)
 (bcase (dL n6 5 l6)
 (bcase (dL n12 1 l12)
 (((Says C 17 [(D.agg [(dI x0), (dI x1), (dI x2), (dI x3), (dI x4), (dI x5), (Dw n6 5 l6), (dI x7), (dI x8), (dI x9), (dI x10)]), (D.agg [(D.val (Value.string (s11))), (Dw n12 1 l12)])] [D.nil]) ∧
 (bcase (dL n5 2 cs1)
 (((Says C 16 [(Dw n5 2 cs1), D.nil] kT) ∧
 (((Says C 18 [(dI x13), (D.val (vI 1)), (D.val (vI 1000000))] kT) ∧
 (bcase (n9 == 0)
 (bcase (dL n6 5 l6)
 (bcase (dL n12 1 l12)
 (((Says C 19 [(D.agg [(dI x0), (dI x1), (dI x2), (dI x3), (dI x4), (dI x5), (Dw n6 5 l6), (dI x7), (dI x8), (dI x9), (dI x10)]), (D.agg [(D.val (Value.string (s11))), (Dw n12 1 l12)]), (dI x13)] [D.nil]) ∧
 (bcase (dL n8 2 cs2)
 (((Says C 16 [(Dw n8 2 cs2), D.nil] kT) ∧
 (k kT)) ∨
 ((Says C 16 [(Dw n8 2 cs2), D.nil] kF) ∧
 (k kF)))
 False)) ∨
 (∃ n15 : Nat,
 (∃ cs3 : List Go.Value,
 ((Says C 19 [(D.agg [(dI x0), (dI x1), (dI x2), (dI x3), (dI x4), (dI x5), (Dw n6 5 l6), (dI x7), (dI x8), (dI x9), (dI x10)]), (D.agg [(D.val (Value.string (s11))), (Dw n12 1 l12)]), (dI x13)] [(D.sl (n15) 2 (cs3))]) ∧
 (bcase (dL n8 2 cs2)
 (bcase (dL n15 2 cs3)
 (((Says C 16 [(Dw n8 2 cs2), (Dw n15 2 cs3)] kT) ∧
 (k kT)) ∨
 ((Says C 16 [(Dw n8 2 cs2), (Dw n15 2 cs3)] kF) ∧
 (k kF)))
 False)
 False)))))
 False)
 False)
 (k kF))) ∨
 ((Says C 18 [(dI x13), (D.val (vI 1)), (D.val (vI 1000000))] kF) ∧
 (bcase (n9 == 2)
 (bcase ((↑n8 : Int) == 0)
 (k kT)
 (k kF))
 (k kF))))) ∨
 ((Says C 16 [(Dw n5 2 cs1), D.nil] kF) ∧
 (k kF)))
 False)) ∨
 (∃ n15 : Nat,
 (∃ cs3 : List Go.Value,
 ((Says C 17 [(D.agg [(dI x0), (dI x1), (dI x2), (dI x3), (dI x4), (dI x5), (Dw n6 5 l6), (dI x7), (dI x8), (dI x9), (dI x10)]), (D.agg [(D.val (Value.string (s11))), (Dw n12 1 l12)])] [(D.sl (n15) 2 (cs3))]) ∧
 (bcase (dL n5 2 cs1)
 (bcase (dL n15 2 cs3)
 (((Says C 16 [(Dw n5 2 cs1), (Dw n15 2 cs3)] kT) ∧
 (((Says C 18 [(dI x13), (D.val (vI 1)), (D.val (vI 1000000))] kT) ∧
 (bcase (n9 == 0)
 (bcase (dL n6 5 l6)
 (bcase (dL n12 1 l12)
 (((Says C 19 [(D.agg [(dI x0), (dI x1), (dI x2), (dI x3), (dI x4), (dI x5), (Dw n6 5 l6), (dI x7), (dI x8), (dI x9), (dI x10)]), (D.agg [(D.val (Value.string (s11))), (Dw n12 1 l12)]), (dI x13)] [D.nil]) ∧
 (bcase (dL n8 2 cs2)
 (((Says C 16 [(Dw n8 2 cs2), D.nil] kT) ∧
 (k kT)) ∨
 ((Says C 16 [(Dw n8 2 cs2), D.nil] kF) ∧
 (k kF)))
 False)) ∨
 (∃ n16 : Nat,
 (∃ cs4 : List Go.Value,
 ((Says C 19 [(D.agg [(dI x0), (dI x1), (dI x2), (dI x3), (dI x4), (dI x5), (Dw n6 5 l6), (dI x7), (dI x8), (dI x9), (dI x10)]), (D.agg [(D.val (Value.string (s11))), (Dw n12 1 l12)]), (dI x13)] [(D.sl (n16) 2 (cs4))]) ∧
 (bcase (dL n8 2 cs2)
 (bcase (dL n16 2 cs4)
 (((Says C 16 [(Dw n8 2 cs2), (Dw n16 2 cs4)] kT) ∧
 (k kT)) ∨
 ((Says C 16 [(Dw n8 2 cs2), (Dw n16 2 cs4)] kF) ∧
 (k kF)))
 False)
 False)))))
 False)
 False)
 (k kF))) ∨
 ((Says C 18 [(dI x13), (D.val (vI 1)), (D.val (vI 1000000))] kF) ∧
 (bcase (n9 == 2)
 (bcase ((↑n8 : Int) == 0)
 (k kT)
 (k kF))
 (k kF))))) ∨
 ((Says C 16 [(Dw n5 2 cs1), (Dw n15 2 cs3)] kF) ∧
 (k kF)))
 False)
 False)))))
 False)
 False))))))))
 False)
 False)))))))
 False)))))))))
 False)
 False)))
 False)))
 False))))))))))
 False)
 False)))
 False)))
 False))))))))
 False)
 False)))
 False)))
 False)))))
 False))
 False)
 (k kT))
 (k kT))
 (k kT))) ∨
 ((Says C 6 [] kF) ∧
 (k kF))) := by kernel_rfl
def gL1 (C : Ct) (L : AtLoop) (x0 : Int) (x1 : Int) (x2 : Int) (x3 : Int) (x4 : Int) (x5 : Int) (n6 : Nat) (c6 : Nat) (l6 : List Value) (x7 : Int) (x8 : Int) (x9 : Int) (x10 : Int) (s11 : ByteArray) (x13 : Int) (k : List D → Prop) : Prop := wpFn Try.prog (hQ C) L 0 3 #[.agg #[.int .i64 x0, .int .i64 x1, .int .i64 x2, .int .i64 x3, .int .i64 x4, .int .i64 x5, .slice (some ⟨500, 0, none⟩) n6 c6, .int .i64 x7, .int .i64 x8, .int .i64 x9, .int .i64 x10], .agg #[.string s11, .slice none 0 0], .int .i64 x13] (heapOf [(500, .sym l6 false 5)]) (dataK k)
theorem gL1_text (C : Ct) (L : AtLoop) (x0 : Int) (x1 : Int) (x2 : Int) (x3 : Int) (x4 : Int) (x5 : Int) (n6 : Nat) (c6 : Nat) (l6 : List Go.Value) (x7 : Int) (x8 : Int) (x9 : Int) (x10 : Int) (s11 : ByteArray) (x13 : Int) (k : List D → Prop) : gL1 C L x0 x1 x2 x3 x4 x5 n6 c6 l6 x7 x8 x9 x10 s11 x13 k =
 (((Says C 6 [] kT) ∧
 (bcase (decide ((↑n6 : Int) ≤ 8))
 (bcase (decide ((↑(ByteArray.size s11) : Int) ≤ 30))
 (bcase (dL n6 5 l6)
 ((Says C 9 [(D.agg [(dI x0), (dI x1), (dI x2), (dI x3), (dI x4), (dI x5), (Dw n6 5 l6), (dI x7), (dI x8), (dI x9), (dI x10)])] [(D.agg [(dI x0), (dI x1), (dI x2), (dI x3), (dI x4), (dI x5), (Dw n6 5 l6), (dI x7), (dI x8), (dI x9), (dI x10)])]) ∧
 (bcase (dL n6 5 (Tk n6 5 l6))
 (∃ n1 : Int,
 (∃ n2 : Int,
 ((Says C 8 [(D.agg [(dI x0), (dI x1), (dI x2), (dI x3), (dI x4), (dI x5), (Dw n6 5 (Tk n6 5 l6)), (dI x7), (dI x8), (dI x9), (dI x10)])] [(dI n1), (dI n2)]) ∧
 (((Qv (Value.agg [(Value.string (s11)), (Value.slice none 0 0)].toArray)) ∧
 ((Qv (Value.agg [(vI x0), (vI x1), (vI x2), (vI x3), (vI x4), (vI x5), (Sl 500 (n6) (c6)), (vI x7), (vI x8), (vI x9), (vI x10)].toArray)) ∧
 True)) ∧
 (bcase (dL n6 5 l6)
 ((Says C 9 [(D.agg [(dI x0), (dI x1), (dI x2), (dI x3), (dI x4), (dI x5), (Dw n6 5 l6), (dI x7), (dI x8), (dI x9), (dI x10)])] [(D.agg [(dI x0), (dI x1), (dI x2), (dI x3), (dI x4), (dI x5), (Dw n6 5 l6), (dI x7), (dI x8), (dI x9), (dI x10)])]) ∧
 (((Qv (Value.agg [(Value.string (s11)), (Value.slice none 0 0)].toArray)) ∧
 True) ∧
 ((Says C 11 [(D.agg [(D.val (Value.string (s11))), D.nil])] [(D.agg [(D.val (Value.string (s11))), (D.sl 0 1 [])])]) ∧
 (True ∧
 (bcase (dL n6 5 (Tk n6 5 l6))
 (∃ n3 : Int,
 (∃ n4 : Int,
 ((Says C 10 [(D.agg [(dI x0), (dI x1), (dI x2), (dI x3), (dI x4), (dI x5), (Dw n6 5 (Tk n6 5 l6)), (dI x7), (dI x8), (dI x9), (dI x10)]), (D.agg [(D.val (Value.string (s11))), (D.sl 0 1 [])])] [(dI n3), (dI n4)]) ∧
 (((Qv (vI n4)) ∧
 ((Qv (vI n3)) ∧
 ((Qv (Value.tuple [(vI n3), (vI n4)].toArray)) ∧
 True))) ∧
 (((Qv (vI n4)) ∧
 True) ∧
 (True ∧
 (((Qv (Value.agg [(Value.string (s11)), (Value.slice none 0 0)].toArray)) ∧
 ((Qv (Value.agg [(vI x0), (vI x1), (vI x2), (vI x3), (vI x4), (vI x5), (Sl 500 (n6) (c6)), (vI x7), (vI x8), (vI x9), (vI x10)].toArray)) ∧
 True)) ∧
 (bcase (dL n6 5 l6)
 ((Says C 9 [(D.agg [(dI x0), (dI x1), (dI x2), (dI x3), (dI x4), (dI x5), (Dw n6 5 l6), (dI x7), (dI x8), (dI x9), (dI x10)])] [(D.agg [(dI x0), (dI x1), (dI x2), (dI x3), (dI x4), (dI x5), (Dw n6 5 l6), (dI x7), (dI x8), (dI x9), (dI x10)])]) ∧
 (((Qv (Value.agg [(Value.string (s11)), (Value.slice none 0 0)].toArray)) ∧
 True) ∧
 ((Says C 11 [(D.agg [(D.val (Value.string (s11))), D.nil])] [(D.agg [(D.val (Value.string (s11))), (D.sl 0 1 [])])]) ∧
 (True ∧
 (bcase (dL n6 5 (Tk n6 5 l6))
 ((∃ n5 : Int,
 ((Says C 12 [(D.agg [(dI x0), (dI x1), (dI x2), (dI x3), (dI x4), (dI x5), (Dw n6 5 (Tk n6 5 l6)), (dI x7), (dI x8), (dI x9), (dI x10)]), (D.agg [(D.val (Value.string (s11))), (D.sl 0 1 [])])] [D.nil, (dI n5)]) ∧
 (((Qv (vI n5)) ∧
 ((Qv (Value.slice none 0 0)) ∧
 ((Qv (Value.tuple [(Value.slice none 0 0), (vI n5)].toArray)) ∧
 True))) ∧
 (((Qv (vI n5)) ∧
 True) ∧
 (True ∧
 (((Qv (vI x13)) ∧
 ((Qv (Value.agg [(Value.string (s11)), (Value.slice none 0 0)].toArray)) ∧
 ((Qv (Value.agg [(vI x0), (vI x1), (vI x2), (vI x3), (vI x4), (vI x5), (Sl 500 (n6) (c6)), (vI x7), (vI x8), (vI x9), (vI x10)].toArray)) ∧
 True))) ∧
 (bcase (dL n6 5 l6)
 ((Says C 9 [(D.agg [(dI x0), (dI x1), (dI x2), (dI x3), (dI x4), (dI x5), (Dw n6 5 l6), (dI x7), (dI x8), (dI x9), (dI x10)])] [(D.agg [(dI x0), (dI x1), (dI x2), (dI x3), (dI x4), (dI x5), (Dw n6 5 l6), (dI x7), (dI x8), (dI x9), (dI x10)])]) ∧
 (((Qv (vI x13)) ∧
 ((Qv (Value.agg [(Value.string (s11)), (Value.slice none 0 0)].toArray)) ∧
 True)) ∧
 ((Says C 11 [(D.agg [(D.val (Value.string (s11))), D.nil])] [(D.agg [(D.val (Value.string (s11))), (D.sl 0 1 [])])]) ∧
 (((Qv (vI x13)) ∧
 True) ∧
 (bcase (dL n6 5 (Tk n6 5 l6))
 ((∃ n7 : Int,
 ((Says C 13 [(D.agg [(dI x0), (dI x1), (dI x2), (dI x3), (dI x4), (dI x5), (Dw n6 5 (Tk n6 5 l6)), (dI x7), (dI x8), (dI x9), (dI x10)]), (D.agg [(D.val (Value.string (s11))), (D.sl 0 1 [])]), (dI x13)] [D.nil, (dI n7)]) ∧
 (((Qv (vI n7)) ∧
 ((Qv (Value.slice none 0 0)) ∧
 ((Qv (Value.tuple [(Value.slice none 0 0), (vI n7)].toArray)) ∧
 True))) ∧
 (((Qv (vI n7)) ∧
 True) ∧
 (True ∧
 (bcase (dL n6 5 l6)
 (∃ n8 : Int,
 (∃ n9 : Int,
 ((Says C 14 [(D.agg [(dI x0), (dI x1), (dI x2), (dI x3), (dI x4), (dI x5), (Dw n6 5 l6), (dI x7), (dI x8), (dI x9), (dI x10)])] [(dI n8), (dI n9)]) ∧
 (bcase (n2 != n9)
 (k kF)
 (bcase (n1 != n8)
 (k kF)
 (bcase (n9 != 0)
 (bcase (n4 == n9)
 (bcase (n5 == n9)
 (bcase (n7 == n9)
 (bcase (n3 == 0)
 (k kT)
 (k kF))
 (k kF))
 (k kF))
 (k kF))
 (bcase (dL n6 5 l6)
 (∃ n10 : Int,
 (∃ n11 : Int,
 ((Says C 15 [(D.agg [(dI x0), (dI x1), (dI x2), (dI x3), (dI x4), (dI x5), (Dw n6 5 l6), (dI x7), (dI x8), (dI x9), (dI x10)]), (D.agg [(D.val (Value.string (s11))), D.nil])] [(dI n10), (dI n11)]) ∧
 (bcase (n4 != n11)
 (k kF)
 (bcase (n3 != n10)
 (k kF)
 (bcase (n11 != 0)
 (bcase (n5 == n11)
 (bcase (n7 == n11)
 (k kT)
 (k kF))
 (k kF))
 (bcase (n5 != 0)
 (k kF)
 (bcase (dL n6 5 l6)
 (((Says C 17 [(D.agg [(dI x0), (dI x1), (dI x2), (dI x3), (dI x4), (dI x5), (Dw n6 5 l6), (dI x7), (dI x8), (dI x9), (dI x10)]), (D.agg [(D.val (Value.string (s11))), D.nil])] [D.nil]) ∧
 (((Says C 16 [D.nil, D.nil] kT) ∧
 (((Says C 18 [(dI x13), (D.val (vI 1)), (D.val (vI 1000000))] kT) ∧
 (bcase (n7 == 0)
 (bcase (dL n6 5 l6)
 (((Says C 19 [(D.agg [(dI x0), (dI x1), (dI x2), (dI x3), (dI x4), (dI x5), (Dw n6 5 l6), (dI x7), (dI x8), (dI x9), (dI x10)]), (D.agg [(D.val (Value.string (s11))), D.nil]), (dI x13)] [D.nil]) ∧
 (((Says C 16 [D.nil, D.nil] kT) ∧
 (k kT)) ∨
 ((Says C 16 [D.nil, D.nil] kF) ∧
 (k kF)))) ∨
 (∃ n12 : Nat,
 (∃ cs1 : List Go.Value,
 ((Says C 19 [(D.agg [(dI x0), (dI x1), (dI x2), (dI x3), (dI x4), (dI x5), (Dw n6 5 l6), (dI x7), (dI x8), (dI x9), (dI x10)]), (D.agg [(D.val (Value.string (s11))), D.nil]), (dI x13)] [(D.sl (n12) 2 (cs1))]) ∧
 (bcase (dL n12 2 cs1)
 (((Says C 16 [D.nil, (Dw n12 2 cs1)] kT) ∧
 (k kT)) ∨
 ((Says C 16 [D.nil, (Dw n12 2 cs1)] kF) ∧
 (k kF)))
 False)))))
 False)
 (k kF))) ∨
 ((Says C 18 [(dI x13), (D.val (vI 1)), (D.val (vI 1000000))] kF) ∧
 (bcase (n7 == 2)
 (k kT)
 (k kF))))) ∨
 ((Says C 16 [D.nil, D.nil] kF) ∧
 (k kF)))) ∨
 (∃ n12 : Nat,
 (∃ cs1 : List Go.Value,
 ((Says C 17 [(D.agg [(dI x0), (dI x1), (dI x2), (dI x3), (dI x4), (dI x5), (Dw n6 5 l6), (dI x7), (dI x8), (dI x9), (dI x10)]), (D.agg [(D.val (Value.string (s11))), D.nil])] [(D.sl (n12) 2 (cs1))]) ∧
 (bcase (dL n12 2 cs1)
 (((Says C 16 [D.nil, (Dw n12 2 cs1)] kT) ∧
 (((Says C 18 [(dI x13), (D.val (vI 1)), (D.val (vI 1000000))] kT) ∧
 (bcase (n7 == 0)
 (bcase (dL n6 5 l6)
 (((Says C 19 [(D.agg [(dI x0), (dI x1), (dI x2), (dI x3), (dI x4), (dI x5), (Dw n6 5 l6), (dI x7), (dI x8), (dI x9), (dI x10)]), (D.agg [(D.val (Value.string (s11))), D.nil]), (dI x13)] [D.nil]) ∧
 (((Says C 16 [D.nil, D.nil] kT) ∧
 (k kT)) ∨
 ((Says C 16 [D.nil, D.nil] kF) ∧
 (k kF)))) ∨
 (∃ n13 : Nat,
 (∃ cs2 : List Go.Value,
 ((Says C 19 [(D.agg [(dI x0), (dI x1), (dI x2), (dI x3), (dI x4), (dI x5), (Dw n6 5 l6), (dI x7), (dI x8), (dI x9), (dI x10)]), (D.agg [(D.val (Value.string (s11))), D.nil]), (dI x13)] [(D.sl (n13) 2 (cs2))]) ∧
 (bcase (dL n13 2 cs2)
 (((Says C 16 [D.nil, (Dw n13 2 cs2)] kT) ∧
 (k kT)) ∨
 ((Says C 16 [D.nil, (Dw n13 2 cs2)] kF) ∧
 (k kF)))
 False)))))
 False)
 (k kF))) ∨
 ((Says C 18 [(dI x13), (D.val (vI 1)), (D.val (vI 1000000))] kF) ∧
 (bcase (n7 == 2)
 (k kT)
 (k kF))))) ∨
 ((Says C 16 [D.nil, (Dw n12 2 cs1)] kF) ∧
 (k kF)))
 False)))))
 False))))))))
 False)))))))
 False)))))) ∨
 (∃ n7 : Nat,
 (∃ cs1 : List Go.Value,
 (∃ n8 : Int,
 ((Says C 13 [(D.agg [(dI x0), (dI x1), (dI x2), (dI x3), (dI x4), (dI x5), (Dw n6 5 (Tk n6 5 l6)), (dI x7), (dI x8), (dI x9), (dI x10)]), (D.agg [(D.val (Value.string (s11))), (D.sl 0 1 [])]), (dI x13)] [(D.sl (n7) 2 (cs1)), (dI n8)]) ∧
 (((Qv (vI n8)) ∧
 ((Qv (Sl 1011 (n7) (n7))) ∧
 ((Qv (Value.tuple [(Sl 1011 (n7) (n7)), (vI n8)].toArray)) ∧
 True))) ∧
 (((Qv (vI n8)) ∧
 True) ∧
 (True ∧
 (bcase (dL n6 5 l6)
 (∃ n9 : Int,
 (∃ n10 : Int,
 ((Says C 14 [(D.agg [(dI x0), (dI x1), (dI x2), (dI x3), (dI x4), (dI x5), (Dw n6 5 l6), (dI x7), (dI x8), (dI x9), (dI x10)])] [(dI n9), (dI n10)]) ∧
 (bcase (n2 != n10)
 (k kF)
 (bcase (n1 != n9)
 (k kF)
 (bcase (n10 != 0)
 (bcase (n4 == n10)
 (bcase (n5 == n10)
 (bcase (n8 == n10)
 (bcase (n3 == 0)
 (bcase (IntKind.wrap .i64 ((↑0 : Int) + (↑n7 : Int)) == 0)
 (k kT)
 (k kF))
 (k kF))
 (k kF))
 (k kF))
 (k kF))
 (bcase (dL n6 5 l6)
 (∃ n11 : Int,
 (∃ n12 : Int,
 ((Says C 15 [(D.agg [(dI x0), (dI x1), (dI x2), (dI x3), (dI x4), (dI x5), (Dw n6 5 l6), (dI x7), (dI x8), (dI x9), (dI x10)]), (D.agg [(D.val (Value.string (s11))), D.nil])] [(dI n11), (dI n12)]) ∧
 (bcase (n4 != n12)
 (k kF)
 (bcase (n3 != n11)
 (k kF)
 (bcase (n12 != 0)
 (bcase (n5 == n12)
 (bcase (n8 == n12)
 (bcase (IntKind.wrap .i64 ((↑0 : Int) + (↑n7 : Int)) == 0)
 (k kT)
 (k kF))
 (k kF))
 (k kF))
 (bcase (n5 != 0)
 (k kF)
 (bcase (dL n6 5 l6)
 (((Says C 17 [(D.agg [(dI x0), (dI x1), (dI x2), (dI x3), (dI x4), (dI x5), (Dw n6 5 l6), (dI x7), (dI x8), (dI x9), (dI x10)]), (D.agg [(D.val (Value.string (s11))), D.nil])] [D.nil]) ∧
 (((Says C 16 [D.nil, D.nil] kT) ∧
 (((Says C 18 [(dI x13), (D.val (vI 1)), (D.val (vI 1000000))] kT) ∧
 (bcase (n8 == 0)
 (bcase (dL n6 5 l6)
 (((Says C 19 [(D.agg [(dI x0), (dI x1), (dI x2), (dI x3), (dI x4), (dI x5), (Dw n6 5 l6), (dI x7), (dI x8), (dI x9), (dI x10)]), (D.agg [(D.val (Value.string (s11))), D.nil]), (dI x13)] [D.nil]) ∧
 (bcase (dL n7 2 cs1)
 (((Says C 16 [(Dw n7 2 cs1), D.nil] kT) ∧
 (k kT)) ∨
 ((Says C 16 [(Dw n7 2 cs1), D.nil] kF) ∧
 (k kF)))
 False)) ∨
 (∃ n13 : Nat,
 (∃ cs2 : List Go.Value,
 ((Says C 19 [(D.agg [(dI x0), (dI x1), (dI x2), (dI x3), (dI x4), (dI x5), (Dw n6 5 l6), (dI x7), (dI x8), (dI x9), (dI x10)]), (D.agg [(D.val (Value.string (s11))), D.nil]), (dI x13)] [(D.sl (n13) 2 (cs2))]) ∧
 (bcase (dL n7 2 cs1)
 (bcase (dL n13 2 cs2)
 (((Says C 16 [(Dw n7 2 cs1), (Dw n13 2 cs2)] kT) ∧
 (k kT)) ∨
 ((Says C 16 [(Dw n7 2 cs1), (Dw n13 2 cs2)] kF) ∧
 (k kF)))
 False)
 False)))))
 False)
 (k kF))) ∨
 ((Says C 18 [(dI x13), (D.val (vI 1)), (D.val (vI 1000000))] kF) ∧
 (bcase (n8 == 2)
 (bcase ((↑n7 : Int) == 0)
 (k kT)
 (k kF))
 (k kF))))) ∨
 ((Says C 16 [D.nil, D.nil] kF) ∧
 (k kF)))) ∨
 (∃ n13 : Nat,
 (∃ cs2 : List Go.Value,
 ((Says C 17 [(D.agg [(dI x0), (dI x1), (dI x2), (dI x3), (dI x4), (dI x5), (Dw n6 5 l6), (dI x7), (dI x8), (dI x9), (dI x10)]), (D.agg [(D.val (Value.string (s11))), D.nil])] [(D.sl (n13) 2 (cs2))]) ∧
 (bcase (dL n13 2 cs2)
 (((Says C 16 [D.nil, (Dw n13 2 cs2)] kT) ∧
 (((Says C 18 [(dI x13), (D.val (vI 1)), (D.val (vI 1000000))] kT) ∧
 (bcase (n8 == 0)
 (bcase (dL n6 5 l6)
 (((Says C 19 [(D.agg [(dI x0), (dI x1), (dI x2), (dI x3), (dI x4), (dI x5), (Dw n6 5 l6), (dI x7), (dI x8), (dI x9), (dI x10)]), (D.agg [(D.val (Value.string (s11))), D.nil]), (dI x13)] [D.nil]) ∧
 (bcase (dL n7 2 cs1)
 (((Says C 16 [(Dw n7 2 cs1), D.nil] kT) ∧
 (k kT)) ∨
 ((Says C 16 [(Dw n7 2 cs1), D.nil] kF) ∧
 (k kF)))
 False)) ∨
 (∃ n14 : Nat,
 (∃ cs3 : List Go.Value,
 ((Says C 19 [(D.agg [(dI x0), (dI x1), (dI x2), (dI x3), (dI x4), (dI x5), (Dw n6 5 l6), (dI x7), (dI x8), (dI x9), (dI x10)]), (D.agg [(D.val (Value.string (s11))), D.nil]), (dI x13)] [(D.sl (n14) 2 (cs3))]) ∧
 (bcase (dL n7 2 cs1)
 (bcase (dL n14 2 cs3)
 (((Says C 16 [(Dw n7 2 cs1), (Dw n14 2 cs3)] kT) ∧
 (k kT)) ∨
 ((Says C 16 [(Dw n7 2 cs1), (Dw n14 2 cs3)] kF) ∧
 (k kF)))
 False)
 False)))))
 False)
 (k kF))) ∨
 ((Says C 18 [(dI x13), (D.val (vI 1)), (D.val (vI 1000000))] kF) ∧
 (bcase (n8 == 2)
 (bcase ((↑n7 : Int) == 0)
 (k kT)
 (k kF))
 (k kF))))) ∨
 ((Says C 16 [D.nil, (Dw n13 2 cs2)] kF) ∧
 (k kF)))
 False)))))
 False))))))))
 False)))))))
 False)))))))))
 False)))))
 False))))))) ∨
 (∃ n5 : Nat,
 (∃ cs1 : List Go.Value,
 (∃ n7 : Int,
 ((Says C 12 [(D.agg [(dI x0), (dI x1), (dI x2), (dI x3), (dI x4), (dI x5), (Dw n6 5 (Tk n6 5 l6)), (dI x7), (dI x8), (dI x9), (dI x10)]), (D.agg [(D.val (Value.string (s11))), (D.sl 0 1 [])])] [(D.sl (n5) 2 (cs1)), (dI n7)]) ∧
 (((Qv (vI n7)) ∧
 ((Qv (Sl 1009 (n5) (n5))) ∧
 ((Qv (Value.tuple [(Sl 1009 (n5) (n5)), (vI n7)].toArray)) ∧
 True))) ∧
 (((Qv (vI n7)) ∧
 True) ∧
 (True ∧
 (((Qv (vI x13)) ∧
 ((Qv (Value.agg [(Value.string (s11)), (Value.slice none 0 0)].toArray)) ∧
 ((Qv (Value.agg [(vI x0), (vI x1), (vI x2), (vI x3), (vI x4), (vI x5), (Sl 500 (n6) (c6)), (vI x7), (vI x8), (vI x9), (vI x10)].toArray)) ∧
 True))) ∧
 (bcase (dL n6 5 l6)
 ((Says C 9 [(D.agg [(dI x0), (dI x1), (dI x2), (dI x3), (dI x4), (dI x5), (Dw n6 5 l6), (dI x7), (dI x8), (dI x9), (dI x10)])] [(D.agg [(dI x0), (dI x1), (dI x2), (dI x3), (dI x4), (dI x5), (Dw n6 5 l6), (dI x7), (dI x8), (dI x9), (dI x10)])]) ∧
 (((Qv (vI x13)) ∧
 ((Qv (Value.agg [(Value.string (s11)), (Value.slice none 0 0)].toArray)) ∧
 True)) ∧
 ((Says C 11 [(D.agg [(D.val (Value.string (s11))), D.nil])] [(D.agg [(D.val (Value.string (s11))), (D.sl 0 1 [])])]) ∧
 (((Qv (vI x13)) ∧
 True) ∧
 (bcase (dL n6 5 (Tk n6 5 l6))
 ((∃ n8 : Int,
 ((Says C 13 [(D.agg [(dI x0), (dI x1), (dI x2), (dI x3), (dI x4), (dI x5), (Dw n6 5 (Tk n6 5 l6)), (dI x7), (dI x8), (dI x9), (dI x10)]), (D.agg [(D.val (Value.string (s11))), (D.sl 0 1 [])]), (dI x13)] [D.nil, (dI n8)]) ∧
 (((Qv (vI n8)) ∧
 ((Qv (Value.slice none 0 0)) ∧
 ((Qv (Value.tuple [(Value.slice none 0 0), (vI n8)].toArray)) ∧
 True))) ∧
 (((Qv (vI n8)) ∧
 True) ∧
 (True ∧
 (bcase (dL n6 5 l6)
 (∃ n9 : Int,
 (∃ n10 : Int,
 ((Says C 14 [(D.agg [(dI x0), (dI x1), (dI x2), (dI x3), (dI x4), (dI x5), (Dw n6 5 l6), (dI x7), (dI x8), (dI x9), (dI x10)])] [(dI n9), (dI n10)]) ∧
 (bcase (n2 != n10)
 (k kF)
 (bcase (n1 != n9)
 (k kF)
 (bcase (n10 != 0)
 (bcase (n4 == n10)
 (bcase (n7 == n10)
 (bcase (n8 == n10)
 (bcase (n3 == 0)
 (bcase (IntKind.wrap .i64 ((↑n5 : Int) + (↑0 : Int)) == 0)
 (k kT)
 (k kF))
 (k kF))
 (k kF))
 (k kF))
 (k kF))
 (bcase (dL n6 5 l6)
 (∃ n11 : Int,
 (∃ n12 : Int,
 ((Says C 15 [(D.agg [(dI x0), (dI x1), (dI x2), (dI x3), (dI x4), (dI x5), (Dw n6 5 l6), (dI x7), (dI x8), (dI x9), (dI x10)]), (D.agg [(D.val (Value.string (s11))), D.nil])] [(dI n11), (dI n12)]) ∧
 (bcase (n4 != n12)
 (k kF)
 (bcase (n3 != n11)
 (k kF)
 (bcase (n12 != 0)
 (bcase (n7 == n12)
 (bcase (n8 == n12)
 (bcase (IntKind.wrap .i64 ((↑n5 : Int) + (↑0 : Int)) == 0)
 (k kT)
 (k kF))
 (k kF))
 (k kF))
 (bcase (n7 != 0)
 (k kF)
 (bcase (dL n6 5 l6)
 (((Says C 17 [(D.agg [(dI x0), (dI x1), (dI x2), (dI x3), (dI x4), (dI x5), (Dw n6 5 l6), (dI x7), (dI x8), (dI x9), (dI x10)]), (D.agg [(D.val (Value.string (s11))), D.nil])] [D.nil]) ∧
 (bcase (dL n5 2 cs1)
 (((Says C 16 [(Dw n5 2 cs1), D.nil] kT) ∧
 (((Says C 18 [(dI x13), (D.val (vI 1)), (D.val (vI 1000000))] kT) ∧
 (bcase (n8 == 0)
 (bcase (dL n6 5 l6)
 (((Says C 19 [(D.agg [(dI x0), (dI x1), (dI x2), (dI x3), (dI x4), (dI x5), (Dw n6 5 l6), (dI x7), (dI x8), (dI x9), (dI x10)]), (D.agg [(D.val (Value.string (s11))), D.nil]), (dI x13)] [D.nil]) ∧
 (((Says C 16 [D.nil, D.nil] kT) ∧
 (k kT)) ∨
 ((Says C 16 [D.nil, D.nil] kF) ∧
 (k kF)))) ∨
 (∃ n13 : Nat,
 (∃ cs2 : List Go.Value,
 ((Says C 19 [(D.agg [(dI x0), (dI x1), (dI x2), (dI x3), (dI x4), (dI x5), (Dw n6 5 l6), (dI x7), (dI x8), (dI x9), (dI x10)]), (D.agg [(D.val (Value.string (s11))), D.nil]), (dI x13)] [(D.sl (n13) 2 (cs2))]) ∧
 (bcase (dL n13 2 cs2)
 (((Says C 16 [D.nil, (Dw n13 2 cs2)] kT) ∧
 (k kT)) ∨
 ((Says C 16 [D.nil, (Dw n13 2 cs2)] kF) ∧
 (k kF)))
 False)))))
 False)
 (k kF))) ∨
 ((Says C 18 [(dI x13), (D.val (vI 1)), (D.val (vI 1000000))] kF) ∧
 (bcase (n8 == 2)
 (k kT)
 (k kF))))) ∨
 ((Says C 16 [(Dw n5 2 cs1), D.nil] kF) ∧
 (k kF)))
 False)) ∨
 (∃ n13 : Nat,
 (∃ cs2 : List Go.Value,
 ((Says C 17 [(D.agg [(dI x0), (dI x1), (dI x2), (dI x3), (dI x4), (dI x5), (Dw n6 5 l6), (dI x7), (dI x8), (dI x9), (dI x10)]), (D.agg [(D.val (Value.string (s11))), D.nil])] [(D.sl (n13) 2 (cs2))]) ∧
 (bcase (dL n5 2 cs1)
 (bcase (dL n13 2 cs2)
 (((Says C 16 [(Dw n5 2 cs1), (Dw n13 2 cs2)] kT) ∧
 (((Says C 18 [(dI x13), (D.val (vI 1)), (D.val (vI 1000000))] kT) ∧
 (bcase (n8 == 0)
 (bcase (dL n6 5 l6)
 (((Says C 19 [(D.agg [(dI x0), (dI x1), (dI x2), (dI x3), (dI x4), (dI x5), (Dw n6 5 l6), (dI x7), (dI x8), (dI x9), (dI x10)]), (D.agg [(D.val (Value.string (s11))), D.nil]), (dI x13)] [D.nil]) ∧
 (((Says C 16 [D.nil, D.nil] kT) ∧
 (k kT)) ∨
 ((Says C 16 [D.nil, D.nil] kF) ∧
 (k kF)))) ∨
 (∃ n14 : Nat,
 (∃ cs3 : List Go.Value,
 ((Says C 19 [(D.agg [(dI x0), (dI x1), (dI x2), (dI x3), (dI x4), (dI x5), (Dw n6 5 l6), (dI x7), (dI x8), (dI x9), (dI x10)]), (D.agg [(D.val (Value.string (s11))), D.nil]), (dI x13)] [(D.sl (n14) 2 (cs3))]) ∧
 (bcase (dL n14 2 cs3)
 (((Says C 16 [D.nil, (Dw n14 2 cs3)] kT) ∧
 (k kT)) ∨
 ((Says C 16 [D.nil, (Dw n14 2 cs3)] kF) ∧
 (k kF)))
 False)))))
 False)
 (k kF))) ∨
 ((Says C 18 [(dI x13), (D.val (vI 1)), (D.val (vI 1000000))] kF) ∧
 (bcase (n8 == 2)
 (k kT)
 (k kF))))) ∨
 ((Says C 16 [(Dw n5 2 cs1), (Dw n13 2 cs2)] kF) ∧
 (k kF)))
 False)
 False)))))
 False))))))))
 False)))))))
 False)))))) ∨
 (∃ n8 : Nat,
 (∃ cs2 : List Go.Value,
 (∃ n9 : Int,
 ((Says C 13 [(D.agg [(dI x0), (dI x1), (dI x2), (dI x3), (dI x4), (dI x5), (Dw n6 5 (Tk n6 5 l6)), (dI x7), (dI x8), (dI x9), (dI x10)]), (D.agg [(D.val (Value.string (s11))), (D.sl 0 1 [])]), (dI x13)] [(D.sl (n8) 2 (cs2)), (dI n9)]) ∧
 (((Qv (vI n9)) ∧
 ((Qv (Sl 1012 (n8) (n8))) ∧
 ((Qv (Value.tuple [(Sl 1012 (n8) (n8)), (vI n9)].toArray)) ∧
 True))) ∧
 (((Qv (vI n9)) ∧
 True) ∧
 (True ∧
 (bcase (dL n6 5 l6)
 (∃ n10 : Int,
 (∃ n11 : Int,
 ((Says C 14 [(D.agg [(dI x0), (dI x1), (dI x2), (dI x3), (dI x4), (dI x5), (Dw n6 5 l6), (dI x7), (dI x8), (dI x9), (dI x10)])] [(dI n10), (dI n11)]) ∧
 (bcase (n2 != n11)
 (k kF)
 (bcase (n1 != n10)
 (k kF)
 (bcase (n11 != 0)
 (bcase (n4 == n11)
 (bcase (n7 == n11)
 (bcase (n9 == n11)
 (bcase (n3 == 0)
 (bcase (IntKind.wrap .i64 ((↑n5 : Int) + (↑n8 : Int)) == 0)
 (k kT)
 (k kF))
 (k kF))
 (k kF))
 (k kF))
 (k kF))
 (bcase (dL n6 5 l6)
 (∃ n12 : Int,
 (∃ n13 : Int,
 ((Says C 15 [(D.agg [(dI x0), (dI x1), (dI x2), (dI x3), (dI x4), (dI x5), (Dw n6 5 l6), (dI x7), (dI x8), (dI x9), (dI x10)]), (D.agg [(D.val (Value.string (s11))), D.nil])] [(dI n12), (dI n13)]) ∧
 (bcase (n4 != n13)
 (k kF)
 (bcase (n3 != n12)
 (k kF)
 (bcase (n13 != 0)
 (bcase (n7 == n13)
 (bcase (n9 == n13)
 (bcase (IntKind.wrap .i64 ((↑n5 : Int) + (↑n8 : Int)) == 0)
 (k kT)
 (k kF))
 (k kF))
 (k kF))
 (bcase (n7 != 0)
 (k kF)
 (bcase (dL n6 5 l6)
 (((Says C 17 [(D.agg [(dI x0), (dI x1), (dI x2), (dI x3), (dI x4), (dI x5), (Dw n6 5 l6), (dI x7), (dI x8), (dI x9), (dI x10)]), (D.agg [(D.val (Value.string (s11))), D.nil])] [D.nil]) ∧
 (bcase (dL n5 2 cs1)
 (((Says C 16 [(Dw n5 2 cs1), D.nil] kT) ∧
 (((Says C 18 [(dI x13), (D.val (vI 1)), (D.val (vI 1000000))] kT) ∧
 (bcase (n9 == 0)
 (bcase (dL n6 5 l6)
 (((Says C 19 [(D.agg [(dI x0), (dI x1), (dI x2), (dI x3), (dI x4), (dI x5), (Dw n6 5 l6), (dI x7), (dI x8), (dI x9), (dI x10)]), (D.agg [(D.val (Value.string (s11))), D.nil]), (dI x13)] [D.nil]) ∧
 (bcase (dL n8 2 cs2)
 (((Says C 16 [(Dw n8 2 cs2), D.nil] kT) ∧
 (k kT)) ∨
 ((Says C 16 [(Dw n8 2 cs2), D.nil] kF) ∧
 (k kF)))
 False)) ∨
 (∃ n14 : Nat,
 (∃ cs3 : List Go.Value,
 ((Says C 19 [(D.agg [(dI x0), (dI x1), (dI x2), (dI x3), (dI x4), (dI x5), (Dw n6 5 l6), (dI x7), (dI x8), (dI x9), (dI x10)]), (D.agg [(D.val (Value.string (s11))), D.nil]), (dI x13)] [(D.sl (n14) 2 (cs3))]) ∧
 (bcase (dL n8 2 cs2)
 (bcase (dL n14 2 cs3)
 (((Says C 16 [(Dw n8 2 cs2), (Dw n14 2 cs3)] kT) ∧
 (k kT)) ∨
 ((Says C 16 [(Dw n8 2 cs2), (Dw n14 2 cs3)] kF) ∧
 (k kF)))
 False)
 False)))))
 False)
 (k kF))) ∨
 ((Says C 18 [(dI x13), (D.val (vI 1)), (D.val (vI 1000000))] kF) ∧
 (bcase (n9 == 2)
 (bcase ((↑n8 : Int) == 0)
 (k kT)
 (k kF))
 (k kF))))) ∨
 ((Says C 16 [(Dw n5 2 cs1), D.nil] kF) ∧
 (k kF)))
 False)) ∨
 (∃ n14 : Nat,
 (∃ cs3 : List Go.Value,
 ((Says C 17 [(D.agg [(dI x0), (dI x1), (dI x2), (dI x3), (dI x4), (dI x5), (Dw n6 5 l6), (dI x7), (dI x8), (dI x9), (dI x10)]), (D.agg [(D.val (Value.string (s11))), D.nil])] [(D.sl (n14) 2 (cs3))]) ∧
 (bcase (dL n5 2 cs1)
 (bcase (dL n14 2 cs3)
 (((Says C 16 [(Dw n5 2 cs1), (Dw n14 2 cs3)] kT) ∧
 (((Says C 18 [(dI x13), (D.val (vI 1)), (D.val (vI 1000000))] kT) ∧
 (bcase (n9 == 0)
 (bcase (dL n6 5 l6)
 (((Says C 19 [(D.agg [(dI x0), (dI x1), (dI x2), (dI x3), (dI x4), (dI x5), (Dw n6 5 l6), (dI x7), (dI x8), (dI x9), (dI x10)]), (D.agg [(D.val (Value.string (s11))), D.nil]), (dI x13)] [D.nil]) ∧
 (bcase (dL n8 2 cs2)
 (((Says C 16 [(Dw n8 2 cs2), D.nil] kT) ∧
 (k kT)) ∨
 ((Says C 16 [(Dw n8 2 cs2), D.nil] kF) ∧
 (k kF)))
 False)) ∨
 (∃ n15 : Nat,
 (∃ cs4 : List Go.Value,
 ((Says C 19 [(D.agg [(dI x0), (dI x1), (dI x2), (dI x3), (dI x4), (dI x5), (Dw n6 5 l6), (dI x7), (dI x8), (dI x9), (dI x10)]), (D.agg [(D.val (Value.string (s11))), D.nil]), (dI x13)] [(D.sl (n15) 2 (cs4))]) ∧
 (bcase (dL n8 2 cs2)
 (bcase (dL n15 2 cs4)
 (((Says C 16 [(Dw n8 2 cs2), (Dw n15 2 cs4)] kT) ∧
 (k kT)) ∨
 ((Says C 16 [(Dw n8 2 cs2), (Dw n15 2 cs4)] kF) ∧
 (k kF)))
 False)
 False)))))
 False)
 (k kF))) ∨
 ((Says C 18 [(dI x13), (D.val (vI 1)), (D.val (vI 1000000))] kF) ∧
 (bcase (n9 == 2)
 (bcase ((↑n8 : Int) == 0)
 (k kT)
 (k kF))
 (k kF))))) ∨
 ((Says C 16 [(Dw n5 2 cs1), (Dw n14 2 cs3)] kF) ∧
 (k kF)))
 False)
 False)))))
 False))))))))
 False)))))))
 False)))))))))
 False)))))
 False))))))))))
 False)))))
 False))))))))
 False)))))
 False)))))
 False))
 False)
 (k kT))
 (k kT))) ∨
 ((Says C 6 [] kF) ∧
 (k kF))) := by kernel_rfl
def gL2 (C : Ct) (L : AtLoop) (x0 : Int) (x1 : Int) (x2 : Int) (x3 : Int) (x4 : Int) (x5 : Int) (x7 : Int) (x8 : Int) (x9 : Int) (x10 : Int) (s11 : ByteArray) (n12 : Nat) (c12 : Nat) (l12 : List Value) (x13 : Int) (k : List D → Prop) : Prop := wpFn Try.prog (hQ C) L 0 3 #[.agg #[.int .i64 x0, .int .i64 x1, .int .i64 x2, .int .i64 x3, .int .i64 x4, .int .i64 x5, .slice none 0 0, .int .i64 x7, .int .i64 x8, .int .i64 x9, .int .i64 x10], .agg #[.string s11, .slice (some ⟨500, 0, none⟩) n12 c12], .int .i64 x13] (heapOf [(500, .sym l12 false 1)]) (dataK k)
theorem gL2_text (C : Ct) (L : AtLoop) (x0 : Int) (x1 : Int) (x2 : Int) (x3 : Int) (x4 : Int) (x5 : Int) (x7 : Int) (x8 : Int) (x9 : Int) (x10 : Int) (s11 : ByteArray) (n12 : Nat) (c12 : Nat) (l12 : List Go.Value) (x13 : Int) (k : List D → Prop) : gL2 C L x0 x1 x2 x3 x4 x5 x7 x8 x9 x10 s11 n12 c12 l12 x13 k =
 (((Says C 6 [] kT) ∧
 (bcase (decide ((↑n12 : Int) ≤ 8))
 (bcase (decide ((↑(ByteArray.size s11) : Int) ≤ 30))
 ((Says C 9 [(D.agg [(dI x0), (dI x1), (dI x2), (dI x3), (dI x4), (dI x5), D.nil, (dI x7), (dI x8), (dI x9), (dI x10)])] [(D.agg [(dI x0), (dI x1), (dI x2), (dI x3), (dI x4), (dI x5), (D.sl 0 5 []), (dI x7), (dI x8), (dI x9), (dI x10)])]) ∧
 (∃ n1 : Int,
 (∃ n2 : Int,
 ((Says C 8 [(D.agg [(dI x0), (dI x1), (dI x2), (dI x3), (dI x4), (dI x5), (D.sl 0 5 []), (dI x7), (dI x8), (dI x9), (dI x10)])] [(dI n1), (dI n2)]) ∧
 (((Qv (Value.agg [(Value.string (s11)), (Sl 500 (n12) (c12))].toArray)) ∧
 ((Qv (Value.agg [(vI x0), (vI x1), (vI x2), (vI x3), (vI x4), (vI x5), (Value.slice none 0 0), (vI x7), (vI x8), (vI x9), (vI x10)].toArray)) ∧
 True)) ∧
 ((Says C 9 [(D.agg [(dI x0), (dI x1), (dI x2), (dI x3), (dI x4), (dI x5), D.nil, (dI x7), (dI x8), (dI x9), (dI x10)])] [(D.agg [(dI x0), (dI x1), (dI x2), (dI x3), (dI x4), (dI x5), (D.sl 0 5 []), (dI x7), (dI x8), (dI x9), (dI x10)])]) ∧
 (((Qv (Value.agg [(Value.string (s11)), (Sl 500 (n12) (c12))].toArray)) ∧
 True) ∧
 (bcase (dL n12 1 l12)
 ((Says C 11 [(D.agg [(D.val (Value.string (s11))), (Dw n12 1 l12)])] [(D.agg [(D.val (Value.string (s11))), (Dw n12 1 l12)])]) ∧
 (True ∧
 (bcase (dL n12 1 (Tk n12 1 l12))
 (∃ n3 : Int,
 (∃ n4 : Int,
 ((Says C 10 [(D.agg [(dI x0), (dI x1), (dI x2), (dI x3), (dI x4), (dI x5), (D.sl 0 5 []), (dI x7), (dI x8), (dI x9), (dI x10)]), (D.agg [(D.val (Value.string (s11))), (Dw n12 1 (Tk n12 1 l12))])] [(dI n3), (dI n4)]) ∧
 (((Qv (vI n4)) ∧
 ((Qv (vI n3)) ∧
 ((Qv (Value.tuple [(vI n3), (vI n4)].toArray)) ∧
 True))) ∧
 (((Qv (vI n4)) ∧
 True) ∧
 (True ∧
 (((Qv (Value.agg [(Value.string (s11)), (Sl 500 (n12) (c12))].toArray)) ∧
 ((Qv (Value.agg [(vI x0), (vI x1), (vI x2), (vI x3), (vI x4), (vI x5), (Value.slice none 0 0), (vI x7), (vI x8), (vI x9), (vI x10)].toArray)) ∧
 True)) ∧
 ((Says C 9 [(D.agg [(dI x0), (dI x1), (dI x2), (dI x3), (dI x4), (dI x5), D.nil, (dI x7), (dI x8), (dI x9), (dI x10)])] [(D.agg [(dI x0), (dI x1), (dI x2), (dI x3), (dI x4), (dI x5), (D.sl 0 5 []), (dI x7), (dI x8), (dI x9), (dI x10)])]) ∧
 (((Qv (Value.agg [(Value.string (s11)), (Sl 500 (n12) (c12))].toArray)) ∧
 True) ∧
 (bcase (dL n12 1 l12)
 ((Says C 11 [(D.agg [(D.val (Value.string (s11))), (Dw n12 1 l12)])] [(D.agg [(D.val (Value.string (s11))), (Dw n12 1 l12)])]) ∧
 (True ∧
 (bcase (dL n12 1 (Tk n12 1 l12))
 ((∃ n5 : Int,
 ((Says C 12 [(D.agg [(dI x0), (dI x1), (dI x2), (dI x3), (dI x4), (dI x5), (D.sl 0 5 []), (dI x7), (dI x8), (dI x9), (dI x10)]), (D.agg [(D.val (Value.string (s11))), (Dw n12 1 (Tk n12 1 l12))])] [D.nil, (dI n5)]) ∧
 (((Qv (vI n5)) ∧
 ((Qv (Value.slice none 0 0)) ∧
 ((Qv (Value.tuple [(Value.slice none 0 0), (vI n5)].toArray)) ∧
 True))) ∧
 (((Qv (vI n5)) ∧
 True) ∧
 (True ∧
 (((Qv (vI x13)) ∧
 ((Qv (Value.agg [(Value.string (s11)), (Sl 500 (n12) (c12))].toArray)) ∧
 ((Qv (Value.agg [(vI x0), (vI x1), (vI x2), (vI x3), (vI x4), (vI x5), (Value.slice none 0 0), (vI x7), (vI x8), (vI x9), (vI x10)].toArray)) ∧
 True))) ∧
 ((Says C 9 [(D.agg [(dI x0), (dI x1), (dI x2), (dI x3), (dI x4), (dI x5), D.nil, (dI x7), (dI x8), (dI x9), (dI x10)])] [(D.agg [(dI x0), (dI x1), (dI x2), (dI x3), (dI x4), (dI x5), (D.sl 0 5 []), (dI x7), (dI x8), (dI x9), (dI x10)])]) ∧
 (((Qv (vI x13)) ∧
 ((Qv (Value.agg [(Value.string (s11)), (Sl 500 (n12) (c12))].toArray)) ∧
 True)) ∧
 (bcase (dL n12 1 l12)
 ((Says C 11 [(D.agg [(D.val (Value.string (s11))), (Dw n12 1 l12)])] [(D.agg [(D.val (Value.string (s11))), (Dw n12 1 l12)])]) ∧
 (((Qv (vI x13)) ∧
 True) ∧
 (bcase (dL n12 1 (Tk n12 1 l12))
 ((∃ n6 : Int,
 ((Says C 13 [(D.agg [(dI x0), (dI x1), (dI x2), (dI x3), (dI x4), (dI x5), (D.sl 0 5 []), (dI x7), (dI x8), (dI x9), (dI x10)]), (D.agg [(D.val (Value.string (s11))), (Dw n12 1 (Tk n12 1 l12))]), (dI x13)] [D.nil, (dI n6)]) ∧
 (((Qv (vI n6)) ∧
 ((Qv (Value.slice none 0 0)) ∧
 ((Qv (Value.tuple [(Value.slice none 0 0), (vI n6)].toArray)) ∧
 True))) ∧
 (((Qv (vI n6)) ∧
 True) ∧
 (True ∧
 (∃ n7 : Int,
 (∃ n8 : Int,
 ((Says C 14 [(D.agg [(dI x0), (dI x1), (dI x2), (dI x3), (dI x4), (dI x5), D.nil, (dI x7), (dI x8), (dI x9), (dI x10)])] [(dI n7), (dI n8)]) ∧
 (bcase (n2 != n8)
 (k kF)
 (bcase (n1 != n7)
 (k kF)
 (bcase (n8 != 0)
 (bcase (n4 == n8)
 (bcase (n5 == n8)
 (bcase (n6 == n8)
 (bcase (n3 == 0)
 (k kT)
 (k kF))
 (k kF))
 (k kF))
 (k kF))
 (bcase (dL n12 1 l12)
 (∃ n9 : Int,
 (∃ n10 : Int,
 ((Says C 15 [(D.agg [(dI x0), (dI x1), (dI x2), (dI x3), (dI x4), (dI x5), D.nil, (dI x7), (dI x8), (dI x9), (dI x10)]), (D.agg [(D.val (Value.string (s11))), (Dw n12 1 l12)])] [(dI n9), (dI n10)]) ∧
 (bcase (n4 != n10)
 (k kF)
 (bcase (n3 != n9)
 (k kF)
 (bcase (n10 != 0)
 (bcase (n5 == n10)
 (bcase (n6 == n10)
 (k kT)
 (k kF))
 (k kF))
 (bcase (n5 != 0)
 (k kF)
 (bcase (dL n12 1 l12)
 (((Says C 17 [(D.agg [(dI x0), (dI x1), (dI x2), (dI x3), (dI x4), (dI x5), D.nil, (dI x7), (dI x8), (dI x9), (dI x10)]), (D.agg [(D.val (Value.string (s11))), (Dw n12 1 l12)])] [D.nil]) ∧
 (((Says C 16 [D.nil, D.nil] kT) ∧
 (((Says C 18 [(dI x13), (D.val (vI 1)), (D.val (vI 1000000))] kT) ∧
 (bcase (n6 == 0)
 (bcase (dL n12 1 l12)
 (((Says C 19 [(D.agg [(dI x0), (dI x1), (dI x2), (dI x3), (dI x4), (dI x5), D.nil, (dI x7), (dI x8), (dI x9), (dI x10)]), (D.agg [(D.val (Value.string (s11))), (Dw n12 1 l12)]), (dI x13)] [D.nil]) ∧
 (((Says C 16 [D.nil, D.nil] kT) ∧
 (k kT)) ∨
 ((Says C 16 [D.nil, D.nil] kF) ∧
 (k kF)))) ∨
 (∃ n11 : Nat,
 (∃ cs1 : List Go.Value,
 ((Says C 19 [(D.agg [(dI x0), (dI x1), (dI x2), (dI x3), (dI x4), (dI x5), D.nil, (dI x7), (dI x8), (dI x9), (dI x10)]), (D.agg [(D.val (Value.string (s11))), (Dw n12 1 l12)]), (dI x13)] [(D.sl (n11) 2 (cs1))]) ∧
 (bcase (dL n11 2 cs1)
 (((Says C 16 [D.nil, (Dw n11 2 cs1)] kT) ∧
 (k kT)) ∨
 ((Says C 16 [D.nil, (Dw n11 2 cs1)] kF) ∧
 (k kF)))
 False)))))
 False)
 (k kF))) ∨
 ((Says C 18 [(dI x13), (D.val (vI 1)), (D.val (vI 1000000))] kF) ∧
 (bcase (n6 == 2)
 (k kT)
 (k kF))))) ∨
 ((Says C 16 [D.nil, D.nil] kF) ∧
 (k kF)))) ∨
 (∃ n11 : Nat,
 (∃ cs1 : List Go.Value,
 ((Says C 17 [(D.agg [(dI x0), (dI x1), (dI x2), (dI x3), (dI x4), (dI x5), D.nil, (dI x7), (dI x8), (dI x9), (dI x10)]), (D.agg [(D.val (Value.string (s11))), (Dw n12 1 l12)])] [(D.sl (n11) 2 (cs1))]) ∧
 (bcase (dL n11 2 cs1)
 (((Says C 16 [D.nil, (Dw n11 2 cs1)] kT) ∧
 (((Says C 18 [(dI x13), (D.val (vI 1)), (D.val (vI 1000000))] kT) ∧
 (bcase (n6 == 0)
 (bcase (dL n12 1 l12)
 (((Says C 19 [(D.agg [(dI x0), (dI x1), (dI x2), (dI x3), (dI x4), (dI x5), D.nil, (dI x7), (dI x8), (dI x9), (dI x10)]), (D.agg [(D.val (Value.string (s11))), (Dw n12 1 l12)]), (dI x13)] [D.nil]) ∧
 (((Says C 16 [D.nil, D.nil] kT) ∧
 (k kT)) ∨
 ((Says C 16 [D.nil, D.nil] kF) ∧
 (k kF)))) ∨
 (∃ n13 : Nat,
 (∃ cs2 : List Go.Value,
 ((Says C 19 [(D.agg [(dI x0), (dI x1), (dI x2), (dI x3), (dI x4), (dI x5), D.nil, (dI x7), (dI x8), (dI x9), (dI x10)]), (D.agg [(D.val (Value.string (s11))), (Dw n12 1 l12)]), (dI x13)] [(D.sl (n13) 2 (cs2))]) ∧
 (bcase (dL n13 2 cs2)
 (((Says C 16 [D.nil, (Dw n13 2 cs2)] kT) ∧
 (k kT)) ∨
 ((Says C 16 [D.nil, (Dw n13 2 cs2)] kF) ∧
 (k kF)))
 False)))))
 False)
 (k kF))) ∨
 ((Says C 18 [(dI x13), (D.val (vI 1)), (D.val (vI 1000000))] kF) ∧
 (bcase (n6 == 2)
 (k kT)
 (k kF))))) ∨
 ((Says C 16 [D.nil, (Dw n11 2 cs1)] kF) ∧
 (k kF)))
 False)))))
 False))))))))
 False)))))))))))) ∨
 (∃ n6 : Nat,
 (∃ cs1 : List Go.Value,
 (∃ n7 : Int,
 ((Says C 13 [(D.agg [(dI x0), (dI x1), (dI x2), (dI x3), (dI x4), (dI x5), (D.sl 0 5 []), (dI x7), (dI x8), (dI x9), (dI x10)]), (D.agg [(D.val (Value.string (s11))), (Dw n12 1 (Tk n12 1 l12))]), (dI x13)] [(D.sl (n6) 2 (cs1)), (dI n7)]) ∧
 (((Qv (vI n7)) ∧
 ((Qv (Sl 1011 (n6) (n6))) ∧
 ((Qv (Value.tuple [(Sl 1011 (n6) (n6)), (vI n7)].toArray)) ∧
 True))) ∧
 (((Qv (vI n7)) ∧
 True) ∧
 (True ∧
 (∃ n8 : Int,
 (∃ n9 : Int,
 ((Says C 14 [(D.agg [(dI x0), (dI x1), (dI x2), (dI x3), (dI x4), (dI x5), D.nil, (dI x7), (dI x8), (dI x9), (dI x10)])] [(dI n8), (dI n9)]) ∧
 (bcase (n2 != n9)
 (k kF)
 (bcase (n1 != n8)
 (k kF)
 (bcase (n9 != 0)
 (bcase (n4 == n9)
 (bcase (n5 == n9)
 (bcase (n7 == n9)
 (bcase (n3 == 0)
 (bcase (IntKind.wrap .i64 ((↑0 : Int) + (↑n6 : Int)) == 0)
 (k kT)
 (k kF))
 (k kF))
 (k kF))
 (k kF))
 (k kF))
 (bcase (dL n12 1 l12)
 (∃ n10 : Int,
 (∃ n11 : Int,
 ((Says C 15 [(D.agg [(dI x0), (dI x1), (dI x2), (dI x3), (dI x4), (dI x5), D.nil, (dI x7), (dI x8), (dI x9), (dI x10)]), (D.agg [(D.val (Value.string (s11))), (Dw n12 1 l12)])] [(dI n10), (dI n11)]) ∧
 (bcase (n4 != n11)
 (k kF)
 (bcase (n3 != n10)
 (k kF)
 (bcase (n11 != 0)
 (bcase (n5 == n11)
 (bcase (n7 == n11)
 (bcase (IntKind.wrap .i64 ((↑0 : Int) + (↑n6 : Int)) == 0)
 (k kT)
 (k kF))
 (k kF))
 (k kF))
 (bcase (n5 != 0)
 (k kF)
 (bcase (dL n12 1 l12)
 (((Says C 17 [(D.agg [(dI x0), (dI x1), (dI x2), (dI x3), (dI x4), (dI x5), D.nil, (dI x7), (dI x8), (dI x9), (dI x10)]), (D.agg [(D.val (Value.string (s11))), (Dw n12 1 l12)])] [D.nil]) ∧
 (((Says C 16 [D.nil, D.nil] kT) ∧
 (((Says C 18 [(dI x13), (D.val (vI 1)), (D.val (vI 1000000))] kT) ∧
 (bcase (n7 == 0)
 (bcase (dL n12 1 l12)
 (((Says C 19 [(D.agg [(dI x0), (dI x1), (dI x2), (dI x3), (dI x4), (dI x5), D.nil, (dI x7), (dI x8), (dI x9), (dI x10)]), (D.agg [(D.val (Value.string (s11))), (Dw n12 1 l12)]), (dI x13)] [D.nil]) ∧
 (bcase (dL n6 2 cs1)
 (((Says C 16 [(Dw n6 2 cs1), D.nil] kT) ∧
 (k kT)) ∨
 ((Says C 16 [(Dw n6 2 cs1), D.nil] kF) ∧
 (k kF)))
 False)) ∨
 (∃ n13 : Nat,
 (∃ cs2 : List Go.Value,
 ((Says C 19 [(D.agg [(dI x0), (dI x1), (dI x2), (dI x3), (dI x4), (dI x5), D.nil, (dI x7), (dI x8), (dI x9), (dI x10)]), (D.agg [(D.val (Value.string (s11))), (Dw n12 1 l12)]), (dI x13)] [(D.sl (n13) 2 (cs2))]) ∧
 (bcase (dL n6 2 cs1)
 (bcase (dL n13 2 cs2)
 (((Says C 16 [(Dw n6 2 cs1), (Dw n13 2 cs2)] kT) ∧
 (k kT)) ∨
 ((Says C 16 [(Dw n6 2 cs1), (Dw n13 2 cs2)] kF) ∧
 (k kF)))
 False)
 False)))))
 False)
 (k kF))) ∨
 ((Says C 18 [(dI x13), (D.val (vI 1)), (D.val (vI 1000000))] kF) ∧
 (bcase (n7 == 2)
 (bcase ((↑n6 : Int) == 0)
 (k kT)
 (k kF))
 (k kF))))) ∨
 ((Says C 16 [D.nil, D.nil] kF) ∧
 (k kF)))) ∨
 (∃ n13 : Nat,
 (∃ cs2 : List Go.Value,
 ((Says C 17 [(D.agg [(dI x0), (dI x1), (dI x2), (dI x3), (dI x4), (dI x5), D.nil, (dI x7), (dI x8), (dI x9), (dI x10)]), (D.agg [(D.val (Value.string (s11))), (Dw n12 1 l12)])] [(D.sl (n13) 2 (cs2))]) ∧
 (bcase (dL n13 2 cs2)
 (((Says C 16 [D.nil, (Dw n13 2 cs2)] kT) ∧
 (((Says C 18 [(dI x13), (D.val (vI 1)), (D.val (vI 1000000))] kT) ∧
 (bcase (n7 == 0)
 (bcase (dL n12 1 l12)
 (((Says C 19 [(D.agg [(dI x0), (dI x1), (dI x2), (dI x3), (dI x4), (dI x5), D.nil, (dI x7), (dI x8), (dI x9), (dI x10)]), (D.agg [(D.val (Value.string (s11))), (Dw n12 1 l12)]), (dI x13)] [D.nil]) ∧
 (bcase (dL n6 2 cs1)
 (((Says C 16 [(Dw n6 2 cs1), D.nil] kT) ∧
 (k kT)) ∨
 ((Says C 16 [(Dw n6 2 cs1), D.nil] kF) ∧
 (k kF)))
 False)) ∨
 (∃ n14 : Nat,
 (∃ cs3 : List Go.Value,
 ((Says C 19 [(D.agg [(dI x0), (dI x1), (dI x2), (dI x3), (dI x4), (dI x5), D.nil, (dI x7), (dI x8), (dI x9), (dI x10)]), (D.agg [(D.val (Value.string (s11))), (Dw n12 1 l12)]), (dI x13)] [(D.sl (n14) 2 (cs3))]) ∧
 (bcase (dL n6 2 cs1)
 (bcase (dL n14 2 cs3)
 (((Says C 16 [(Dw n6 2 cs1), (Dw n14 2 cs3)] kT) ∧
 (k kT)) ∨
 ((Says C 16 [(Dw n6 2 cs1), (Dw n14 2 cs3)] kF) ∧
 (k kF)))
 False)
 False)))))
 False)
 (k kF))) ∨
 ((Says C 18 [(dI x13), (D.val (vI 1)), (D.val (vI 1000000))] kF) ∧
 (bcase (n7 == 2)
 (bcase ((↑n6 : Int) == 0)
 (k kT)
 (k kF))
 (k kF))))) ∨
 ((Says C 16 [D.nil, (Dw n13 2 cs2)] kF) ∧
 (k kF)))
 False)))))
 False))))))))
 False)))))))))))))))
 False)))
 False))))))))) ∨
 (∃ n5 : Nat,
 (∃ cs1 : List Go.Value,
 (∃ n6 : Int,
 ((Says C 12 [(D.agg [(dI x0), (dI x1), (dI x2), (dI x3), (dI x4), (dI x5), (D.sl 0 5 []), (dI x7), (dI x8), (dI x9), (dI x10)]), (D.agg [(D.val (Value.string (s11))), (Dw n12 1 (Tk n12 1 l12))])] [(D.sl (n5) 2 (cs1)), (dI n6)]) ∧
 (((Qv (vI n6)) ∧
 ((Qv (Sl 1009 (n5) (n5))) ∧
 ((Qv (Value.tuple [(Sl 1009 (n5) (n5)), (vI n6)].toArray)) ∧
 True))) ∧
 (((Qv (vI n6)) ∧
 True) ∧
 (True ∧
 (((Qv (vI x13)) ∧
 ((Qv (Value.agg [(Value.string (s11)), (Sl 500 (n12) (c12))].toArray)) ∧
 ((Qv (Value.agg [(vI x0), (vI x1), (vI x2), (vI x3), (vI x4), (vI x5), (Value.slice none 0 0), (vI x7), (vI x8), (vI x9), (vI x10)].toArray)) ∧
 True))) ∧
 ((Says C 9 [(D.agg [(dI x0), (dI x1), (dI x2), (dI x3), (dI x4), (dI x5), D.nil, (dI x7), (dI x8), (dI x9), (dI x10)])] [(D.agg [(dI x0), (dI x1), (dI x2), (dI x3), (dI x4), (dI x5), (D.sl 0 5 []), (dI x7), (dI x8), (dI x9), (dI x10)])]) ∧
 (((Qv (vI x13)) ∧
 ((Qv (Value.agg [(Value.string (s11)), (Sl 500 (n12) (c12))].toArray)) ∧
 True)) ∧
 (bcase (dL n12 1 l12)
 ((Says C 11 [(D.agg [(D.val (Value.string (s11))), (Dw n12 1 l12)])] [(D.agg [(D.val (Value.string (s11))), (Dw n12 1 l12)])]) ∧
 (((Qv (vI x13)) ∧
 True) ∧
 (bcase (dL n12 1 (Tk n12 1 l12))
 ((∃ n7 : Int,
 ((Says C 13 [(D.agg [(dI x0), (dI x1), (dI x2), (dI x3), (dI x4), (dI x5), (D.sl 0 5 []), (dI x7), (dI x8), (dI x9), (dI x10)]), (D.agg [(D.val (Value.string (s11))), (Dw n12 1 (Tk n12 1 l12))]), (dI x13)] [D.nil, (dI n7)]) ∧
 (((Qv (vI n7)) ∧
 ((Qv (Value.slice none 0 0)) ∧
 ((Qv (Value.tuple [(Value.slice none 0 0), (vI n7)].toArray)) ∧
 True))) ∧
 (((Qv (vI n7)) ∧
 True) ∧
 (True ∧
 (∃ n8 : Int,
 (∃ n9 : Int,
 ((Says C 14 [(D.agg [(dI x0), (dI x1), (dI x2), (dI x3), (dI x4), (dI x5), D.nil, (dI x7), (dI x8), (dI x9), (dI x10)])] [(dI n8), (dI n9)]) ∧
 (bcase (n2 != n9)
 (k kF)
 (bcase (n1 != n8)
 (k kF)
 (bcase (n9 != 0)
 (bcase (n4 == n9)
 (bcase (n6 == n9)
 (bcase (n7 == n9)
 (bcase (n3 == 0)
 (bcase (IntKind.wrap .i64 ((↑n5 : Int) + (↑0 : Int)) == 0)
 (k kT)
 (k kF))
 (k kF))
 (k kF))
 (k kF))
 (k kF))
 (bcase (dL n12 1 l12)
 (∃ n10 : Int,
 (∃ n11 : Int,
 ((Says C 15 [(D.agg [(dI x0), (dI x1), (dI x2), (dI x3), (dI x4), (dI x5), D.nil, (dI x7), (dI x8), (dI x9), (dI x10)]), (D.agg [(D.val (Value.string (s11))), (Dw n12 1 l12)])] [(dI n10), (dI n11)]) ∧
 (bcase (n4 != n11)
 (k kF)
 (bcase (n3 != n10)
 (k kF)
 (bcase (n11 != 0)
 (bcase (n6 == n11)
 (bcase (n7 == n11)
 (bcase (IntKind.wrap .i64 ((↑n5 : Int) + (↑0 : Int)) == 0)
 (k kT)
 (k kF))
 (k kF))
 (k kF))
 (bcase (n6 != 0)
 (k kF)
 (bcase (dL n12 1 l12)
 (((Says C 17 [(D.agg [(dI x0), (dI x1), (dI x2), (dI x3), (dI x4), (dI x5), D.nil, (dI x7), (dI x8), (dI x9), (dI x10)]), (D.agg [(D.val (Value.string (s11))), (Dw n12 1 l12)])] [D.nil]) ∧
 (bcase (dL n5 2 cs1)
 (((Says C 16 [(Dw n5 2 cs1), D.nil] kT) ∧
 (((Says C 18 [(dI x13), (D.val (vI 1)), (D.val (vI 1000000))] kT) ∧
 (bcase (n7 == 0)
 (bcase (dL n12 1 l12)
 (((Says C 19 [(D.agg [(dI x0), (dI x1), (dI x2), (dI x3), (dI x4), (dI x5), D.nil, (dI x7), (dI x8), (dI x9), (dI x10)]), (D.agg [(D.val (Value.string (s11))), (Dw n12 1 l12)]), (dI x13)] [D.nil]) ∧
 (((Says C 16 [D.nil, D.nil] kT) ∧
 (k kT)) ∨
 ((Says C 16 [D.nil, D.nil] kF) ∧
 (k kF)))) ∨
 (∃ n13 : Nat,
 (∃ cs2 : List Go.Value,
 ((Says C 19 [(D.agg [(dI x0), (dI x1), (dI x2), (dI x3), (dI x4), (dI x5), D.nil, (dI x7), (dI x8), (dI x9), (dI x10)]), (D.agg [(D.val (Value.string (s11))), (Dw n12 1 l12)]), (dI x13)] [(D.sl (n13) 2 (cs2))]) ∧
 (bcase (dL n13 2 cs2)
 (((Says C 16 [D.nil, (Dw n13 2 cs2)] kT) ∧
 (k kT)) ∨
 ((Says C 16 [D.nil, (Dw n13 2 cs2)] kF) ∧
 (k kF)))
 False)))))
 False)
 (k kF))) ∨
 ((Says C 18 [(dI x13), (D.val (vI 1)), (D.val (vI 1000000))] kF) ∧
 (bcase (n7 == 2)
 (k kT)
 (k kF))))) ∨
 ((Says C 16 [(Dw n5 2 cs1), D.nil] kF) ∧
 (k kF)))
 False)) ∨
 (∃ n13 : Nat,
 (∃ cs2 : List Go.Value,
 ((Says C 17 [(D.agg [(dI x0), (dI x1), (dI x2), (dI x3), (dI x4), (dI x5), D.nil, (dI x7), (dI x8), (dI x9), (dI x10)]), (D.agg [(D.val (Value.string (s11))), (Dw n12 1 l12)])] [(D.sl (n13) 2 (cs2))]) ∧
 (bcase (dL n5 2 cs1)
 (bcase (dL n13 2 cs2)
 (((Says C 16 [(Dw n5 2 cs1), (Dw n13 2 cs2)] kT) ∧
 (((Says C 18 [(dI x13), (D.val (vI 1)), (D.val (vI 1000000))] kT) ∧
 (bcase (n7 == 0)
 (bcase (dL n12 1 l12)
 (((Says C 19 [(D.agg [(dI x0), (dI x1), (dI x2), (dI x3), (dI x4), (dI x5), D.nil, (dI x7), (dI x8), (dI x9), (dI x10)]), (D.agg [(D.val (Value.string (s11))), (Dw n12 1 l12)]), (dI x13)] [D.nil]) ∧
 (((Says C 16 [D.nil, D.nil] kT) ∧
 (k kT)) ∨
 ((Says C 16 [D.nil, D.nil] kF) ∧
 (k kF)))) ∨
 (∃ n14 : Nat,
 (∃ cs3 : List Go.Value,
 ((Says C 19 [(D.agg [(dI x0), (dI x1), (dI x2), (dI x3), (dI x4), (dI x5), D.nil, (dI x7), (dI x8), (dI x9), (dI x10)]), (D.agg [(D.val (Value.string (s11))), (Dw n12 1 l12)]), (dI x13)] [(D.sl (n14) 2 (cs3))]) ∧
 (bcase (dL n14 2 cs3)
 (((Says C 16 [D.nil, (Dw n14 2 cs3)] kT) ∧
 (k kT)) ∨
 ((Says C 16 [D.nil, (Dw n14 2 cs3)] kF) ∧
 (k kF)))
 False)))))
 False)
 (k kF))) ∨
 ((Says C 18 [(dI x13), (D.val (vI 1)), (D.val (vI 1000000))] kF) ∧
 (bcase (n7 == 2)
 (k kT)
 (k kF))))) ∨
 ((Says C 16 [(Dw n5 2 cs1), (Dw n13 2 cs2)] kF) ∧
 (k kF)))
 False)
 False)))))
 False))))))))
 False)))))))))))) ∨
 (∃ n7 : Nat,
 (∃ cs2 : List Go.Value,
 (∃ n8 : Int,
 ((Says C 13 [(D.agg [(dI x0), (dI x1), (dI x2), (dI x3), (dI x4), (dI x5), (D.sl 0 5 []), (dI x7), (dI x8), (dI x9), (dI x10)]), (D.agg [(D.val (Value.string (s11))), (Dw n12 1 (Tk n12 1 l12))]), (dI x13)] [(D.sl (n7) 2 (cs2)), (dI n8)]) ∧
 (((Qv (vI n8)) ∧
 ((Qv (Sl 1012 (n7) (n7))) ∧
 ((Qv (Value.tuple [(Sl 1012 (n7) (n7)), (vI n8)].toArray)) ∧
 True))) ∧
 (((Qv (vI n8)) ∧
 True) ∧
 (True ∧
 (∃ n9 : Int,
 (∃ n10 : Int,
 ((Says C 14 [(D.agg [(dI x0), (dI x1), (dI x2), (dI x3), (dI x4), (dI x5), D.nil, (dI x7), (dI x8), (dI x9), (dI x10)])] [(dI n9), (dI n10)]) ∧
 (bcase (n2 != n10)
 (k kF)
 (bcase (n1 != n9)
 (k kF)
 (bcase (n10 != 0)
 (bcase (n4 == n10)
 (bcase (n6 == n10)
 (bcase (n8 == n10)
 (bcase (n3 == 0)
 (bcase (IntKind.wrap .i64 ((↑n5 : Int) + (↑n7 : Int)) == 0)
 (k kT)
 (k kF))
 (k kF))
 (k kF))
 (k kF))
 (k kF))
 (bcase (dL n12 1 l12)
 (∃ n11 : Int,
 (∃ n13 : Int,
 ((Says C 15 [(D.agg [(dI x0), (dI x1), (dI x2), (dI x3), (dI x4), (dI x5), D.nil, (dI x7), (dI x8), (dI x9), (dI x10)]), (D.agg [(D.val (Value.string (s11))), (Dw n12 1 l12)])] [(dI n11), (dI n13)]) ∧
 (bcase (n4 != n13)
 (k kF)
 (bcase (n3 != n11)
 (k kF)
 (bcase (n13 != 0)
 (bcase (n6 == n13)
 (bcase (n8 == n13)
 (bcase (IntKind.wrap .i64 ((↑n5 : Int) + (↑n7 : Int)) == 0)
 (k kT)
 (k kF))
 (k kF))
 (k kF))
 (bcase (n6 != 0)
 (k kF)
 (bcase (dL n12 1 l12)
 (((Says C 17 [(D.agg [(dI x0), (dI x1), (dI x2), (dI x3), (dI x4), (dI x5), D.nil, (dI x7), (dI x8), (dI x9), (dI x10)]), (D.agg [(D.val (Value.string (s11))), (Dw n12 1 l12)])] [D.nil]) ∧
 (bcase (dL n5 2 cs1)
 (((Says C 16 [(Dw n5 2 cs1), D.nil] kT) ∧
 (((Says C 18 [(dI x13), (D.val (vI 1)), (D.val (vI 1000000))] kT) ∧
 (bcase (n8 == 0)
 (bcase (dL n12 1 l12)
 (((Says C 19 [(D.agg [(dI x0), (dI x1), (dI x2), (dI x3), (dI x4), (dI x5), D.nil, (dI x7), (dI x8), (dI x9), (dI x10)]), (D.agg [(D.val (Value.string (s11))), (Dw n12 1 l12)]), (dI x13)] [D.nil]) ∧
 (bcase (dL n7 2 cs2)
 (((Says C 16 [(Dw n7 2 cs2), D.nil] kT) ∧
 (k kT)) ∨
 ((Says C 16 [(Dw n7 2 cs2), D.nil] kF) ∧
 (k kF)))
 False)) ∨
 (∃ n14 : Nat,
 (∃ cs3 : List Go.Value,
 ((Says C 19 [(D.agg [(dI x0), (dI x1), (dI x2), (dI x3), (dI x4), (dI x5), D.nil, (dI x7), (dI x8), (dI x9), (dI x10)]), (D.agg [(D.val (Value.string (s11))), (Dw n12 1 l12)]), (dI x13)] [(D.sl (n14) 2 (cs3))]) ∧
 (bcase (dL n7 2 cs2)
 (bcase (dL n14 2 cs3)
 (((Says C 16 [(Dw n7 2 cs2), (Dw n14 2 cs3)] kT) ∧
 (k kT)) ∨
 ((Says C 16 [(Dw n7 2 cs2), (Dw n14 2 cs3)] kF) ∧
 (k kF)))
 False)
 False)))))
 False)
 (k kF))) ∨
 ((Says C 18 [(dI x13), (D.val (vI 1)), (D.val (vI 1000000))] kF) ∧
 (bcase (n8 == 2)
 (bcase ((↑n7 : Int) == 0)
 (k kT)
 (k kF))
 (k kF))))) ∨
 ((Says C 16 [(Dw n5 2 cs1), D.nil] kF) ∧
 (k kF)))
 False)) ∨
 (∃ n14 : Nat,
 (∃ cs3 : List Go.Value,
 ((Says C 17 [(D.agg [(dI x0), (dI x1), (dI x2), (dI x3), (dI x4), (dI x5), D.nil, (dI x7), (dI x8), (dI x9), (dI x10)]), (D.agg [(D.val (Value.string (s11))), (Dw n12 1 l12)])] [(D.sl (n14) 2 (cs3))]) ∧
 (bcase (dL n5 2 cs1)
 (bcase (dL n14 2 cs3)
 (((Says C 16 [(Dw n5 2 cs1), (Dw n14 2 cs3)] kT) ∧
 (((Says C 18 [(dI x13), (D.val (vI 1)), (D.val (vI 1000000))] kT) ∧
 (bcase (n8 == 0)
 (bcase (dL n12 1 l12)
 (((Says C 19 [(D.agg [(dI x0), (dI x1), (dI x2), (dI x3), (dI x4), (dI x5), D.nil, (dI x7), (dI x8), (dI x9), (dI x10)]), (D.agg [(D.val (Value.string (s11))), (Dw n12 1 l12)]), (dI x13)] [D.nil]) ∧
 (bcase (dL n7 2 cs2)
 (((Says C 16 [(Dw n7 2 cs2), D.nil] kT) ∧
 (k kT)) ∨
 ((Says C 16 [(Dw n7 2 cs2), D.nil] kF) ∧
 (k kF)))
 False)) ∨
 (∃ n15 : Nat,
 (∃ cs4 : List Go.Value,
 ((Says C 19 [(D.agg [(dI x0), (dI x1), (dI x2), (dI x3), (dI x4), (dI x5), D.nil, (dI x7), (dI x8), (dI x9), (dI x10)]), (D.agg [(D.val (Value.string (s11))), (Dw n12 1 l12)]), (dI x13)] [(D.sl (n15) 2 (cs4))]) ∧
 (bcase (dL n7 2 cs2)
 (bcase (dL n15 2 cs4)
 (((Says C 16 [(Dw n7 2 cs2), (Dw n15 2 cs4)] kT) ∧
 (k kT)) ∨
 ((Says C 16 [(Dw n7 2 cs2), (Dw n15 2 cs4)] kF) ∧
 (k kF)))
 False)
 False)))))
 False)
 (k kF))) ∨
 ((Says C 18 [(dI x13), (D.val (vI 1)), (D.val (vI 1000000))] kF) ∧
 (bcase (n8 == 2)
 (bcase ((↑n7 : Int) == 0)
 (k kT)
 (k kF))
 (k kF))))) ∨
 ((Says C 16 [(Dw n5 2 cs1), (Dw n14 2 cs3)] kF) ∧
 (k kF)))
 False)
 False)))))
 False))))))))
 False)))))))))))))))
 False)))
 False))))))))))))
 False)))
 False))))))))))
 False)))
 False))))))))
 (k kT))
 (k kT))) ∨
 ((Says C 6 [] kF) ∧
 (k kF))) := by kernel_rfl
def gL3 (C : Ct) (L : AtLoop) (x0 : Int) (x1 : Int) (x2 : Int) (x3 : Int) (x4 : Int) (x5 : Int) (x7 : Int) (x8 : Int) (x9 : Int) (x10 : Int) (s11 : ByteArray) (x13 : Int) (k : List D → Prop) : Prop := wpFn Try.prog (hQ C) L 0 3 #[.agg #[.int .i64 x0, .int .i64 x1, .int .i64 x2, .int .i64 x3, .int .i64 x4, .int .i64 x5, .slice none 0 0, .int .i64 x7, .int .i64 x8, .int .i64 x9, .int .i64 x10], .agg #[.string s11, .slice none 0 0], .int .i64 x13] (heapOf []) (dataK k)
theorem gL3_text (C : Ct) (L : AtLoop) (x0 : Int) (x1 : Int) (x2 : Int) (x3 : Int) (x4 : Int) (x5 : Int) (x7 : Int) (x8 : Int) (x9 : Int) (x10 : Int) (s11 : ByteArray) (x13 : Int) (k : List D → Prop) : gL3 C L x0 x1 x2 x3 x4 x5 x7 x8 x9 x10 s11 x13 k =
 (((Says C 6 [] kT) ∧
 (bcase (decide ((↑(ByteArray.size s11) : Int) ≤ 30))
 ((Says C 9 [(D.agg [(dI x0), (dI x1), (dI x2), (dI x3), (dI x4), (dI x5), D.nil, (dI x7), (dI x8), (dI x9), (dI x10)])] [(D.agg [(dI x0), (dI x1), (dI x2), (dI x3), (dI x4), (dI x5), (D.sl 0 5 []), (dI x7), (dI x8), (dI x9), (dI x10)])]) ∧
 (∃ n1 : Int,
 (∃ n2 : Int,
 ((Says C 8 [(D.agg [(dI x0), (dI x1), (dI x2), (dI x3), (dI x4), (dI x5), (D.sl 0 5 []), (dI x7), (dI x8), (dI x9), (dI x10)])] [(dI n1), (dI n2)]) ∧
 (((Qv (Value.agg [(Value.string (s11)), (Value.slice none 0 0)].toArray)) ∧
 ((Qv (Value.agg [(vI x0), (vI x1), (vI x2), (vI x3), (vI x4), (vI x5), (Value.slice none 0 0), (vI x7), (vI x8), (vI x9), (vI x10)].toArray)) ∧
 True)) ∧
 ((Says C 9 [(D.agg [(dI x0), (dI x1), (dI x2), (dI x3), (dI x4), (dI x5), D.nil, (dI x7), (dI x8), (dI x9), (dI x10)])] [(D.agg [(dI x0), (dI x1), (dI x2), (dI x3), (dI x4), (dI x5), (D.sl 0 5 []), (dI x7), (dI x8), (dI x9), (dI x10)])]) ∧
 (((Qv (Value.agg [(Value.string (s11)), (Value.slice none 0 0)].toArray)) ∧
 True) ∧
 ((Says C 11 [(D.agg [(D.val (Value.string (s11))), D.nil])] [(D.agg [(D.val (Value.string (s11))), (D.sl 0 1 [])])]) ∧
 (True ∧
 (∃ n3 : Int,
 (∃ n4 : Int,
 ((Says C 10 [(D.agg [(dI x0), (dI x1), (dI x2), (dI x3), (dI x4), (dI x5), (D.sl 0 5 []), (dI x7), (dI x8), (dI x9), (dI x10)]), (D.agg [(D.val (Value.string (s11))), (D.sl 0 1 [])])] [(dI n3), (dI n4)]) ∧
 (((Qv (vI n4)) ∧
 ((Qv (vI n3)) ∧
 ((Qv (Value.tuple [(vI n3), (vI n4)].toArray)) ∧
 True))) ∧
 (((Qv (vI n4)) ∧
 True) ∧
 (True ∧
 (((Qv (Value.agg [(Value.string (s11)), (Value.slice none 0 0)].toArray)) ∧
 ((Qv (Value.agg [(vI x0), (vI x1), (vI x2), (vI x3), (vI x4), (vI x5), (Value.slice none 0 0), (vI x7), (vI x8), (vI x9), (vI x10)].toArray)) ∧
 True)) ∧
 ((Says C 9 [(D.agg [(dI x0), (dI x1), (dI x2), (dI x3), (dI x4), (dI x5), D.nil, (dI x7), (dI x8), (dI x9), (dI x10)])] [(D.agg [(dI x0), (dI x1), (dI x2), (dI x3), (dI x4), (dI x5), (D.sl 0 5 []), (dI x7), (dI x8), (dI x9), (dI x10)])]) ∧
 (((Qv (Value.agg [(Value.string (s11)), (Value.slice none 0 0)].toArray)) ∧
 True) ∧
 ((Says C 11 [(D.agg [(D.val (Value.string (s11))), D.nil])] [(D.agg [(D.val (Value.string (s11))), (D.sl 0 1 [])])]) ∧
 (True ∧
 ((∃ n5 : Int,
 ((Says C 12 [(D.agg [(dI x0), (dI x1), (dI x2), (dI x3), (dI x4), (dI x5), (D.sl 0 5 []), (dI x7), (dI x8), (dI x9), (dI x10)]), (D.agg [(D.val (Value.string (s11))), (D.sl 0 1 [])])] [D.nil, (dI n5)]) ∧
 (((Qv (vI n5)) ∧
 ((Qv (Value.slice none 0 0)) ∧
 ((Qv (Value.tuple [(Value.slice none 0 0), (vI n5)].toArray)) ∧
 True))) ∧
 (((Qv (vI n5)) ∧
 True) ∧
 (True ∧
 (((Qv (vI x13)) ∧
 ((Qv (Value.agg [(Value.string (s11)), (Value.slice none 0 0)].toArray)) ∧
 ((Qv (Value.agg [(vI x0), (vI x1), (vI x2), (vI x3), (vI x4), (vI x5), (Value.slice none 0 0), (vI x7), (vI x8), (vI x9), (vI x10)].toArray)) ∧
 True))) ∧
 ((Says C 9 [(D.agg [(dI x0), (dI x1), (dI x2), (dI x3), (dI x4), (dI x5), D.nil, (dI x7), (dI x8), (dI x9), (dI x10)])] [(D.agg [(dI x0), (dI x1), (dI x2), (dI x3), (dI x4), (dI x5), (D.sl 0 5 []), (dI x7), (dI x8), (dI x9), (dI x10)])]) ∧
 (((Qv (vI x13)) ∧
 ((Qv (Value.agg [(Value.string (s11)), (Value.slice none 0 0)].toArray)) ∧
 True)) ∧
 ((Says C 11 [(D.agg [(D.val (Value.string (s11))), D.nil])] [(D.agg [(D.val (Value.string (s11))), (D.sl 0 1 [])])]) ∧
 (((Qv (vI x13)) ∧
 True) ∧
 ((∃ n6 : Int,
 ((Says C 13 [(D.agg [(dI x0), (dI x1), (dI x2), (dI x3), (dI x4), (dI x5), (D.sl 0 5 []), (dI x7), (dI x8), (dI x9), (dI x10)]), (D.agg [(D.val (Value.string (s11))), (D.sl 0 1 [])]), (dI x13)] [D.nil, (dI n6)]) ∧
 (((Qv (vI n6)) ∧
 ((Qv (Value.slice none 0 0)) ∧
 ((Qv (Value.tuple [(Value.slice none 0 0), (vI n6)].toArray)) ∧
 True))) ∧
 (((Qv (vI n6)) ∧
 True) ∧
 (True ∧
 (∃ n7 : Int,
 (∃ n8 : Int,
 ((Says C 14 [(D.agg [(dI x0), (dI x1), (dI x2), (dI x3), (dI x4), (dI x5), D.nil, (dI x7), (dI x8), (dI x9), (dI x10)])] [(dI n7), (dI n8)]) ∧
 (bcase (n2 != n8)
 (k kF)
 (bcase (n1 != n7)
 (k kF)
 (bcase (n8 != 0)
 (bcase (n4 == n8)
 (bcase (n5 == n8)
 (bcase (n6 == n8)
 (bcase (n3 == 0)
 (k kT)
 (k kF))
 (k kF))
 (k kF))
 (k kF))
 (∃ n9 : Int,
 (∃ n10 : Int,
 ((Says C 15 [(D.agg [(dI x0), (dI x1), (dI x2), (dI x3), (dI x4), (dI x5), D.nil, (dI x7), (dI x8), (dI x9), (dI x10)]), (D.agg [(D.val (Value.string (s11))), D.nil])] [(dI n9), (dI n10)]) ∧
 (bcase (n4 != n10)
 (k kF)
 (bcase (n3 != n9)
 (k kF)
 (bcase (n10 != 0)
 (bcase (n5 == n10)
 (bcase (n6 == n10)
 (k kT)
 (k kF))
 (k kF))
 (bcase (n5 != 0)
 (k kF)
 (((Says C 17 [(D.agg [(dI x0), (dI x1), (dI x2), (dI x3), (dI x4), (dI x5), D.nil, (dI x7), (dI x8), (dI x9), (dI x10)]), (D.agg [(D.val (Value.string (s11))), D.nil])] [D.nil]) ∧
 (((Says C 16 [D.nil, D.nil] kT) ∧
 (((Says C 18 [(dI x13), (D.val (vI 1)), (D.val (vI 1000000))] kT) ∧
 (bcase (n6 == 0)
 (((Says C 19 [(D.agg [(dI x0), (dI x1), (dI x2), (dI x3), (dI x4), (dI x5), D.nil, (dI x7), (dI x8), (dI x9), (dI x10)]), (D.agg [(D.val (Value.string (s11))), D.nil]), (dI x13)] [D.nil]) ∧
 (((Says C 16 [D.nil, D.nil] kT) ∧
 (k kT)) ∨
 ((Says C 16 [D.nil, D.nil] kF) ∧
 (k kF)))) ∨
 (∃ n11 : Nat,
 (∃ cs1 : List Go.Value,
 ((Says C 19 [(D.agg [(dI x0), (dI x1), (dI x2), (dI x3), (dI x4), (dI x5), D.nil, (dI x7), (dI x8), (dI x9), (dI x10)]), (D.agg [(D.val (Value.string (s11))), D.nil]), (dI x13)] [(D.sl (n11) 2 (cs1))]) ∧
 (bcase (dL n11 2 cs1)
 (((Says C 16 [D.nil, (Dw n11 2 cs1)] kT) ∧
 (k kT)) ∨
 ((Says C 16 [D.nil, (Dw n11 2 cs1)] kF) ∧
 (k kF)))
 False)))))
 (k kF))) ∨
 ((Says C 18 [(dI x13), (D.val (vI 1)), (D.val (vI 1000000))] kF) ∧
 (bcase (n6 == 2)
 (k kT)
 (k kF))))) ∨
 ((Says C 16 [D.nil, D.nil] kF) ∧
 (k kF)))) ∨
 (∃ n11 : Nat,
 (∃ cs1 : List Go.Value,
 ((Says C 17 [(D.agg [(dI x0), (dI x1), (dI x2), (dI x3), (dI x4), (dI x5), D.nil, (dI x7), (dI x8), (dI x9), (dI x10)]), (D.agg [(D.val (Value.string (s11))), D.nil])] [(D.sl (n11) 2 (cs1))]) ∧
 (bcase (dL n11 2 cs1)
 (((Says C 16 [D.nil, (Dw n11 2 cs1)] kT) ∧
 (((Says C 18 [(dI x13), (D.val (vI 1)), (D.val (vI 1000000))] kT) ∧
 (bcase (n6 == 0)
 (((Says C 19 [(D.agg [(dI x0), (dI x1), (dI x2), (dI x3), (dI x4), (dI x5), D.nil, (dI x7), (dI x8), (dI x9), (dI x10)]), (D.agg [(D.val (Value.string (s11))), D.nil]), (dI x13)] [D.nil]) ∧
 (((Says C 16 [D.nil, D.nil] kT) ∧
 (k kT)) ∨
 ((Says C 16 [D.nil, D.nil] kF) ∧
 (k kF)))) ∨
 (∃ n12 : Nat,
 (∃ cs2 : List Go.Value,
 ((Says C 19 [(D.agg [(dI x0), (dI x1), (dI x2), (dI x3), (dI x4), (dI x5), D.nil, (dI x7), (dI x8), (dI x9), (dI x10)]), (D.agg [(D.val (Value.string (s11))), D.nil]), (dI x13)] [(D.sl (n12) 2 (cs2))]) ∧
 (bcase (dL n12 2 cs2)
 (((Says C 16 [D.nil, (Dw n12 2 cs2)] kT) ∧
 (k kT)) ∨
 ((Says C 16 [D.nil, (Dw n12 2 cs2)] kF) ∧
 (k kF)))
 False)))))
 (k kF))) ∨
 ((Says C 18 [(dI x13), (D.val (vI 1)), (D.val (vI 1000000))] kF) ∧
 (bcase (n6 == 2)
 (k kT)
 (k kF))))) ∨
 ((Says C 16 [D.nil, (Dw n11 2 cs1)] kF) ∧
 (k kF)))
 False))))))))))))))))))))))) ∨
 (∃ n6 : Nat,
 (∃ cs1 : List Go.Value,
 (∃ n7 : Int,
 ((Says C 13 [(D.agg [(dI x0), (dI x1), (dI x2), (dI x3), (dI x4), (dI x5), (D.sl 0 5 []), (dI x7), (dI x8), (dI x9), (dI x10)]), (D.agg [(D.val (Value.string (s11))), (D.sl 0 1 [])]), (dI x13)] [(D.sl (n6) 2 (cs1)), (dI n7)]) ∧
 (((Qv (vI n7)) ∧
 ((Qv (Sl 1011 (n6) (n6))) ∧
 ((Qv (Value.tuple [(Sl 1011 (n6) (n6)), (vI n7)].toArray)) ∧
 True))) ∧
 (((Qv (vI n7)) ∧
 True) ∧
 (True ∧
 (∃ n8 : Int,
 (∃ n9 : Int,
 ((Says C 14 [(D.agg [(dI x0), (dI x1), (dI x2), (dI x3), (dI x4), (dI x5), D.nil, (dI x7), (dI x8), (dI x9), (dI x10)])] [(dI n8), (dI n9)]) ∧
 (bcase (n2 != n9)
 (k kF)
 (bcase (n1 != n8)
 (k kF)
 (bcase (n9 != 0)
 (bcase (n4 == n9)
 (bcase (n5 == n9)
 (bcase (n7 == n9)
 (bcase (n3 == 0)
 (bcase (IntKind.wrap .i64 ((↑0 : Int) + (↑n6 : Int)) == 0)
 (k kT)
 (k kF))
 (k kF))
 (k kF))
 (k kF))
 (k kF))
 (∃ n10 : Int,
 (∃ n11 : Int,
 ((Says C 15 [(D.agg [(dI x0), (dI x1), (dI x2), (dI x3), (dI x4), (dI x5), D.nil, (dI x7), (dI x8), (dI x9), (dI x10)]), (D.agg [(D.val (Value.string (s11))), D.nil])] [(dI n10), (dI n11)]) ∧
 (bcase (n4 != n11)
 (k kF)
 (bcase (n3 != n10)
 (k kF)
 (bcase (n11 != 0)
 (bcase (n5 == n11)
 (bcase (n7 == n11)
 (bcase (IntKind.wrap .i64 ((↑0 : Int) + (↑n6 : Int)) == 0)
 (k kT)
 (k kF))
 (k kF))
 (k kF))
 (bcase (n5 != 0)
 (k kF)
 (((Says C 17 [(D.agg [(dI x0), (dI x1), (dI x2), (dI x3), (dI x4), (dI x5), D.nil, (dI x7), (dI x8), (dI x9), (dI x10)]), (D.agg [(D.val (Value.string (s11))), D.nil])] [D.nil]) ∧
 (((Says C 16 [D.nil, D.nil] kT) ∧
 (((Says C 18 [(dI x13), (D.val (vI 1)), (D.val (vI 1000000))] kT) ∧
 (bcase (n7 == 0)
 (((Says C 19 [(D.agg [(dI x0), (dI x1), (dI x2), (dI x3), (dI x4), (dI x5), D.nil, (dI x7), (dI x8), (dI x9), (dI x10)]), (D.agg [(D.val (Value.string (s11))), D.nil]), (dI x13)] [D.nil]) ∧
 (bcase (dL n6 2 cs1)
 (((Says C 16 [(Dw n6 2 cs1), D.nil] kT) ∧
 (k kT)) ∨
 ((Says C 16 [(Dw n6 2 cs1), D.nil] kF) ∧
 (k kF)))
 False)) ∨
 (∃ n12 : Nat,
 (∃ cs2 : List Go.Value,
 ((Says C 19 [(D.agg [(dI x0), (dI x1), (dI x2), (dI x3), (dI x4), (dI x5), D.nil, (dI x7), (dI x8), (dI x9), (dI x10)]), (D.agg [(D.val (Value.string (s11))), D.nil]), (dI x13)] [(D.sl (n12) 2 (cs2))]) ∧
 (bcase (dL n6 2 cs1)
 (bcase (dL n12 2 cs2)
 (((Says C 16 [(Dw n6 2 cs1), (Dw n12 2 cs2)] kT) ∧
 (k kT)) ∨
 ((Says C 16 [(Dw n6 2 cs1), (Dw n12 2 cs2)] kF) ∧
 (k kF)))
 False)
 False)))))
 (k kF))) ∨
 ((Says C 18 [(dI x13), (D.val (vI 1)), (D.val (vI 1000000))] kF) ∧
 (bcase (n7 == 2)
 (bcase ((↑n6 : Int) == 0)
 (k kT)
 (k kF))
 (k kF))))) ∨
 ((Says C 16 [D.nil, D.nil] kF) ∧
 (k kF)))) ∨
 (∃ n12 : Nat,
 (∃ cs2 : List Go.Value,
 ((Says C 17 [(D.agg [(dI x0), (dI x1), (dI x2), (dI x3), (dI x4), (dI x5), D.nil, (dI x7), (dI x8), (dI x9), (dI x10)]), (D.agg [(D.val (Value.string (s11))), D.nil])] [(D.sl (n12) 2 (cs2))]) ∧
 (bcase (dL n12 2 cs2)
 (((Says C 16 [D.nil, (Dw n12 2 cs2)] kT) ∧
 (((Says C 18 [(dI x13), (D.val (vI 1)), (D.val (vI 1000000))] kT) ∧
 (bcase (n7 == 0)
 (((Says C 19 [(D.agg [(dI x0), (dI x1), (dI x2), (dI x3), (dI x4), (dI x5), D.nil, (dI x7), (dI x8), (dI x9), (dI x10)]), (D.agg [(D.val (Value.string (s11))), D.nil]), (dI x13)] [D.nil]) ∧
 (bcase (dL n6 2 cs1)
 (((Says C 16 [(Dw n6 2 cs1), D.nil] kT) ∧
 (k kT)) ∨
 ((Says C 16 [(Dw n6 2 cs1), D.nil] kF) ∧
 (k kF)))
 False)) ∨
 (∃ n13 : Nat,
 (∃ cs3 : List Go.Value,
 ((Says C 19 [(D.agg [(dI x0), (dI x1), (dI x2), (dI x3), (dI x4), (dI x5), D.nil, (dI x7), (dI x8), (dI x9), (dI x10)]), (D.agg [(D.val (Value.string (s11))), D.nil]), (dI x13)] [(D.sl (n13) 2 (cs3))]) ∧
 (bcase (dL n6 2 cs1)
 (bcase (dL n13 2 cs3)
 (((Says C 16 [(Dw n6 2 cs1), (Dw n13 2 cs3)] kT) ∧
 (k kT)) ∨
 ((Says C 16 [(Dw n6 2 cs1), (Dw n13 2 cs3)] kF) ∧
 (k kF)))
 False)
 False)))))
 (k kF))) ∨
 ((Says C 18 [(dI x13), (D.val (vI 1)), (D.val (vI 1000000))] kF) ∧
 (bcase (n7 == 2)
 (bcase ((↑n6 : Int) == 0)
 (k kT)
 (k kF))
 (k kF))))) ∨
 ((Says C 16 [D.nil, (Dw n12 2 cs2)] kF) ∧
 (k kF)))
 False)))))))))))))))))))))))))))))))))))) ∨
 (∃ n5 : Nat,
 (∃ cs1 : List Go.Value,
 (∃ n6 : Int,
 ((Says C 12 [(D.agg [(dI x0), (dI x1), (dI x2), (dI x3), (dI x4), (dI x5), (D.sl 0 5 []), (dI x7), (dI x8), (dI x9), (dI x10)]), (D.agg [(D.val (Value.string (s11))), (D.sl 0 1 [])])] [(D.sl (n5) 2 (cs1)), (dI n6)]) ∧
 (((Qv (vI n6)) ∧
 ((Qv (Sl 1009 (n5) (n5))) ∧
 ((Qv (Value.tuple [(Sl 1009 (n5) (n5)), (vI n6)].toArray)) ∧
 True))) ∧
 (((Qv (vI n6)) ∧
 True) ∧
 (True ∧
 (((Qv (vI x13)) ∧
 ((Qv (Value.agg [(Value.string (s11)), (Value.slice none 0 0)].toArray)) ∧
 ((Qv (Value.agg [(vI x0), (vI x1), (vI x2), (vI x3), (vI x4), (vI x5), (Value.slice none 0 0), (vI x7), (vI x8), (vI x9), (vI x10)].toArray)) ∧
 True))) ∧
 ((Says C 9 [(D.agg [(dI x0), (dI x1), (dI x2), (dI x3), (dI x4), (dI x5), D.nil, (dI x7), (dI x8), (dI x9), (dI x10)])] [(D.agg [(dI x0), (dI x1), (dI x2), (dI x3), (dI x4), (dI x5), (D.sl 0 5 []), (dI x7), (dI x8), (dI x9), (dI x10)])]) ∧
 (((Qv (vI x13)) ∧
 ((Qv (Value.agg [(Value.string (s11)), (Value.slice none 0 0)].toArray)) ∧
 True)) ∧
 ((Says C 11 [(D.agg [(D.val (Value.string (s11))), D.nil])] [(D.agg [(D.val (Value.string (s11))), (D.sl 0 1 [])])]) ∧
 (((Qv (vI x13)) ∧
 True) ∧
 ((∃ n7 : Int,
 ((Says C 13 [(D.agg [(dI x0), (dI x1), (dI x2), (dI x3), (dI x4), (dI x5), (D.sl 0 5 []), (dI x7), (dI x8), (dI x9), (dI x10)]), (D.agg [(D.val (Value.string (s11))), (D.sl 0 1 [])]), (dI x13)] [D.nil, (dI n7)]) ∧
 (((Qv (vI n7)) ∧
 ((Qv (Value.slice none 0 0)) ∧
 ((Qv (Value.tuple [(Value.slice none 0 0), (vI n7)].toArray)) ∧
 True))) ∧
 (((Qv (vI n7)) ∧
 True) ∧
 (True ∧
 (∃ n8 : Int,
 (∃ n9 : Int,
 ((Says C 14 [(D.agg [(dI x0), (dI x1), (dI x2), (dI x3), (dI x4), (dI x5), D.nil, (dI x7), (dI x8), (dI x9), (dI x10)])] [(dI n8), (dI n9)]) ∧
 (bcase (n2 != n9)
 (k kF)
 (bcase (n1 != n8)
 (k kF)
 (bcase (n9 != 0)
 (bcase (n4 == n9)
 (bcase (n6 == n9)
 (bcase (n7 == n9)
 (bcase (n3 == 0)
 (bcase (IntKind.wrap .i64 ((↑n5 : Int) + (↑0 : Int)) == 0)
 (k kT)
 (k kF))
 (k kF))
 (k kF))
 (k kF))
 (k kF))
 (∃ n10 : Int,
 (∃ n11 : Int,
 ((Says C 15 [(D.agg [(dI x0), (dI x1), (dI x2), (dI x3), (dI x4), (dI x5), D.nil, (dI x7), (dI x8), (dI x9), (dI x10)]), (D.agg [(D.val (Value.string (s11))), D.nil])] [(dI n10), (dI n11)]) ∧
 (bcase (n4 != n11)
 (k kF)
 (bcase (n3 != n10)
 (k kF)
 (bcase (n11 != 0)
 (bcase (n6 == n11)
 (bcase (n7 == n11)
 (bcase (IntKind.wrap .i64 ((↑n5 : Int) + (↑0 : Int)) == 0)
 (k kT)
 (k kF))
 (k kF))
 (k kF))
 (bcase (n6 != 0)
 (k kF)
 (((Says C 17 [(D.agg [(dI x0), (dI x1), (dI x2), (dI x3), (dI x4), (dI x5), D.nil, (dI x7), (dI x8), (dI x9), (dI x10)]), (D.agg [(D.val (Value.string (s11))), D.nil])] [D.nil]) ∧
 (bcase (dL n5 2 cs1)
 (((Says C 16 [(Dw n5 2 cs1), D.nil] kT) ∧
 (((Says C 18 [(dI x13), (D.val (vI 1)), (D.val (vI 1000000))] kT) ∧
 (bcase (n7 == 0)
 (((Says C 19 [(D.agg [(dI x0), (dI x1), (dI x2), (dI x3), (dI x4), (dI x5), D.nil, (dI x7), (dI x8), (dI x9), (dI x10)]), (D.agg [(D.val (Value.string (s11))), D.nil]), (dI x13)] [D.nil]) ∧
 (((Says C 16 [D.nil, D.nil] kT) ∧
 (k kT)) ∨
 ((Says C 16 [D.nil, D.nil] kF) ∧
 (k kF)))) ∨
 (∃ n12 : Nat,
 (∃ cs2 : List Go.Value,
 ((Says C 19 [(D.agg [(dI x0), (dI x1), (dI x2), (dI x3), (dI x4), (dI x5), D.nil, (dI x7), (dI x8), (dI x9), (dI x10)]), (D.agg [(D.val (Value.string (s11))), D.nil]), (dI x13)] [(D.sl (n12) 2 (cs2))]) ∧
 (bcase (dL n12 2 cs2)
 (((Says C 16 [D.nil, (Dw n12 2 cs2)] kT) ∧
 (k kT)) ∨
 ((Says C 16 [D.nil, (Dw n12 2 cs2)] kF) ∧
 (k kF)))
 False)))))
 (k kF))) ∨
 ((Says C 18 [(dI x13), (D.val (vI 1)), (D.val (vI 1000000))] kF) ∧
 (bcase (n7 == 2)
 (k kT)
 (k kF))))) ∨
 ((Says C 16 [(Dw n5 2 cs1), D.nil] kF) ∧
 (k kF)))
 False)) ∨
 (∃ n12 : Nat,
 (∃ cs2 : List Go.Value,
 ((Says C 17 [(D.agg [(dI x0), (dI x1), (dI x2), (dI x3), (dI x4), (dI x5), D.nil, (dI x7), (dI x8), (dI x9), (dI x10)]), (D.agg [(D.val (Value.string (s11))), D.nil])] [(D.sl (n12) 2 (cs2))]) ∧
 (bcase (dL n5 2 cs1)
 (bcase (dL n12 2 cs2)
 (((Says C 16 [(Dw n5 2 cs1), (Dw n12 2 cs2)] kT) ∧
 (((Says C 18 [(dI x13), (D.val (vI 1)), (D.val (vI 1000000))] kT) ∧
 (bcase (n7 == 0)
 (((Says C 19 [(D.agg [(dI x0), (dI x1), (dI x2), (dI x3), (dI x4), (dI x5), D.nil, (dI x7), (dI x8), (dI x9), (dI x10)]), (D.agg [(D.val (Value.string (s11))), D.nil]), (dI x13)] [D.nil]) ∧
 (((Says C 16 [D.nil, D.nil] kT) ∧
 (k kT)) ∨
 ((Says C 16 [D.nil, D.nil] kF) ∧
 (k kF)))) ∨
 (∃ n13 : Nat,
 (∃ cs3 : List Go.Value,
 ((Says C 19 [(D.agg [(dI x0), (dI x1), (dI x2), (dI x3), (dI x4), (dI x5), D.nil, (dI x7), (dI x8), (dI x9), (dI x10)]), (D.agg [(D.val (Value.string (s11))), D.nil]), (dI x13)] [(D.sl (n13) 2 (cs3))]) ∧
 (bcase (dL n13 2 cs3)
 (((Says C 16 [D.nil, (Dw n13 2 cs3)] kT) ∧
 (k kT)) ∨
 ((Says C 16 [D.nil, (Dw n13 2 cs3)] kF) ∧
 (k kF)))
 False)))))
 (k kF))) ∨
 ((Says C 18 [(dI x13), (D.val (vI 1)), (D.val (vI 1000000))] kF) ∧
 (bcase (n7 == 2)
 (k kT)
 (k kF))))) ∨
 ((Says C 16 [(Dw n5 2 cs1), (Dw n12 2 cs2)] kF) ∧
 (k kF)))
 False)
 False))))))))))))))))))))))) ∨
 (∃ n7 : Nat,
 (∃ cs2 : List Go.Value,
 (∃ n8 : Int,
 ((Says C 13 [(D.agg [(dI x0), (dI x1), (dI x2), (dI x3), (dI x4), (dI x5), (D.sl 0 5 []), (dI x7), (dI x8), (dI x9), (dI x10)]), (D.agg [(D.val (Value.string (s11))), (D.sl 0 1 [])]), (dI x13)] [(D.sl (n7) 2 (cs2)), (dI n8)]) ∧
 (((Qv (vI n8)) ∧
 ((Qv (Sl 1012 (n7) (n7))) ∧
 ((Qv (Value.tuple [(Sl 1012 (n7) (n7)), (vI n8)].toArray)) ∧
 True))) ∧
 (((Qv (vI n8)) ∧
 True) ∧
 (True ∧
 (∃ n9 : Int,
 (∃ n10 : Int,
 ((Says C 14 [(D.agg [(dI x0), (dI x1), (dI x2), (dI x3), (dI x4), (dI x5), D.nil, (dI x7), (dI x8), (dI x9), (dI x10)])] [(dI n9), (dI n10)]) ∧
 (bcase (n2 != n10)
 (k kF)
 (bcase (n1 != n9)
 (k kF)
 (bcase (n10 != 0)
 (bcase (n4 == n10)
 (bcase (n6 == n10)
 (bcase (n8 == n10)
 (bcase (n3 == 0)
 (bcase (IntKind.wrap .i64 ((↑n5 : Int) + (↑n7 : Int)) == 0)
 (k kT)
 (k kF))
 (k kF))
 (k kF))
 (k kF))
 (k kF))
 (∃ n11 : Int,
 (∃ n12 : Int,
 ((Says C 15 [(D.agg [(dI x0), (dI x1), (dI x2), (dI x3), (dI x4), (dI x5), D.nil, (dI x7), (dI x8), (dI x9), (dI x10)]), (D.agg [(D.val (Value.string (s11))), D.nil])] [(dI n11), (dI n12)]) ∧
 (bcase (n4 != n12)
 (k kF)
 (bcase (n3 != n11)
 (k kF)
 (bcase (n12 != 0)
 (bcase (n6 == n12)
 (bcase (n8 == n12)
 (bcase (IntKind.wrap .i64 ((↑n5 : Int) + (↑n7 : Int)) == 0)
 (k kT)
 (k kF))
 (k kF))
 (k kF))
 (bcase (n6 != 0)
 (k kF)
 (((Says C 17 [(D.agg [(dI x0), (dI x1), (dI x2), (dI x3), (dI x4), (dI x5), D.nil, (dI x7), (dI x8), (dI x9), (dI x10)]), (D.agg [(D.val (Value.string (s11))), D.nil])] [D.nil]) ∧
 (bcase (dL n5 2 cs1)
 (((Says C 16 [(Dw n5 2 cs1), D.nil] kT) ∧
 (((Says C 18 [(dI x13), (D.val (vI 1)), (D.val (vI 1000000))] kT) ∧
 (bcase (n8 == 0)
 (((Says C 19 [(D.agg [(dI x0), (dI x1), (dI x2), (dI x3), (dI x4), (dI x5), D.nil, (dI x7), (dI x8), (dI x9), (dI x10)]), (D.agg [(D.val (Value.string (s11))), D.nil]), (dI x13)] [D.nil]) ∧
 (bcase (dL n7 2 cs2)
 (((Says C 16 [(Dw n7 2 cs2), D.nil] kT) ∧
 (k kT)) ∨
 ((Says C 16 [(Dw n7 2 cs2), D.nil] kF) ∧
 (k kF)))
 False)) ∨
 (∃ n13 : Nat,
 (∃ cs3 : List Go.Value,
 ((Says C 19 [(D.agg [(dI x0), (dI x1), (dI x2), (dI x3), (dI x4), (dI x5), D.nil, (dI x7), (dI x8), (dI x9), (dI x10)]), (D.agg [(D.val (Value.string (s11))), D.nil]), (dI x13)] [(D.sl (n13) 2 (cs3))]) ∧
 (bcase (dL n7 2 cs2)
 (bcase (dL n13 2 cs3)
 (((Says C 16 [(Dw n7 2 cs2), (Dw n13 2 cs3)] kT) ∧
 (k kT)) ∨
 ((Says C 16 [(Dw n7 2 cs2), (Dw n13 2 cs3)] kF) ∧
 (k kF)))
 False)
 False)))))
 (k kF))) ∨
 ((Says C 18 [(dI x13), (D.val (vI 1)), (D.val (vI 1000000))] kF) ∧
 (bcase (n8 == 2)
 (bcase ((↑n7 : Int) == 0)
 (k kT)
 (k kF))
 (k kF))))) ∨
 ((Says C 16 [(Dw n5 2 cs1), D.nil] kF) ∧
 (k kF)))
 False)) ∨
 (∃ n13 : Nat,
 (∃ cs3 : List Go.Value,
 ((Says C 17 [(D.agg [(dI x0), (dI x1), (dI x2), (dI x3), (dI x4), (dI x5), D.nil, (dI x7), (dI x8), (dI x9), (dI x10)]), (D.agg [(D.val (Value.string (s11))), D.nil])] [(D.sl (n13) 2 (cs3))]) ∧
 (bcase (dL n5 2 cs1)
 (bcase (dL n13 2 cs3)
 (((Says C 16 [(Dw n5 2 cs1), (Dw n13 2 cs3)] kT) ∧
 (((Says C 18 [(dI x13), (D.val (vI 1)), (D.val (vI 1000000))] kT) ∧
 (bcase (n8 == 0)
 (((Says C 19 [(D.agg [(dI x0), (dI x1), (dI x2), (dI x3), (dI x4), (dI x5), D.nil, (dI x7), (dI x8), (dI x9), (dI x10)]), (D.agg [(D.val (Value.string (s11))), D.nil]), (dI x13)] [D.nil]) ∧
 (bcase (dL n7 2 cs2)
 (((Says C 16 [(Dw n7 2 cs2), D.nil] kT) ∧
 (k kT)) ∨
 ((Says C 16 [(Dw n7 2 cs2), D.nil] kF) ∧
 (k kF)))
 False)) ∨
 (∃ n14 : Nat,
 (∃ cs4 : List Go.Value,
 ((Says C 19 [(D.agg [(dI x0), (dI x1), (dI x2), (dI x3), (dI x4), (dI x5), D.nil, (dI x7), (dI x8), (dI x9), (dI x10)]), (D.agg [(D.val (Value.string (s11))), D.nil]), (dI x13)] [(D.sl (n14) 2 (cs4))]) ∧
 (bcase (dL n7 2 cs2)
 (bcase (dL n14 2 cs4)
 (((Says C 16 [(Dw n7 2 cs2), (Dw n14 2 cs4)] kT) ∧
 (k kT)) ∨
 ((Says C 16 [(Dw n7 2 cs2), (Dw n14 2 cs4)] kF) ∧
 (k kF)))
 False)
 False)))))
 (k kF))) ∨
 ((Says C 18 [(dI x13), (D.val (vI 1)), (D.val (vI 1000000))] kF) ∧
 (bcase (n8 == 2)
 (bcase ((↑n7 : Int) == 0)
 (k kT)
 (k kF))
 (k kF))))) ∨
 ((Says C 16 [(Dw n5 2 cs1), (Dw n13 2 cs3)] kF) ∧
 (k kF)))
 False)
 False)))))))))))))))))))))))))))))))))))))))))))))))))))))))))))
 (k kT))) ∨
 ((Says C 6 [] kF) ∧
 (k kF))) := by kernel_rfl
def gcR (C : Ct) (L : AtLoop) (x0 : Int) (x1 : Int) (x2 : Int) (x3 : Int) (x4 : Int) (x5 : Int) (n6 : Nat) (c6 : Nat) (l6 : List Value) (x7 : Int) (x8 : Int) (x9 : Int) (x10 : Int) (k : List D → Prop) : Prop := wpFn Try.prog (hE C) L 0 9 #[.agg #[.int .i64 x0, .int .i64 x1, .int .i64 x2, .int .i64 x3, .int .i64 x4, .int .i64 x5, .slice (some ⟨500, 0, none⟩) n6 c6, .int .i64 x7, .int .i64 x8, .int .i64 x9, .int .i64 x10]] (heapOf [(500, .sym l6 false 5)]) (dataK k)
theorem gcR_text (C : Ct) (L : AtLoop) (x0 : Int) (x1 : Int) (x2 : Int) (x3 : Int) (x4 : Int) (x5 : Int) (n6 : Nat) (c6 : Nat) (l6 : List Go.Value) (x7 : Int) (x8 : Int) (x9 : Int) (x10 : Int) (k : List D → Prop) : gcR C L x0 x1 x2 x3 x4 x5 n6 c6 l6 x7 x8 x9 x10 k =
 (bcase (dL n6 5 l6)
 (bcase (n6 == 0)
 (((0 = 0) ∧
 (0 = 0)) ∧
 (k [(D.agg [(dI x0), (dI x1), (dI x2), (dI x3), (dI x4), (dI x5), (D.sl 0 5 []), (dI x7), (dI x8), (dI x9), (dI x10)])]))
 (bcase (decide (0 < 0 + n6))
 (bcase (decide ((2 * (0 + n6) + 768) * 40 ≤ 281474976710656))
 (bcase (decide (0 + n6 ≤ 1099511627776))
 (((Qv (0 + n6)) ∧
 ((List.length (List.take 0 (List.drop 0 []) ++ List.take (n6 * 5) (List.drop 0 l6))) = ((0 + n6) * 5))) ∧
 (k [(D.agg [(dI x0), (dI x1), (dI x2), (dI x3), (dI x4), (dI x5), (D.sl (0 + n6) 5 ([] ++ (Tk n6 5 l6))), (dI x7), (dI x8), (dI x9), (dI x10)])]))
 False)
 False)
 False))
 False) := by kernel_rfl
def gcRn (C : Ct) (L : AtLoop) (x0 : Int) (x1 : Int) (x2 : Int) (x3 : Int) (x4 : Int) (x5 : Int) (x7 : Int) (x8 : Int) (x9 : Int) (x10 : Int) (k : List D → Prop) : Prop := wpFn Try.prog (hE C) L 0 9 #[.agg #[.int .i64 x0, .int .i64 x1, .int .i64 x2, .int .i64 x3, .int .i64 x4, .int .i64 x5, .slice none 0 0, .int .i64 x7, .int .i64 x8, .int .i64 x9, .int .i64 x10]] (heapOf []) (dataK k)
theorem gcRn_text (C : Ct) (L : AtLoop) (x0 : Int) (x1 : Int) (x2 : Int) (x3 : Int) (x4 : Int) (x5 : Int) (x7 : Int) (x8 : Int) (x9 : Int) (x10 : Int) (k : List D → Prop) : gcRn C L x0 x1 x2 x3 x4 x5 x7 x8 x9 x10 k =
 (((0 = 0) ∧
 (0 = 0)) ∧
 (k [(D.agg [(dI x0), (dI x1), (dI x2), (dI x3), (dI x4), (dI x5), (D.sl 0 5 []), (dI x7), (dI x8), (dI x9), (dI x10)])])) := by kernel_rfl
def gcS (C : Ct) (L : AtLoop) (s0 : ByteArray) (n1 : Nat) (c1 : Nat) (l1 : List Value) (k : List D → Prop) : Prop := wpFn Try.prog (hE C) L 0 11 #[.agg #[.string s0, .slice (some ⟨500, 0, none⟩) n1 c1]] (heapOf [(500, .sym l1 false 1)]) (dataK k)
theorem gcS_text (C : Ct) (L : AtLoop) (s0 : ByteArray) (n1 : Nat) (c1 : Nat) (l1 : List Go.Value) (k : List D → Prop) : gcS C L s0 n1 c1 l1 k =
 (((Qv (Sl 500 (n1) (c1))) ∧
 ((Qv (Pt 1000 1)) ∧
 ((Qv (Value.string (s0))) ∧
 ((Qv (Pt 1000 0)) ∧
 True)))) ∧
 (bcase (dL n1 1 l1)
 (bcase (n1 == 0)
 (((Qv (Value.agg [(Value.string (s0)), (Sl 1003 0 0)].toArray)) ∧
 ((Qv (Pt 1000 1)) ∧
 ((Qv (Value.string (s0))) ∧
 ((Qv (Pt 1000 0)) ∧
 True)))) ∧
 (True ∧
 (((0 = 0) ∧
 (0 = 0)) ∧
 (k [(D.agg [(D.val (Value.string (s0))), (D.sl 0 1 [])])]))))
 (bcase (decide (0 < 0 + n1))
 (bcase (decide ((2 * (0 + n1) + 768) * 8 ≤ 281474976710656))
 (bcase (decide (0 + n1 ≤ 1099511627776))
 (((Qv (Value.agg [(Value.string (s0)), (Sl 1003 (0 + n1) (0 + n1))].toArray)) ∧
 ((Qv (Pt 1000 1)) ∧
 ((Qv (Value.string (s0))) ∧
 ((Qv (Pt 1000 0)) ∧
 True)))) ∧
 (True ∧
 (((Qv (0 + n1)) ∧
 ((List.length (List.take 0 (List.drop 0 []) ++ List.take (n1 * 1) (List.drop 0 l1))) = ((0 + n1) * 1))) ∧
 (k [(D.agg [(D.val (Value.string (s0))), (D.sl (0 + n1) 1 ([] ++ (Tk n1 1 l1)))])]))))
 False)
 False)
 False))
 False)) := by kernel_rfl
def gcSn (C : Ct) (L : AtLoop) (s0 : ByteArray) (k : List D → Prop) : Prop := wpFn Try.prog (hE C) L 0 11 #[.agg #[.string s0, .slice none 0 0]] (heapOf []) (dataK k)
theorem gcSn_text (C : Ct) (L : AtLoop) (s0 : ByteArray) (k : List D → Prop) : gcSn C L s0 k =
 (((Qv (Value.slice none 0 0)) ∧
 ((Qv (Pt 1000 1)) ∧
 ((Qv (Value.string (s0))) ∧
 ((Qv (Pt 1000 0)) ∧
 True)))) ∧
 (((Qv (Value.agg [(Value.string (s0)), (Sl 1003 0 0)].toArray)) ∧
 ((Qv (Pt 1000 1)) ∧
 ((Qv (Value.string (s0))) ∧
 ((Qv (Pt 1000 0)) ∧
 True)))) ∧
 (True ∧
 (((0 = 0) ∧
 (0 = 0)) ∧
 (k [(D.agg [(D.val (Value.string (s0))), (D.sl 0 1 [])])]))))) := by kernel_rfl
end Go.Proofs.G5p

/- PassSchedules in data. -/
namespace Go.Proofs.G5p
open Go Go.Abs Go.Proofs Go.Str
set_option maxRecDepth 100000
theorem preQOK : PreOK Try.prog (preQ C5) := by
  intro g h he args ats H k hk
  unfold preQ at he
  rcases ite_so he with ⟨_, rfl⟩ | he
  · exact fixH_ok (fun _ _ _ h => h) _ _ _ _ _ hk
  rcases ite_so he with ⟨_, rfl⟩ | he
  · exact fixH_ok (fun _ _ _ h => h) _ _ _ _ _ hk
  rcases ite_so he with ⟨_, rfl⟩ | he
  · exact fixH_ok (fun _ _ _ h => h) _ _ _ _ _ hk
  rcases ite_so he with ⟨_, rfl⟩ | he
  · exact saidH_ok (fun _ _ _ h => h) _ _ _ _ _ hk
  · cases he
theorem hokQ : HandlerOK Try.prog (hQ C5) := handlerX_ok mixed preQOK (by decide) 6
theorem v5_e {l : List Fv} (h : l.length = 0) : vs5 l = [] := by rw [List.eq_nil_of_length_eq_zero h]; rfl
theorem v1_e {l : List Int} (h : l.length = 0) : vi l = [] := by rw [List.eq_nil_of_length_eq_zero h]; rfl
theorem concR (r : Ru) (h8 : r.ss.length ≤ 8) : C5 9 [r.d] [r.d] := by
  refine con_flat hokE mixed Try.func9 rfl (by show 1 ≤ 400; omega) rfl (by kernel_rfl) (fun caps => ?_)
  show gcR _ _ r.w r.st r.fi r.hlo r.hhi r.co r.ss.length (caps 500) (vs5 r.ss) r.slo r.shi r.flo r.fhi _
  rw [gcR_text]
  simp only [dL, Tk, v5_whole, bc_t (v5le r.ss), Qv, eq_self, true_and]
  refine bc_beq (fun h => ?_) (fun h => ?_)
  · show [D.agg _] = [D.agg _]
    simp only [v5_e h, h]
  · rw [bc_t (by omega), bc_t (by omega), bc_t (by omega)]
    simp
theorem concRn (r : Ru) (h : r.ss = []) : C5 9 [r.dn] [r.d] := by
  refine con_flat hokE mixed Try.func9 rfl (by show 0 ≤ 400; omega) rfl (by kernel_rfl) (fun caps => ?_)
  show gcRn _ _ r.w r.st r.fi r.hlo r.hhi r.co r.slo r.shi r.flo r.fhi _
  rw [gcRn_text]
  simp only [eq_self, true_and]
  simp only [Ru.d, h]
  rfl
theorem concS (nm : List UInt8) (th : List Int) (h8 : th.length ≤ 8) : C5 11 [scD nm th] [scD nm th] := by
  refine con_flat hokE mixed Try.func11 rfl (by show 1 ≤ 400; omega) rfl (by kernel_rfl) (fun caps => ?_)
  show gcS _ _ (bs nm) th.length (caps 500) (vi th) _
  rw [gcS_text]
  simp only [dL, Tk, v1_whole, bc_t (v1le th), Qv, eq_self, true_and]
  refine bc_beq (fun h => ?_) (fun h => ?_)
  · show [D.agg _] = [D.agg _]
    simp only [v1_e h, h]
  · rw [bc_t (by omega), bc_t (by omega), bc_t (by omega)]
    simp
theorem concSn (nm : List UInt8) : C5 11 [scN nm] [scD nm []] := by
  refine con_flat hokE mixed Try.func11 rfl (by show 0 ≤ 400; omega) rfl (by kernel_rfl) (fun caps => ?_)
  show gcSn _ _ (bs nm) _
  rw [gcSn_text]
  simp only [Qv, eq_self, true_and]
  rfl
end Go.Proofs.G5p

/- PassSchedules in data: the law. -/
namespace Go.Proofs.G5p
open Go Go.Abs Go.Proofs Go.Str
set_option maxRecDepth 100000
theorem schP_bad {r : Ru} {nm : List UInt8} {th : List Int} (h : (chk r).2 ≠ 0) : schP r nm th = (0, (chk r).2) := by rw [schP, if_neg h]
theorem schP_good {r : Ru} {nm : List UInt8} {th : List Int} (h : (chk r).2 = 0) : schP r nm th = schE r nm th := by rw [schP, if_pos h]
theorem chk_pos {r : Ru} (h1 : (chk r).2 = 0) : 0 < r.ss.length := by
  have hr : rngB r := Decidable.byContradiction fun h => by rw [chk_rng h] at h1; simp at h1
  have ho : ordB r := Decidable.byContradiction fun h => by rw [chk_ord hr h] at h1; simp at h1
  rw [chk_cnt hr ho] at h1
  have hc : cntE r.ss.length = 0 := Decidable.byContradiction fun h => by rw [if_neg h] at h1; exact h h1
  refine Nat.pos_of_ne_zero fun h => ?_
  rw [cntE, if_pos h] at hc; simp at hc
theorem schE_nil {r : Ru} (nm : List UInt8) (h0 : 0 < r.ss.length) : (schE r nm []).2 ≠ 0 := by
  rw [schE]
  split
  · rw [if_neg (by simp; omega)]; decide
  · decide
theorem lawL0 (r : Ru) (nm : List UInt8) (th : List Int) (n : Int) : C5 3 [r.d, scD nm th, dI n] [.val (.bool true)] := by
  refine con_flat hokQ mixed Try.func3 rfl (by show 2 ≤ 400; omega) rfl (by kernel_rfl) (fun caps => ?_)
  show gL0 _ _ r.w r.st r.fi r.hlo r.hhi r.co r.ss.length (caps 500) (vs5 r.ss) r.slo r.shi r.flo r.fhi (bs nm) th.length (caps 501) (vi th) n _
  rw [gL0_text]
  refine .inl ⟨⟨conA⟩, bc_dec (fun h1 => bc_dec (fun h2 => bc_dec (fun h3 => ?_) (fun _ => rfl)) (fun _ => rfl)) (fun _ => rfl)⟩
  simp only [dL, Dw, Tk, v5_whole, v1_whole, bc_t (v5le r.ss), bc_t (v1le th), Qv, eq_self, true_and]
  have c1 := concR r (by omega)
  have c2 := concS nm th (by omega)
  refine ⟨⟨c1⟩, _, _, ⟨conKR r (by omega)⟩, ⟨c1⟩, ⟨c2⟩, _, _, ⟨conKS r nm th (by omega) (by omega)⟩, ⟨c1⟩, ⟨c2⟩, ?_⟩
  by_cases hc : (chk r).2 = 0
  · by_cases hs : (schE r nm th).2 = 0
    · have hp : (schP r nm th).2 = 0 := by rw [schP_good hc]; exact hs
      have v := schP_at hp
      refine .inr ⟨_, _, _, ⟨conRO r nm th hp⟩, ?_⟩
      have hl1 : 0 + th.length * 2 ≤ (vp (reds r.st th)).length := by rw [vp_length, reds_len]; omega
      have w1 : List.take (th.length * 2) (List.drop 0 (vp (reds r.st th))) = vp (reds r.st th) := by
        have := vp_whole (reds r.st th); rw [reds_len] at this; exact this
      have f1 : C5 16 [.sl th.length 2 (vp (reds r.st th)), .sl th.length 2 (vp (reds r.st th))] [dB true] := by
        have := conFr (reds r.st th) (by rw [reds_len]; omega); rw [reds_len] at this; exact this
      by_cases hn : 1 ≤ n ∧ n ≤ 1000000
      · refine ⟨⟨c1⟩, ⟨c2⟩, .inr ⟨_, _, _, ⟨conLO r nm th n hp hn⟩, _, _, ⟨conRK r (by omega)⟩, ?_⟩⟩
        rw [hc, bc_nf, bc_nf, bc_nf]
        refine ⟨_, _, ⟨conRS r nm th (by omega) (by omega)⟩, ?_⟩
        rw [schP_good hc, hs, bc_nf, bc_nf, bc_nf, bc_nf]
        have hl2 : 0 + th.length * 2 ≤ (vp (lens (n * r.st) th)).length := by rw [vp_length, lens_len]; omega
        have w2 : List.take (th.length * 2) (List.drop 0 (vp (lens (n * r.st) th))) = vp (lens (n * r.st) th) := by
          have := vp_whole (lens (n * r.st) th); rw [lens_len] at this; exact this
        have f2 : C5 16 [.sl th.length 2 (vp (lens (n * r.st) th)), .sl th.length 2 (vp (lens (n * r.st) th))] [dB true] := by
          have := conFr (lens (n * r.st) th) (by rw [lens_len]; omega); rw [lens_len] at this; exact this
        refine .inr ⟨_, _, ⟨conRr r nm th v⟩, ?_⟩
        rw [bc_t hl1, bc_t hl1, w1]
        refine .inl ⟨⟨f1⟩, .inl ⟨sayWt hn, ?_⟩⟩
        rw [bc_qt]
        refine .inr ⟨_, _, ⟨conRl r nm th v n hn⟩, ?_⟩
        rw [bc_t hl2, bc_t hl2, w2]
        exact .inl ⟨⟨f2⟩, trivial⟩
      · have hf : fst0 [(schP r nm th).2, wE 1 1000000 [n]] = 2 := by rw [hp, fst0_z, wE1, if_neg hn]; rfl
        refine ⟨⟨c1⟩, ⟨c2⟩, .inl ⟨_, ⟨conLOb r nm th n (by omega) (by omega) (by rw [hf]; decide)⟩, _, _, ⟨conRK r (by omega)⟩, ?_⟩⟩
        rw [hc, bc_nf, bc_nf, bc_nf]
        refine ⟨_, _, ⟨conRS r nm th (by omega) (by omega)⟩, ?_⟩
        rw [hf, schP_good hc, hs, bc_nf, bc_nf, bc_nf, bc_nf]
        refine .inr ⟨_, _, ⟨conRr r nm th v⟩, ?_⟩
        rw [bc_t hl1, bc_t hl1, w1]
        refine .inl ⟨⟨f1⟩, .inr ⟨sayWf hn, ?_⟩⟩
        rw [bc_qt]
        trivial
    · have hp : (schP r nm th).2 ≠ 0 := by rw [schP_good hc]; exact hs
      have hf : fst0 [(schP r nm th).2, wE 1 1000000 [n]] = (schP r nm th).2 := fst0_n hp _
      refine .inl ⟨_, ⟨conROb r nm th (by omega) (by omega) hp⟩, ⟨c1⟩, ⟨c2⟩, .inl ⟨_, ⟨conLOb r nm th n (by omega) (by omega) (by rw [hf]; exact hp)⟩, _, _, ⟨conRK r (by omega)⟩, ?_⟩⟩
      rw [hf, hc, bc_nf, bc_nf, bc_nf]
      refine ⟨_, _, ⟨conRS r nm th (by omega) (by omega)⟩, ?_⟩
      rw [schP_good hc, bc_nf, bc_nf, bc_n hs, bc_qt, bc_qt]
      trivial
  · have e := schP_bad (nm := nm) (th := th) hc
    have hp : (schP r nm th).2 ≠ 0 := by rw [e]; exact hc
    have hf : fst0 [(schP r nm th).2, wE 1 1000000 [n]] = (schP r nm th).2 := fst0_n hp _
    refine .inl ⟨_, ⟨conROb r nm th (by omega) (by omega) hp⟩, ⟨c1⟩, ⟨c2⟩, .inl ⟨_, ⟨conLOb r nm th n (by omega) (by omega) (by rw [hf]; exact hp)⟩, _, _, ⟨conRK r (by omega)⟩, ?_⟩⟩
    rw [hf, e]
    rw [bc_nf, bc_nf, bc_n hc, bc_qt, bc_qt, bc_qt, bc_qt]
    trivial
theorem lawL1 (r : Ru) (nm : List UInt8) (n : Int) : C5 3 [r.d, scN nm, dI n] [.val (.bool true)] := by
  refine con_flat hokQ mixed Try.func3 rfl (by show 1 ≤ 400; omega) rfl (by kernel_rfl) (fun caps => ?_)
  show gL1 _ _ r.w r.st r.fi r.hlo r.hhi r.co r.ss.length (caps 500) (vs5 r.ss) r.slo r.shi r.flo r.fhi (bs nm) n _
  rw [gL1_text]
  refine .inl ⟨⟨conA⟩, bc_dec (fun h1 => bc_dec (fun h3 => ?_) (fun _ => rfl)) (fun _ => rfl)⟩
  simp only [dL, Dw, Tk, v5_whole, bc_t (v5le r.ss), Qv, eq_self, true_and]
  have c1 := concR r (by omega)
  have c2 := concSn nm
  refine ⟨⟨c1⟩, _, _, ⟨conKR r (by omega)⟩, ⟨c1⟩, ⟨c2⟩, _, _, ⟨conKS r nm [] (by omega) (by simp)⟩, ⟨c1⟩, ⟨c2⟩, ?_⟩
  by_cases hc : (chk r).2 = 0
  · have h0 : 0 < r.ss.length := chk_pos hc
    have hs : (schE r nm []).2 ≠ 0 := schE_nil nm h0
    have hp : (schP r nm []).2 ≠ 0 := by rw [schP_good hc]; exact hs
    have hf : fst0 [(schP r nm []).2, wE 1 1000000 [n]] = (schP r nm []).2 := fst0_n hp _
    refine .inl ⟨_, ⟨conROb r nm [] (by omega) (by simp) hp⟩, ⟨c1⟩, ⟨c2⟩, .inl ⟨_, ⟨conLOb r nm [] n (by omega) (by simp) (by rw [hf]; exact hp)⟩, _, _, ⟨conRK r (by omega)⟩, ?_⟩⟩
    rw [hf, hc, bc_nf, bc_nf, bc_nf]
    refine ⟨_, _, ⟨conRSn r nm h0 (by omega)⟩, ?_⟩
    rw [schP_good hc, bc_nf, bc_nf, bc_n hs, bc_qt, bc_qt]
    trivial
  · have e := schP_bad (nm := nm) (th := []) hc
    have hp : (schP r nm []).2 ≠ 0 := by rw [e]; exact hc
    have hf : fst0 [(schP r nm []).2, wE 1 1000000 [n]] = (schP r nm []).2 := fst0_n hp _
    refine .inl ⟨_, ⟨conROb r nm [] (by omega) (by simp) hp⟩, ⟨c1⟩, ⟨c2⟩, .inl ⟨_, ⟨conLOb r nm [] n (by omega) (by simp) (by rw [hf]; exact hp)⟩, _, _, ⟨conRK r (by omega)⟩, ?_⟩⟩
    rw [hf, e]
    rw [bc_nf, bc_nf, bc_n hc, bc_qt, bc_qt, bc_qt, bc_qt]
    trivial
theorem lawL2 (r : Ru) (hr : r.ss = []) (nm : List UInt8) (th : List Int) (n : Int) : C5 3 [r.dn, scD nm th, dI n] [.val (.bool true)] := by
  refine con_flat hokQ mixed Try.func3 rfl (by show 1 ≤ 400; omega) rfl (by kernel_rfl) (fun caps => ?_)
  show gL2 _ _ r.w r.st r.fi r.hlo r.hhi r.co r.slo r.shi r.flo r.fhi (bs nm) th.length (caps 500) (vi th) n _
  rw [gL2_text]
  refine .inl ⟨⟨conA⟩, bc_dec (fun h1 => bc_dec (fun h3 => ?_) (fun _ => rfl)) (fun _ => rfl)⟩
  simp only [dL, Dw, Tk, v1_whole, bc_t (v1le th), Qv, eq_self, true_and]
  have c1 := concRn r hr
  have c2 := concS nm th (by omega)
  have hl : r.ss.length = 0 := by rw [hr]; rfl
  have hc : (chk r).2 ≠ 0 := fun h => by have := chk_pos h; omega
  have e := schP_bad (nm := nm) (th := th) hc
  have hp : (schP r nm th).2 ≠ 0 := by rw [e]; exact hc
  have hf : fst0 [(schP r nm th).2, wE 1 1000000 [n]] = (schP r nm th).2 := fst0_n hp _
  have k1 := conKR r (by omega)
  have k2 := conKS r nm th (by omega) (by omega)
  have k3 := conROb r nm th (by omega) (by omega) hp
  have k4 := conLOb r nm th n (by omega) (by omega) (by rw [hf]; exact hp)
  simp only [Ru.d, hl, v5_e hl] at c1 k1 k2 k3 k4
  refine ⟨⟨c1⟩, _, _, ⟨k1⟩, ⟨c1⟩, ⟨c2⟩, _, _, ⟨k2⟩, ⟨c1⟩, ⟨c2⟩, .inl ⟨_, ⟨k3⟩, ⟨c1⟩, ⟨c2⟩, .inl ⟨_, ⟨k4⟩, _, _, ⟨conRKn r hr⟩, ?_⟩⟩⟩
  rw [hf, e]
  rw [bc_nf, bc_nf, bc_n hc, bc_qt, bc_qt, bc_qt, bc_qt]
  trivial
theorem lawL3 (r : Ru) (hr : r.ss = []) (nm : List UInt8) (n : Int) : C5 3 [r.dn, scN nm, dI n] [.val (.bool true)] := by
  refine con_flat hokQ mixed Try.func3 rfl (by show 0 ≤ 400; omega) rfl (by kernel_rfl) (fun caps => ?_)
  show gL3 _ _ r.w r.st r.fi r.hlo r.hhi r.co r.slo r.shi r.flo r.fhi (bs nm) n _
  rw [gL3_text]
  refine .inl ⟨⟨conA⟩, bc_dec (fun h3 => ?_) (fun _ => rfl)⟩
  simp only [dL, Dw, Tk, Qv, eq_self, true_and]
  have c1 := concRn r hr
  have c2 := concSn nm
  have hl : r.ss.length = 0 := by rw [hr]; rfl
  have hc : (chk r).2 ≠ 0 := fun h => by have := chk_pos h; omega
  have e := schP_bad (nm := nm) (th := []) hc
  have hp : (schP r nm []).2 ≠ 0 := by rw [e]; exact hc
  have hf : fst0 [(schP r nm []).2, wE 1 1000000 [n]] = (schP r nm []).2 := fst0_n hp _
  have k1 := conKR r (by omega)
  have k2 := conKS r nm [] (by omega) (by simp)
  have k3 := conROb r nm [] (by omega) (by simp) hp
  have k4 := conLOb r nm [] n (by omega) (by simp) (by rw [hf]; exact hp)
  simp only [Ru.d, hl, v5_e hl] at c1 k1 k2 k3 k4
  refine ⟨⟨c1⟩, _, _, ⟨k1⟩, ⟨c1⟩, ⟨c2⟩, _, _, ⟨k2⟩, ⟨c1⟩, ⟨c2⟩, .inl ⟨_, ⟨k3⟩, ⟨c1⟩, ⟨c2⟩, .inl ⟨_, ⟨k4⟩, _, _, ⟨conRKn r hr⟩, ?_⟩⟩⟩
  rw [hf, e]
  rw [bc_nf, bc_nf, bc_n hc, bc_qt, bc_qt, bc_qt, bc_qt]
  trivial
end Go.Proofs.G5p

/- PassSchedules: whatever the input, it returns true, and the input reads as it did. No condition. -/
namespace Go.Proofs.Yteadiejdhplokaa.K
open Go Go.Abs Go.RowKit Go.ChangeShapes Go.WideShapes Go.ChangeAt Go.Proofs Go.Flat Go.Proofs.G5p
set_option maxRecDepth 100000
namespace PassSchedules
abbrev shs : List Sh := [.agg [3, 3, 3, 3, 3, 3, 24, 3, 3, 3, 3], .agg [9, 27], .one 3]
theorem shapes : Try.f3.params.toList.mapM (argSh Try.prog) = some shs := by kernel_rfl
theorem all (ds : List D) (h : ShDs Try.prog shs ds) : Con Try.prog 3 ds [.val (.bool true)] := by
  cases h with | cons h1 t => cases t with | cons h2 t => cases t with | cons h3 t =>
  cases t
  obtain ⟨d1, rfl, h1⟩ := h1
  obtain ⟨d2, rfl, h2⟩ := h2
  cases h1 with | cons p1 t => cases t with | cons p2 t => cases t with | cons p3 t => cases t with | cons p4 t => cases t with | cons p5 t => cases t with | cons p6 t => cases t with | cons p7 t => cases t with | cons p8 t => cases t with | cons p9 t => cases t with | cons p10 t => cases t with | cons p11 t =>
  cases t
  cases h2 with | cons r1 t => cases t with | cons r2 t =>
  cases t
  obtain ⟨x1, rfl, _⟩ := leaf_int Try.underlying3 p1
  obtain ⟨x2, rfl, _⟩ := leaf_int Try.underlying3 p2
  obtain ⟨x3, rfl, _⟩ := leaf_int Try.underlying3 p3
  obtain ⟨x4, rfl, _⟩ := leaf_int Try.underlying3 p4
  obtain ⟨x5, rfl, _⟩ := leaf_int Try.underlying3 p5
  obtain ⟨x6, rfl, _⟩ := leaf_int Try.underlying3 p6
  obtain ⟨x8, rfl, _⟩ := leaf_int Try.underlying3 p8
  obtain ⟨x9, rfl, _⟩ := leaf_int Try.underlying3 p9
  obtain ⟨x10, rfl, _⟩ := leaf_int Try.underlying3 p10
  obtain ⟨x11, rfl, _⟩ := leaf_int Try.underlying3 p11
  obtain ⟨n, rfl, _⟩ := leaf_int Try.underlying3 h3
  obtain ⟨nm, rfl⟩ := leaf_str Try.underlying9 r1
  rcases leaf_fvs Try.underlying24 (by kernel_rfl) p7 with rfl | ⟨T, rfl⟩
  · rcases leaf_ints Try.underlying27 (by kernel_rfl) r2 with rfl | ⟨R, rfl⟩
    · exact lawL3 ⟨x1, x2, x3, x4, x5, x6, [], x8, x9, x10, x11⟩ rfl nm n
    · exact lawL2 ⟨x1, x2, x3, x4, x5, x6, [], x8, x9, x10, x11⟩ rfl nm R n
  · rcases leaf_ints Try.underlying27 (by kernel_rfl) r2 with rfl | ⟨R, rfl⟩
    · exact lawL1 ⟨x1, x2, x3, x4, x5, x6, T, x8, x9, x10, x11⟩ nm n
    · exact lawL0 ⟨x1, x2, x3, x4, x5, x6, T, x8, x9, x10, x11⟩ nm R n
theorem lifted (os : Os) (started : os.Started) (H : Type) (enc : TypeId × Value → H) :
    ReturnsInHanded {} Try.checked os 3 .any (Rows.passSchedulesSpec.pre6 enc Try.prog Try.f3 Rows.passSchedulesRow.domain false) (Rows.passSchedulesSpec.post enc Try.prog Try.f3 false true false false) := by
  refine returnsInHanded_of_change (C := Try.checked) own started (by kernel_rfl) Try.func3
    (ChangeSpec.witness6 (enc := enc) (C := Try.checked) false ⟨#[], #[.agg #[.int .i64 0, .int .i64 0, .int .i64 0, .int .i64 0, .int .i64 0, .int .i64 0, .slice none 0 0, .int .i64 0, .int .i64 0, .int .i64 0, .int .i64 0], .agg #[.string ⟨#[]⟩, .slice none 0 0], .int .i64 0], []⟩ 8 (by kernel_rfl) (by kernel_rfl) (by kernel_rfl) (by kernel_rfl)) ?_
  intro W base args ds gs before hval hW _ _
  exact law_shapes (tb := 4) (s := Rows.passSchedulesSpec) shapes all laidP mapsP slicesP (tsP (by kernel_rfl)) rfl Try.underlying4 rfl (fun ds h => by
    match ds, h with
    | [_, _, _], _ => exact ⟨rfl, rfl, rfl⟩) hval hW (good0 W)
theorem holds : Rows.PassSchedulesSaid :=
  OpenClaim.holds_of_wide 3 Try.f3 rfl rfl rfl rfl rfl rfl rfl ⟨rfl, rfl, rfl, rfl, rfl⟩ rfl rfl rfl rfl rfl (by kernel_rfl) Try.func3 (by kernel_rfl)
    (of_decide_eq_true (by kernel_rfl)) (by unfold Func.isWrapper; first | (rw [if_pos (by decide +kernel)]; kernel_rfl) | (rw [if_neg (by decide +kernel)]; exact ⟨rfl, rfl⟩))
    (fun os started H enc _ => lifted os started H enc)
#print axioms holds
end PassSchedules
end Go.Proofs.Yteadiejdhplokaa.K
