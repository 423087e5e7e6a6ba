/- What is left to show of each function, written out; the kernel reckons it. -/
import Derived.Test.YteadiejdhplokaaGpPT
import Derived.Test.YteadiejdhplokaaP7
namespace Go.Proofs.G5p
open Go Go.Abs Go.Proofs
set_option maxRecDepth 100000
set_option linter.unusedVariables false
def gM0 (C : Ct) (L : AtLoop) (x0 : Int) (x1 : Int) (x2 : Int) (x3 : Int) (x4 : Int) (x5 : Int) (n6 : Nat) (c6 : Nat) (l6 : List Value) (x7 : Int) (x8 : Int) (x9 : Int) (x10 : Int) (s11 : ByteArray) (n12 : Nat) (c12 : Nat) (l12 : List Value) (x13 : Int) (x14 : Int) (x15 : Int) (n16 : Nat) (c16 : Nat) (l16 : List Value) (k : List D → Prop) : Prop := wpFn Try.prog (hQ C) L 0 4 #[.agg #[.int .i64 x0, .int .i64 x1, .int .i64 x2, .int .i64 x3, .int .i64 x4, .int .i64 x5, .slice (some ⟨500, 0, none⟩) n6 c6, .int .i64 x7, .int .i64 x8, .int .i64 x9, .int .i64 x10], .agg #[.string s11, .slice (some ⟨501, 0, none⟩) n12 c12], .agg #[.int .i64 x13, .int .i64 x14, .int .i64 x15, .slice (some ⟨502, 0, none⟩) n16 c16]] (heapOf [(500, .sym l6 false 5), (501, .sym l12 false 1), (502, .sym l16 false 1)]) (dataK k)
theorem gM0_text (C : Ct) (L : AtLoop) (x0 : Int) (x1 : Int) (x2 : Int) (x3 : Int) (x4 : Int) (x5 : Int) (n6 : Nat) (c6 : Nat) (l6 : List Go.Value) (x7 : Int) (x8 : Int) (x9 : Int) (x10 : Int) (s11 : ByteArray) (n12 : Nat) (c12 : Nat) (l12 : List Go.Value) (x13 : Int) (x14 : Int) (x15 : Int) (n16 : Nat) (c16 : Nat) (l16 : List Go.Value) (k : List D → Prop) : gM0 C L x0 x1 x2 x3 x4 x5 n6 c6 l6 x7 x8 x9 x10 s11 n12 c12 l12 x13 x14 x15 n16 c16 l16 k =
 (((Says C 6 [] kT) ∧
 (bcase (decide ((↑n6 : Int) ≤ 8))
 (bcase (decide ((↑n12 : Int) ≤ 8))
 (bcase (decide ((↑(ByteArray.size s11) : Int) ≤ 30))
 (bcase (decide ((↑n16 : Int) > 8))
 (k kT)
 (((Qv (Value.agg [(vI x13), (vI x14), (vI x15), (Sl 502 (n16) (c16))].toArray)) ∧
 ((Qv (Value.agg [(vI x0), (vI x1), (vI x2), (vI x3), (vI x4), (vI x5), (Sl 500 (n6) (c6)), (vI x7), (vI x8), (vI x9), (vI x10)].toArray)) ∧
 True)) ∧
 (bcase (dL n6 5 l6)
 ((Says C 9 [(D.agg [(dI x0), (dI x1), (dI x2), (dI x3), (dI x4), (dI x5), (Dw n6 5 l6), (dI x7), (dI x8), (dI x9), (dI x10)])] [(D.agg [(dI x0), (dI x1), (dI x2), (dI x3), (dI x4), (dI x5), (Dw n6 5 l6), (dI x7), (dI x8), (dI x9), (dI x10)])]) ∧
 (((Qv (Value.agg [(vI x13), (vI x14), (vI x15), (Sl 502 (n16) (c16))].toArray)) ∧
 True) ∧
 (bcase (dL n16 1 l16)
 ((Says C 21 [(D.agg [(dI x13), (dI x14), (dI x15), (Dw n16 1 l16)])] [(D.agg [(dI x13), (dI x14), (dI x15), (Dw n16 1 l16)])]) ∧
 (True ∧
 (bcase (dL n6 5 (Tk n6 5 l6))
 (bcase (dL n16 1 (Tk n16 1 l16))
 (∃ n1 : Int,
 (∃ n2 : Int,
 ((Says C 20 [(D.agg [(dI x0), (dI x1), (dI x2), (dI x3), (dI x4), (dI x5), (Dw n6 5 (Tk n6 5 l6)), (dI x7), (dI x8), (dI x9), (dI x10)]), (D.agg [(dI x13), (dI x14), (dI x15), (Dw n16 1 (Tk n16 1 l16))])] [(dI n1), (dI n2)]) ∧
 (((Qv (vI n2)) ∧
 ((Qv (vI n1)) ∧
 ((Qv (Value.tuple [(vI n1), (vI n2)].toArray)) ∧
 True))) ∧
 (((Qv (vI n2)) ∧
 True) ∧
 (True ∧
 (((Qv (Value.agg [(vI x13), (vI x14), (vI x15), (Sl 502 (n16) (c16))].toArray)) ∧
 ((Qv (Value.agg [(Value.string (s11)), (Sl 501 (n12) (c12))].toArray)) ∧
 ((Qv (Value.agg [(vI x0), (vI x1), (vI x2), (vI x3), (vI x4), (vI x5), (Sl 500 (n6) (c6)), (vI x7), (vI x8), (vI x9), (vI x10)].toArray)) ∧
 True))) ∧
 (bcase (dL n6 5 l6)
 ((Says C 9 [(D.agg [(dI x0), (dI x1), (dI x2), (dI x3), (dI x4), (dI x5), (Dw n6 5 l6), (dI x7), (dI x8), (dI x9), (dI x10)])] [(D.agg [(dI x0), (dI x1), (dI x2), (dI x3), (dI x4), (dI x5), (Dw n6 5 l6), (dI x7), (dI x8), (dI x9), (dI x10)])]) ∧
 (((Qv (Value.agg [(vI x13), (vI x14), (vI x15), (Sl 502 (n16) (c16))].toArray)) ∧
 ((Qv (Value.agg [(Value.string (s11)), (Sl 501 (n12) (c12))].toArray)) ∧
 True)) ∧
 (bcase (dL n12 1 l12)
 ((Says C 11 [(D.agg [(D.val (Value.string (s11))), (Dw n12 1 l12)])] [(D.agg [(D.val (Value.string (s11))), (Dw n12 1 l12)])]) ∧
 (((Qv (Value.agg [(vI x13), (vI x14), (vI x15), (Sl 502 (n16) (c16))].toArray)) ∧
 True) ∧
 (bcase (dL n16 1 l16)
 ((Says C 21 [(D.agg [(dI x13), (dI x14), (dI x15), (Dw n16 1 l16)])] [(D.agg [(dI x13), (dI x14), (dI x15), (Dw n16 1 l16)])]) ∧
 (True ∧
 (bcase (dL n6 5 (Tk n6 5 l6))
 (bcase (dL n12 1 (Tk n12 1 l12))
 (bcase (dL n16 1 (Tk n16 1 l16))
 (((∃ n3 : Int,
 ((Says C 22 [(D.agg [(dI x0), (dI x1), (dI x2), (dI x3), (dI x4), (dI x5), (Dw n6 5 (Tk n6 5 l6)), (dI x7), (dI x8), (dI x9), (dI x10)]), (D.agg [(D.val (Value.string (s11))), (Dw n12 1 (Tk n12 1 l12))]), (D.agg [(dI x13), (dI x14), (dI x15), (Dw n16 1 (Tk n16 1 l16))])] [D.nil, (D.val (Value.bool true)), (dI n3)]) ∧
 (((Qv (vI n3)) ∧
 (Qb ∧
 ((Qv (Value.slice none 0 0)) ∧
 ((Qv (Value.tuple [(Value.slice none 0 0), (Value.bool true), (vI n3)].toArray)) ∧
 True)))) ∧
 (((Qv (vI n3)) ∧
 (Qb ∧
 True)) ∧
 (((Qv (vI n3)) ∧
 True) ∧
 (True ∧
 (bcase (dL n6 5 l6)
 (∃ n4 : Int,
 ((Says C 23 [(D.agg [(dI x0), (dI x1), (dI x2), (dI x3), (dI x4), (dI x5), (Dw n6 5 l6), (dI x7), (dI x8), (dI x9), (dI x10)])] [(dI n4)]) ∧
 (bcase (n4 != 0)
 (bcase (n2 == n4)
 (bcase (n3 == n4)
 (bcase (n1 == 0)
 (k kF)
 (k kF))
 (k kF))
 (k kF))
 (bcase (dL n6 5 l6)
 (bcase (dL n16 1 l16)
 (∃ n5 : Int,
 (∃ n7 : Int,
 ((Says C 24 [(D.agg [(dI x0), (dI x1), (dI x2), (dI x3), (dI x4), (dI x5), (Dw n6 5 l6), (dI x7), (dI x8), (dI x9), (dI x10)]), (D.agg [(dI x13), (dI x14), (dI x15), (Dw n16 1 l16)])] [(dI n5), (dI n7)]) ∧
 (bcase (n2 != n7)
 (k kF)
 (bcase (n1 != n5)
 (k kF)
 (bcase (dL n6 5 l6)
 (bcase (dL n12 1 l12)
 (∃ n8 : Int,
 ((Says C 25 [(D.agg [(dI x0), (dI x1), (dI x2), (dI x3), (dI x4), (dI x5), (Dw n6 5 l6), (dI x7), (dI x8), (dI x9), (dI x10)]), (D.agg [(D.val (Value.string (s11))), (Dw n12 1 l12)])] [(dI n8)]) ∧
 (bcase (n8 == 0)
 (bcase (n7 != 0)
 (bcase (n3 == n7)
 (k kF)
 (k kF))
 (bcase (dL n6 5 l6)
 (bcase (dL n12 1 l12)
 (bcase (dL n16 1 l16)
 ((((Says C 26 [(D.agg [(dI x0), (dI x1), (dI x2), (dI x3), (dI x4), (dI x5), (Dw n6 5 l6), (dI x7), (dI x8), (dI x9), (dI x10)]), (D.agg [(D.val (Value.string (s11))), (Dw n12 1 l12)]), (D.agg [(dI x13), (dI x14), (dI x15), (Dw n16 1 l16)])] [D.nil, (D.val (Value.bool true))]) ∧
 (bcase (n3 == 0)
 (((Says C 16 [D.nil, D.nil] kT) ∧
 (k kT)) ∨
 ((Says C 16 [D.nil, D.nil] kF) ∧
 (k kF)))
 (k kF))) ∨
 ((Says C 26 [(D.agg [(dI x0), (dI x1), (dI x2), (dI x3), (dI x4), (dI x5), (Dw n6 5 l6), (dI x7), (dI x8), (dI x9), (dI x10)]), (D.agg [(D.val (Value.string (s11))), (Dw n12 1 l12)]), (D.agg [(dI x13), (dI x14), (dI x15), (Dw n16 1 l16)])] [D.nil, (D.val (Value.bool false))]) ∧
 (bcase (n3 == 0)
 (((Says C 16 [D.nil, D.nil] kT) ∧
 (k kF)) ∨
 ((Says C 16 [D.nil, D.nil] kF) ∧
 (k kF)))
 (k kF)))) ∨
 (∃ n9 : Nat,
 (∃ cs1 : List Go.Value,
 (((Says C 26 [(D.agg [(dI x0), (dI x1), (dI x2), (dI x3), (dI x4), (dI x5), (Dw n6 5 l6), (dI x7), (dI x8), (dI x9), (dI x10)]), (D.agg [(D.val (Value.string (s11))), (Dw n12 1 l12)]), (D.agg [(dI x13), (dI x14), (dI x15), (Dw n16 1 l16)])] [(D.sl (n9) 2 (cs1)), (D.val (Value.bool true))]) ∧
 (bcase (n3 == 0)
 (bcase (dL n9 2 cs1)
 (((Says C 16 [D.nil, (Dw n9 2 cs1)] kT) ∧
 (k kT)) ∨
 ((Says C 16 [D.nil, (Dw n9 2 cs1)] kF) ∧
 (k kF)))
 False)
 (k kF))) ∨
 ((Says C 26 [(D.agg [(dI x0), (dI x1), (dI x2), (dI x3), (dI x4), (dI x5), (Dw n6 5 l6), (dI x7), (dI x8), (dI x9), (dI x10)]), (D.agg [(D.val (Value.string (s11))), (Dw n12 1 l12)]), (D.agg [(dI x13), (dI x14), (dI x15), (Dw n16 1 l16)])] [(D.sl (n9) 2 (cs1)), (D.val (Value.bool false))]) ∧
 (bcase (n3 == 0)
 (bcase (dL n9 2 cs1)
 (((Says C 16 [D.nil, (Dw n9 2 cs1)] kT) ∧
 (k kF)) ∨
 ((Says C 16 [D.nil, (Dw n9 2 cs1)] kF) ∧
 (k kF)))
 False)
 (k kF)))))))
 False)
 False)
 False))
 (bcase (n8 != 0)
 (bcase (n3 == n8)
 (k kF)
 (k kF))
 (bcase (dL n6 5 l6)
 (bcase (dL n12 1 l12)
 (bcase (dL n16 1 l16)
 ((((Says C 26 [(D.agg [(dI x0), (dI x1), (dI x2), (dI x3), (dI x4), (dI x5), (Dw n6 5 l6), (dI x7), (dI x8), (dI x9), (dI x10)]), (D.agg [(D.val (Value.string (s11))), (Dw n12 1 l12)]), (D.agg [(dI x13), (dI x14), (dI x15), (Dw n16 1 l16)])] [D.nil, (D.val (Value.bool true))]) ∧
 (bcase (n3 == 0)
 (((Says C 16 [D.nil, D.nil] kT) ∧
 (k kT)) ∨
 ((Says C 16 [D.nil, D.nil] kF) ∧
 (k kF)))
 (k kF))) ∨
 ((Says C 26 [(D.agg [(dI x0), (dI x1), (dI x2), (dI x3), (dI x4), (dI x5), (Dw n6 5 l6), (dI x7), (dI x8), (dI x9), (dI x10)]), (D.agg [(D.val (Value.string (s11))), (Dw n12 1 l12)]), (D.agg [(dI x13), (dI x14), (dI x15), (Dw n16 1 l16)])] [D.nil, (D.val (Value.bool false))]) ∧
 (bcase (n3 == 0)
 (((Says C 16 [D.nil, D.nil] kT) ∧
 (k kF)) ∨
 ((Says C 16 [D.nil, D.nil] kF) ∧
 (k kF)))
 (k kF)))) ∨
 (∃ n9 : Nat,
 (∃ cs1 : List Go.Value,
 (((Says C 26 [(D.agg [(dI x0), (dI x1), (dI x2), (dI x3), (dI x4), (dI x5), (Dw n6 5 l6), (dI x7), (dI x8), (dI x9), (dI x10)]), (D.agg [(D.val (Value.string (s11))), (Dw n12 1 l12)]), (D.agg [(dI x13), (dI x14), (dI x15), (Dw n16 1 l16)])] [(D.sl (n9) 2 (cs1)), (D.val (Value.bool true))]) ∧
 (bcase (n3 == 0)
 (bcase (dL n9 2 cs1)
 (((Says C 16 [D.nil, (Dw n9 2 cs1)] kT) ∧
 (k kT)) ∨
 ((Says C 16 [D.nil, (Dw n9 2 cs1)] kF) ∧
 (k kF)))
 False)
 (k kF))) ∨
 ((Says C 26 [(D.agg [(dI x0), (dI x1), (dI x2), (dI x3), (dI x4), (dI x5), (Dw n6 5 l6), (dI x7), (dI x8), (dI x9), (dI x10)]), (D.agg [(D.val (Value.string (s11))), (Dw n12 1 l12)]), (D.agg [(dI x13), (dI x14), (dI x15), (Dw n16 1 l16)])] [(D.sl (n9) 2 (cs1)), (D.val (Value.bool false))]) ∧
 (bcase (n3 == 0)
 (bcase (dL n9 2 cs1)
 (((Says C 16 [D.nil, (Dw n9 2 cs1)] kT) ∧
 (k kF)) ∨
 ((Says C 16 [D.nil, (Dw n9 2 cs1)] kF) ∧
 (k kF)))
 False)
 (k kF)))))))
 False)
 False)
 False)))))
 False)
 False))))))
 False)
 False))))
 False))))))) ∨
 (∃ n3 : Int,
 ((Says C 22 [(D.agg [(dI x0), (dI x1), (dI x2), (dI x3), (dI x4), (dI x5), (Dw n6 5 (Tk n6 5 l6)), (dI x7), (dI x8), (dI x9), (dI x10)]), (D.agg [(D.val (Value.string (s11))), (Dw n12 1 (Tk n12 1 l12))]), (D.agg [(dI x13), (dI x14), (dI x15), (Dw n16 1 (Tk n16 1 l16))])] [D.nil, (D.val (Value.bool false)), (dI n3)]) ∧
 (((Qv (vI n3)) ∧
 (Qf ∧
 ((Qv (Value.slice none 0 0)) ∧
 ((Qv (Value.tuple [(Value.slice none 0 0), (Value.bool false), (vI n3)].toArray)) ∧
 True)))) ∧
 (((Qv (vI n3)) ∧
 (Qf ∧
 True)) ∧
 (((Qv (vI n3)) ∧
 True) ∧
 (True ∧
 (bcase (dL n6 5 l6)
 (∃ n4 : Int,
 ((Says C 23 [(D.agg [(dI x0), (dI x1), (dI x2), (dI x3), (dI x4), (dI x5), (Dw n6 5 l6), (dI x7), (dI x8), (dI x9), (dI x10)])] [(dI n4)]) ∧
 (bcase (n4 != 0)
 (bcase (n2 == n4)
 (bcase (n3 == n4)
 (bcase (n1 == 0)
 (k kT)
 (k kF))
 (k kF))
 (k kF))
 (bcase (dL n6 5 l6)
 (bcase (dL n16 1 l16)
 (∃ n5 : Int,
 (∃ n7 : Int,
 ((Says C 24 [(D.agg [(dI x0), (dI x1), (dI x2), (dI x3), (dI x4), (dI x5), (Dw n6 5 l6), (dI x7), (dI x8), (dI x9), (dI x10)]), (D.agg [(dI x13), (dI x14), (dI x15), (Dw n16 1 l16)])] [(dI n5), (dI n7)]) ∧
 (bcase (n2 != n7)
 (k kF)
 (bcase (n1 != n5)
 (k kF)
 (bcase (dL n6 5 l6)
 (bcase (dL n12 1 l12)
 (∃ n8 : Int,
 ((Says C 25 [(D.agg [(dI x0), (dI x1), (dI x2), (dI x3), (dI x4), (dI x5), (Dw n6 5 l6), (dI x7), (dI x8), (dI x9), (dI x10)]), (D.agg [(D.val (Value.string (s11))), (Dw n12 1 l12)])] [(dI n8)]) ∧
 (bcase (n8 == 0)
 (bcase (n7 != 0)
 (bcase (n3 == n7)
 (k kT)
 (k kF))
 (bcase (dL n6 5 l6)
 (bcase (dL n12 1 l12)
 (bcase (dL n16 1 l16)
 ((((Says C 26 [(D.agg [(dI x0), (dI x1), (dI x2), (dI x3), (dI x4), (dI x5), (Dw n6 5 l6), (dI x7), (dI x8), (dI x9), (dI x10)]), (D.agg [(D.val (Value.string (s11))), (Dw n12 1 l12)]), (D.agg [(dI x13), (dI x14), (dI x15), (Dw n16 1 l16)])] [D.nil, (D.val (Value.bool true))]) ∧
 (bcase (n3 == 0)
 (((Says C 16 [D.nil, D.nil] kT) ∧
 (k kF)) ∨
 ((Says C 16 [D.nil, D.nil] kF) ∧
 (k kF)))
 (k kF))) ∨
 ((Says C 26 [(D.agg [(dI x0), (dI x1), (dI x2), (dI x3), (dI x4), (dI x5), (Dw n6 5 l6), (dI x7), (dI x8), (dI x9), (dI x10)]), (D.agg [(D.val (Value.string (s11))), (Dw n12 1 l12)]), (D.agg [(dI x13), (dI x14), (dI x15), (Dw n16 1 l16)])] [D.nil, (D.val (Value.bool false))]) ∧
 (bcase (n3 == 0)
 (((Says C 16 [D.nil, D.nil] kT) ∧
 (k kT)) ∨
 ((Says C 16 [D.nil, D.nil] kF) ∧
 (k kF)))
 (k kF)))) ∨
 (∃ n9 : Nat,
 (∃ cs1 : List Go.Value,
 (((Says C 26 [(D.agg [(dI x0), (dI x1), (dI x2), (dI x3), (dI x4), (dI x5), (Dw n6 5 l6), (dI x7), (dI x8), (dI x9), (dI x10)]), (D.agg [(D.val (Value.string (s11))), (Dw n12 1 l12)]), (D.agg [(dI x13), (dI x14), (dI x15), (Dw n16 1 l16)])] [(D.sl (n9) 2 (cs1)), (D.val (Value.bool true))]) ∧
 (bcase (n3 == 0)
 (bcase (dL n9 2 cs1)
 (((Says C 16 [D.nil, (Dw n9 2 cs1)] kT) ∧
 (k kF)) ∨
 ((Says C 16 [D.nil, (Dw n9 2 cs1)] kF) ∧
 (k kF)))
 False)
 (k kF))) ∨
 ((Says C 26 [(D.agg [(dI x0), (dI x1), (dI x2), (dI x3), (dI x4), (dI x5), (Dw n6 5 l6), (dI x7), (dI x8), (dI x9), (dI x10)]), (D.agg [(D.val (Value.string (s11))), (Dw n12 1 l12)]), (D.agg [(dI x13), (dI x14), (dI x15), (Dw n16 1 l16)])] [(D.sl (n9) 2 (cs1)), (D.val (Value.bool false))]) ∧
 (bcase (n3 == 0)
 (bcase (dL n9 2 cs1)
 (((Says C 16 [D.nil, (Dw n9 2 cs1)] kT) ∧
 (k kT)) ∨
 ((Says C 16 [D.nil, (Dw n9 2 cs1)] kF) ∧
 (k kF)))
 False)
 (k kF)))))))
 False)
 False)
 False))
 (bcase (n8 != 0)
 (bcase (n3 == n8)
 (k kT)
 (k kF))
 (bcase (dL n6 5 l6)
 (bcase (dL n12 1 l12)
 (bcase (dL n16 1 l16)
 ((((Says C 26 [(D.agg [(dI x0), (dI x1), (dI x2), (dI x3), (dI x4), (dI x5), (Dw n6 5 l6), (dI x7), (dI x8), (dI x9), (dI x10)]), (D.agg [(D.val (Value.string (s11))), (Dw n12 1 l12)]), (D.agg [(dI x13), (dI x14), (dI x15), (Dw n16 1 l16)])] [D.nil, (D.val (Value.bool true))]) ∧
 (bcase (n3 == 0)
 (((Says C 16 [D.nil, D.nil] kT) ∧
 (k kF)) ∨
 ((Says C 16 [D.nil, D.nil] kF) ∧
 (k kF)))
 (k kF))) ∨
 ((Says C 26 [(D.agg [(dI x0), (dI x1), (dI x2), (dI x3), (dI x4), (dI x5), (Dw n6 5 l6), (dI x7), (dI x8), (dI x9), (dI x10)]), (D.agg [(D.val (Value.string (s11))), (Dw n12 1 l12)]), (D.agg [(dI x13), (dI x14), (dI x15), (Dw n16 1 l16)])] [D.nil, (D.val (Value.bool false))]) ∧
 (bcase (n3 == 0)
 (((Says C 16 [D.nil, D.nil] kT) ∧
 (k kT)) ∨
 ((Says C 16 [D.nil, D.nil] kF) ∧
 (k kF)))
 (k kF)))) ∨
 (∃ n9 : Nat,
 (∃ cs1 : List Go.Value,
 (((Says C 26 [(D.agg [(dI x0), (dI x1), (dI x2), (dI x3), (dI x4), (dI x5), (Dw n6 5 l6), (dI x7), (dI x8), (dI x9), (dI x10)]), (D.agg [(D.val (Value.string (s11))), (Dw n12 1 l12)]), (D.agg [(dI x13), (dI x14), (dI x15), (Dw n16 1 l16)])] [(D.sl (n9) 2 (cs1)), (D.val (Value.bool true))]) ∧
 (bcase (n3 == 0)
 (bcase (dL n9 2 cs1)
 (((Says C 16 [D.nil, (Dw n9 2 cs1)] kT) ∧
 (k kF)) ∨
 ((Says C 16 [D.nil, (Dw n9 2 cs1)] kF) ∧
 (k kF)))
 False)
 (k kF))) ∨
 ((Says C 26 [(D.agg [(dI x0), (dI x1), (dI x2), (dI x3), (dI x4), (dI x5), (Dw n6 5 l6), (dI x7), (dI x8), (dI x9), (dI x10)]), (D.agg [(D.val (Value.string (s11))), (Dw n12 1 l12)]), (D.agg [(dI x13), (dI x14), (dI x15), (Dw n16 1 l16)])] [(D.sl (n9) 2 (cs1)), (D.val (Value.bool false))]) ∧
 (bcase (n3 == 0)
 (bcase (dL n9 2 cs1)
 (((Says C 16 [D.nil, (Dw n9 2 cs1)] kT) ∧
 (k kT)) ∨
 ((Says C 16 [D.nil, (Dw n9 2 cs1)] kF) ∧
 (k kF)))
 False)
 (k kF)))))))
 False)
 False)
 False)))))
 False)
 False))))))
 False)
 False))))
 False)))))))) ∨
 (∃ n3 : Nat,
 (∃ cs1 : List Go.Value,
 ((∃ n4 : Int,
 ((Says C 22 [(D.agg [(dI x0), (dI x1), (dI x2), (dI x3), (dI x4), (dI x5), (Dw n6 5 (Tk n6 5 l6)), (dI x7), (dI x8), (dI x9), (dI x10)]), (D.agg [(D.val (Value.string (s11))), (Dw n12 1 (Tk n12 1 l12))]), (D.agg [(dI x13), (dI x14), (dI x15), (Dw n16 1 (Tk n16 1 l16))])] [(D.sl (n3) 2 (cs1)), (D.val (Value.bool true)), (dI n4)]) ∧
 (((Qv (vI n4)) ∧
 (Qb ∧
 ((Qv (Sl 1010 (n3) (n3))) ∧
 ((Qv (Value.tuple [(Sl 1010 (n3) (n3)), (Value.bool true), (vI n4)].toArray)) ∧
 True)))) ∧
 (((Qv (vI n4)) ∧
 (Qb ∧
 True)) ∧
 (((Qv (vI n4)) ∧
 True) ∧
 (True ∧
 (bcase (dL n6 5 l6)
 (∃ n5 : Int,
 ((Says C 23 [(D.agg [(dI x0), (dI x1), (dI x2), (dI x3), (dI x4), (dI x5), (Dw n6 5 l6), (dI x7), (dI x8), (dI x9), (dI x10)])] [(dI n5)]) ∧
 (bcase (n5 != 0)
 (bcase (n2 == n5)
 (bcase (n4 == n5)
 (bcase (n1 == 0)
 (bcase ((↑n3 : Int) == 0)
 (k kF)
 (k kF))
 (k kF))
 (k kF))
 (k kF))
 (bcase (dL n6 5 l6)
 (bcase (dL n16 1 l16)
 (∃ n7 : Int,
 (∃ n8 : Int,
 ((Says C 24 [(D.agg [(dI x0), (dI x1), (dI x2), (dI x3), (dI x4), (dI x5), (Dw n6 5 l6), (dI x7), (dI x8), (dI x9), (dI x10)]), (D.agg [(dI x13), (dI x14), (dI x15), (Dw n16 1 l16)])] [(dI n7), (dI n8)]) ∧
 (bcase (n2 != n8)
 (k kF)
 (bcase (n1 != n7)
 (k kF)
 (bcase (dL n6 5 l6)
 (bcase (dL n12 1 l12)
 (∃ n9 : Int,
 ((Says C 25 [(D.agg [(dI x0), (dI x1), (dI x2), (dI x3), (dI x4), (dI x5), (Dw n6 5 l6), (dI x7), (dI x8), (dI x9), (dI x10)]), (D.agg [(D.val (Value.string (s11))), (Dw n12 1 l12)])] [(dI n9)]) ∧
 (bcase (n9 == 0)
 (bcase (n8 != 0)
 (bcase (n4 == n8)
 (bcase ((↑n3 : Int) == 0)
 (k kF)
 (k kF))
 (k kF))
 (bcase (dL n6 5 l6)
 (bcase (dL n12 1 l12)
 (bcase (dL n16 1 l16)
 ((((Says C 26 [(D.agg [(dI x0), (dI x1), (dI x2), (dI x3), (dI x4), (dI x5), (Dw n6 5 l6), (dI x7), (dI x8), (dI x9), (dI x10)]), (D.agg [(D.val (Value.string (s11))), (Dw n12 1 l12)]), (D.agg [(dI x13), (dI x14), (dI x15), (Dw n16 1 l16)])] [D.nil, (D.val (Value.bool true))]) ∧
 (bcase (n4 == 0)
 (bcase (dL n3 2 cs1)
 (((Says C 16 [(Dw n3 2 cs1), D.nil] kT) ∧
 (k kT)) ∨
 ((Says C 16 [(Dw n3 2 cs1), D.nil] kF) ∧
 (k kF)))
 False)
 (k kF))) ∨
 ((Says C 26 [(D.agg [(dI x0), (dI x1), (dI x2), (dI x3), (dI x4), (dI x5), (Dw n6 5 l6), (dI x7), (dI x8), (dI x9), (dI x10)]), (D.agg [(D.val (Value.string (s11))), (Dw n12 1 l12)]), (D.agg [(dI x13), (dI x14), (dI x15), (Dw n16 1 l16)])] [D.nil, (D.val (Value.bool false))]) ∧
 (bcase (n4 == 0)
 (bcase (dL n3 2 cs1)
 (((Says C 16 [(Dw n3 2 cs1), D.nil] kT) ∧
 (k kF)) ∨
 ((Says C 16 [(Dw n3 2 cs1), D.nil] kF) ∧
 (k kF)))
 False)
 (k kF)))) ∨
 (∃ n10 : Nat,
 (∃ cs2 : List Go.Value,
 (((Says C 26 [(D.agg [(dI x0), (dI x1), (dI x2), (dI x3), (dI x4), (dI x5), (Dw n6 5 l6), (dI x7), (dI x8), (dI x9), (dI x10)]), (D.agg [(D.val (Value.string (s11))), (Dw n12 1 l12)]), (D.agg [(dI x13), (dI x14), (dI x15), (Dw n16 1 l16)])] [(D.sl (n10) 2 (cs2)), (D.val (Value.bool true))]) ∧
 (bcase (n4 == 0)
 (bcase (dL n3 2 cs1)
 (bcase (dL n10 2 cs2)
 (((Says C 16 [(Dw n3 2 cs1), (Dw n10 2 cs2)] kT) ∧
 (k kT)) ∨
 ((Says C 16 [(Dw n3 2 cs1), (Dw n10 2 cs2)] kF) ∧
 (k kF)))
 False)
 False)
 (k kF))) ∨
 ((Says C 26 [(D.agg [(dI x0), (dI x1), (dI x2), (dI x3), (dI x4), (dI x5), (Dw n6 5 l6), (dI x7), (dI x8), (dI x9), (dI x10)]), (D.agg [(D.val (Value.string (s11))), (Dw n12 1 l12)]), (D.agg [(dI x13), (dI x14), (dI x15), (Dw n16 1 l16)])] [(D.sl (n10) 2 (cs2)), (D.val (Value.bool false))]) ∧
 (bcase (n4 == 0)
 (bcase (dL n3 2 cs1)
 (bcase (dL n10 2 cs2)
 (((Says C 16 [(Dw n3 2 cs1), (Dw n10 2 cs2)] kT) ∧
 (k kF)) ∨
 ((Says C 16 [(Dw n3 2 cs1), (Dw n10 2 cs2)] kF) ∧
 (k kF)))
 False)
 False)
 (k kF)))))))
 False)
 False)
 False))
 (bcase (n9 != 0)
 (bcase (n4 == n9)
 (bcase ((↑n3 : Int) == 0)
 (k kF)
 (k kF))
 (k kF))
 (bcase (dL n6 5 l6)
 (bcase (dL n12 1 l12)
 (bcase (dL n16 1 l16)
 ((((Says C 26 [(D.agg [(dI x0), (dI x1), (dI x2), (dI x3), (dI x4), (dI x5), (Dw n6 5 l6), (dI x7), (dI x8), (dI x9), (dI x10)]), (D.agg [(D.val (Value.string (s11))), (Dw n12 1 l12)]), (D.agg [(dI x13), (dI x14), (dI x15), (Dw n16 1 l16)])] [D.nil, (D.val (Value.bool true))]) ∧
 (bcase (n4 == 0)
 (bcase (dL n3 2 cs1)
 (((Says C 16 [(Dw n3 2 cs1), D.nil] kT) ∧
 (k kT)) ∨
 ((Says C 16 [(Dw n3 2 cs1), D.nil] kF) ∧
 (k kF)))
 False)
 (k kF))) ∨
 ((Says C 26 [(D.agg [(dI x0), (dI x1), (dI x2), (dI x3), (dI x4), (dI x5), (Dw n6 5 l6), (dI x7), (dI x8), (dI x9), (dI x10)]), (D.agg [(D.val (Value.string (s11))), (Dw n12 1 l12)]), (D.agg [(dI x13), (dI x14), (dI x15), (Dw n16 1 l16)])] [D.nil, (D.val (Value.bool false))]) ∧
 (bcase (n4 == 0)
 (bcase (dL n3 2 cs1)
 (((Says C 16 [(Dw n3 2 cs1), D.nil] kT) ∧
 (k kF)) ∨
 ((Says C 16 [(Dw n3 2 cs1), D.nil] kF) ∧
 (k kF)))
 False)
 (k kF)))) ∨
 (∃ n10 : Nat,
 (∃ cs2 : List Go.Value,
 (((Says C 26 [(D.agg [(dI x0), (dI x1), (dI x2), (dI x3), (dI x4), (dI x5), (Dw n6 5 l6), (dI x7), (dI x8), (dI x9), (dI x10)]), (D.agg [(D.val (Value.string (s11))), (Dw n12 1 l12)]), (D.agg [(dI x13), (dI x14), (dI x15), (Dw n16 1 l16)])] [(D.sl (n10) 2 (cs2)), (D.val (Value.bool true))]) ∧
 (bcase (n4 == 0)
 (bcase (dL n3 2 cs1)
 (bcase (dL n10 2 cs2)
 (((Says C 16 [(Dw n3 2 cs1), (Dw n10 2 cs2)] kT) ∧
 (k kT)) ∨
 ((Says C 16 [(Dw n3 2 cs1), (Dw n10 2 cs2)] kF) ∧
 (k kF)))
 False)
 False)
 (k kF))) ∨
 ((Says C 26 [(D.agg [(dI x0), (dI x1), (dI x2), (dI x3), (dI x4), (dI x5), (Dw n6 5 l6), (dI x7), (dI x8), (dI x9), (dI x10)]), (D.agg [(D.val (Value.string (s11))), (Dw n12 1 l12)]), (D.agg [(dI x13), (dI x14), (dI x15), (Dw n16 1 l16)])] [(D.sl (n10) 2 (cs2)), (D.val (Value.bool false))]) ∧
 (bcase (n4 == 0)
 (bcase (dL n3 2 cs1)
 (bcase (dL n10 2 cs2)
 (((Says C 16 [(Dw n3 2 cs1), (Dw n10 2 cs2)] kT) ∧
 (k kF)) ∨
 ((Says C 16 [(Dw n3 2 cs1), (Dw n10 2 cs2)] kF) ∧
 (k kF)))
 False)
 False)
 (k kF)))))))
 False)
 False)
 False)))))
 False)
 False))))))
 False)
 False))))
 False))))))) ∨
 (∃ n4 : Int,
 ((Says C 22 [(D.agg [(dI x0), (dI x1), (dI x2), (dI x3), (dI x4), (dI x5), (Dw n6 5 (Tk n6 5 l6)), (dI x7), (dI x8), (dI x9), (dI x10)]), (D.agg [(D.val (Value.string (s11))), (Dw n12 1 (Tk n12 1 l12))]), (D.agg [(dI x13), (dI x14), (dI x15), (Dw n16 1 (Tk n16 1 l16))])] [(D.sl (n3) 2 (cs1)), (D.val (Value.bool false)), (dI n4)]) ∧
 (((Qv (vI n4)) ∧
 (Qf ∧
 ((Qv (Sl 1010 (n3) (n3))) ∧
 ((Qv (Value.tuple [(Sl 1010 (n3) (n3)), (Value.bool false), (vI n4)].toArray)) ∧
 True)))) ∧
 (((Qv (vI n4)) ∧
 (Qf ∧
 True)) ∧
 (((Qv (vI n4)) ∧
 True) ∧
 (True ∧
 (bcase (dL n6 5 l6)
 (∃ n5 : Int,
 ((Says C 23 [(D.agg [(dI x0), (dI x1), (dI x2), (dI x3), (dI x4), (dI x5), (Dw n6 5 l6), (dI x7), (dI x8), (dI x9), (dI x10)])] [(dI n5)]) ∧
 (bcase (n5 != 0)
 (bcase (n2 == n5)
 (bcase (n4 == n5)
 (bcase (n1 == 0)
 (bcase ((↑n3 : Int) == 0)
 (k kT)
 (k kF))
 (k kF))
 (k kF))
 (k kF))
 (bcase (dL n6 5 l6)
 (bcase (dL n16 1 l16)
 (∃ n7 : Int,
 (∃ n8 : Int,
 ((Says C 24 [(D.agg [(dI x0), (dI x1), (dI x2), (dI x3), (dI x4), (dI x5), (Dw n6 5 l6), (dI x7), (dI x8), (dI x9), (dI x10)]), (D.agg [(dI x13), (dI x14), (dI x15), (Dw n16 1 l16)])] [(dI n7), (dI n8)]) ∧
 (bcase (n2 != n8)
 (k kF)
 (bcase (n1 != n7)
 (k kF)
 (bcase (dL n6 5 l6)
 (bcase (dL n12 1 l12)
 (∃ n9 : Int,
 ((Says C 25 [(D.agg [(dI x0), (dI x1), (dI x2), (dI x3), (dI x4), (dI x5), (Dw n6 5 l6), (dI x7), (dI x8), (dI x9), (dI x10)]), (D.agg [(D.val (Value.string (s11))), (Dw n12 1 l12)])] [(dI n9)]) ∧
 (bcase (n9 == 0)
 (bcase (n8 != 0)
 (bcase (n4 == n8)
 (bcase ((↑n3 : Int) == 0)
 (k kT)
 (k kF))
 (k kF))
 (bcase (dL n6 5 l6)
 (bcase (dL n12 1 l12)
 (bcase (dL n16 1 l16)
 ((((Says C 26 [(D.agg [(dI x0), (dI x1), (dI x2), (dI x3), (dI x4), (dI x5), (Dw n6 5 l6), (dI x7), (dI x8), (dI x9), (dI x10)]), (D.agg [(D.val (Value.string (s11))), (Dw n12 1 l12)]), (D.agg [(dI x13), (dI x14), (dI x15), (Dw n16 1 l16)])] [D.nil, (D.val (Value.bool true))]) ∧
 (bcase (n4 == 0)
 (bcase (dL n3 2 cs1)
 (((Says C 16 [(Dw n3 2 cs1), D.nil] kT) ∧
 (k kF)) ∨
 ((Says C 16 [(Dw n3 2 cs1), D.nil] kF) ∧
 (k kF)))
 False)
 (k kF))) ∨
 ((Says C 26 [(D.agg [(dI x0), (dI x1), (dI x2), (dI x3), (dI x4), (dI x5), (Dw n6 5 l6), (dI x7), (dI x8), (dI x9), (dI x10)]), (D.agg [(D.val (Value.string (s11))), (Dw n12 1 l12)]), (D.agg [(dI x13), (dI x14), (dI x15), (Dw n16 1 l16)])] [D.nil, (D.val (Value.bool false))]) ∧
 (bcase (n4 == 0)
 (bcase (dL n3 2 cs1)
 (((Says C 16 [(Dw n3 2 cs1), D.nil] kT) ∧
 (k kT)) ∨
 ((Says C 16 [(Dw n3 2 cs1), D.nil] kF) ∧
 (k kF)))
 False)
 (k kF)))) ∨
 (∃ n10 : Nat,
 (∃ cs2 : List Go.Value,
 (((Says C 26 [(D.agg [(dI x0), (dI x1), (dI x2), (dI x3), (dI x4), (dI x5), (Dw n6 5 l6), (dI x7), (dI x8), (dI x9), (dI x10)]), (D.agg [(D.val (Value.string (s11))), (Dw n12 1 l12)]), (D.agg [(dI x13), (dI x14), (dI x15), (Dw n16 1 l16)])] [(D.sl (n10) 2 (cs2)), (D.val (Value.bool true))]) ∧
 (bcase (n4 == 0)
 (bcase (dL n3 2 cs1)
 (bcase (dL n10 2 cs2)
 (((Says C 16 [(Dw n3 2 cs1), (Dw n10 2 cs2)] kT) ∧
 (k kF)) ∨
 ((Says C 16 [(Dw n3 2 cs1), (Dw n10 2 cs2)] kF) ∧
 (k kF)))
 False)
 False)
 (k kF))) ∨
 ((Says C 26 [(D.agg [(dI x0), (dI x1), (dI x2), (dI x3), (dI x4), (dI x5), (Dw n6 5 l6), (dI x7), (dI x8), (dI x9), (dI x10)]), (D.agg [(D.val (Value.string (s11))), (Dw n12 1 l12)]), (D.agg [(dI x13), (dI x14), (dI x15), (Dw n16 1 l16)])] [(D.sl (n10) 2 (cs2)), (D.val (Value.bool false))]) ∧
 (bcase (n4 == 0)
 (bcase (dL n3 2 cs1)
 (bcase (dL n10 2 cs2)
 (((Says C 16 [(Dw n3 2 cs1), (Dw n10 2 cs2)] kT) ∧
 (k kT)) ∨
 ((Says C 16 [(Dw n3 2 cs1), (Dw n10 2 cs2)] kF) ∧
 (k kF)))
 False)
 False)
 (k kF)))))))
 False)
 False)
 False))
 (bcase (n9 != 0)
 (bcase (n4 == n9)
 (bcase ((↑n3 : Int) == 0)
 (k kT)
 (k kF))
 (k kF))
 (bcase (dL n6 5 l6)
 (bcase (dL n12 1 l12)
 (bcase (dL n16 1 l16)
 ((((Says C 26 [(D.agg [(dI x0), (dI x1), (dI x2), (dI x3), (dI x4), (dI x5), (Dw n6 5 l6), (dI x7), (dI x8), (dI x9), (dI x10)]), (D.agg [(D.val (Value.string (s11))), (Dw n12 1 l12)]), (D.agg [(dI x13), (dI x14), (dI x15), (Dw n16 1 l16)])] [D.nil, (D.val (Value.bool true))]) ∧
 (bcase (n4 == 0)
 (bcase (dL n3 2 cs1)
 (((Says C 16 [(Dw n3 2 cs1), D.nil] kT) ∧
 (k kF)) ∨
 ((Says C 16 [(Dw n3 2 cs1), D.nil] kF) ∧
 (k kF)))
 False)
 (k kF))) ∨
 ((Says C 26 [(D.agg [(dI x0), (dI x1), (dI x2), (dI x3), (dI x4), (dI x5), (Dw n6 5 l6), (dI x7), (dI x8), (dI x9), (dI x10)]), (D.agg [(D.val (Value.string (s11))), (Dw n12 1 l12)]), (D.agg [(dI x13), (dI x14), (dI x15), (Dw n16 1 l16)])] [D.nil, (D.val (Value.bool false))]) ∧
 (bcase (n4 == 0)
 (bcase (dL n3 2 cs1)
 (((Says C 16 [(Dw n3 2 cs1), D.nil] kT) ∧
 (k kT)) ∨
 ((Says C 16 [(Dw n3 2 cs1), D.nil] kF) ∧
 (k kF)))
 False)
 (k kF)))) ∨
 (∃ n10 : Nat,
 (∃ cs2 : List Go.Value,
 (((Says C 26 [(D.agg [(dI x0), (dI x1), (dI x2), (dI x3), (dI x4), (dI x5), (Dw n6 5 l6), (dI x7), (dI x8), (dI x9), (dI x10)]), (D.agg [(D.val (Value.string (s11))), (Dw n12 1 l12)]), (D.agg [(dI x13), (dI x14), (dI x15), (Dw n16 1 l16)])] [(D.sl (n10) 2 (cs2)), (D.val (Value.bool true))]) ∧
 (bcase (n4 == 0)
 (bcase (dL n3 2 cs1)
 (bcase (dL n10 2 cs2)
 (((Says C 16 [(Dw n3 2 cs1), (Dw n10 2 cs2)] kT) ∧
 (k kF)) ∨
 ((Says C 16 [(Dw n3 2 cs1), (Dw n10 2 cs2)] kF) ∧
 (k kF)))
 False)
 False)
 (k kF))) ∨
 ((Says C 26 [(D.agg [(dI x0), (dI x1), (dI x2), (dI x3), (dI x4), (dI x5), (Dw n6 5 l6), (dI x7), (dI x8), (dI x9), (dI x10)]), (D.agg [(D.val (Value.string (s11))), (Dw n12 1 l12)]), (D.agg [(dI x13), (dI x14), (dI x15), (Dw n16 1 l16)])] [(D.sl (n10) 2 (cs2)), (D.val (Value.bool false))]) ∧
 (bcase (n4 == 0)
 (bcase (dL n3 2 cs1)
 (bcase (dL n10 2 cs2)
 (((Says C 16 [(Dw n3 2 cs1), (Dw n10 2 cs2)] kT) ∧
 (k kT)) ∨
 ((Says C 16 [(Dw n3 2 cs1), (Dw n10 2 cs2)] kF) ∧
 (k kF)))
 False)
 False)
 (k kF)))))))
 False)
 False)
 False)))))
 False)
 False))))))
 False)
 False))))
 False)))))))))))
 False)
 False)
 False)))
 False)))
 False)))
 False))))))))
 False)
 False)))
 False)))
 False)))
 (k kT))
 (k kT))
 (k kT))) ∨
 ((Says C 6 [] kF) ∧
 (k kF))) := by kernel_rfl
def gM1 (C : Ct) (L : AtLoop) (x0 : Int) (x1 : Int) (x2 : Int) (x3 : Int) (x4 : Int) (x5 : Int) (n6 : Nat) (c6 : Nat) (l6 : List Value) (x7 : Int) (x8 : Int) (x9 : Int) (x10 : Int) (s11 : ByteArray) (n12 : Nat) (c12 : Nat) (l12 : List Value) (x13 : Int) (x14 : Int) (x15 : Int) (k : List D → Prop) : Prop := wpFn Try.prog (hQ C) L 0 4 #[.agg #[.int .i64 x0, .int .i64 x1, .int .i64 x2, .int .i64 x3, .int .i64 x4, .int .i64 x5, .slice (some ⟨500, 0, none⟩) n6 c6, .int .i64 x7, .int .i64 x8, .int .i64 x9, .int .i64 x10], .agg #[.string s11, .slice (some ⟨501, 0, none⟩) n12 c12], .agg #[.int .i64 x13, .int .i64 x14, .int .i64 x15, .slice none 0 0]] (heapOf [(500, .sym l6 false 5), (501, .sym l12 false 1)]) (dataK k)
theorem gM1_text (C : Ct) (L : AtLoop) (x0 : Int) (x1 : Int) (x2 : Int) (x3 : Int) (x4 : Int) (x5 : Int) (n6 : Nat) (c6 : Nat) (l6 : List Go.Value) (x7 : Int) (x8 : Int) (x9 : Int) (x10 : Int) (s11 : ByteArray) (n12 : Nat) (c12 : Nat) (l12 : List Go.Value) (x13 : Int) (x14 : Int) (x15 : Int) (k : List D → Prop) : gM1 C L x0 x1 x2 x3 x4 x5 n6 c6 l6 x7 x8 x9 x10 s11 n12 c12 l12 x13 x14 x15 k =
 (((Says C 6 [] kT) ∧
 (bcase (decide ((↑n6 : Int) ≤ 8))
 (bcase (decide ((↑n12 : Int) ≤ 8))
 (bcase (decide ((↑(ByteArray.size s11) : Int) ≤ 30))
 (((Qv (Value.agg [(vI x13), (vI x14), (vI x15), (Value.slice none 0 0)].toArray)) ∧
 ((Qv (Value.agg [(vI x0), (vI x1), (vI x2), (vI x3), (vI x4), (vI x5), (Sl 500 (n6) (c6)), (vI x7), (vI x8), (vI x9), (vI x10)].toArray)) ∧
 True)) ∧
 (bcase (dL n6 5 l6)
 ((Says C 9 [(D.agg [(dI x0), (dI x1), (dI x2), (dI x3), (dI x4), (dI x5), (Dw n6 5 l6), (dI x7), (dI x8), (dI x9), (dI x10)])] [(D.agg [(dI x0), (dI x1), (dI x2), (dI x3), (dI x4), (dI x5), (Dw n6 5 l6), (dI x7), (dI x8), (dI x9), (dI x10)])]) ∧
 (((Qv (Value.agg [(vI x13), (vI x14), (vI x15), (Value.slice none 0 0)].toArray)) ∧
 True) ∧
 ((Says C 21 [(D.agg [(dI x13), (dI x14), (dI x15), D.nil])] [(D.agg [(dI x13), (dI x14), (dI x15), (D.sl 0 1 [])])]) ∧
 (True ∧
 (bcase (dL n6 5 (Tk n6 5 l6))
 (∃ n1 : Int,
 (∃ n2 : Int,
 ((Says C 20 [(D.agg [(dI x0), (dI x1), (dI x2), (dI x3), (dI x4), (dI x5), (Dw n6 5 (Tk n6 5 l6)), (dI x7), (dI x8), (dI x9), (dI x10)]), (D.agg [(dI x13), (dI x14), (dI x15), (D.sl 0 1 [])])] [(dI n1), (dI n2)]) ∧
 (((Qv (vI n2)) ∧
 ((Qv (vI n1)) ∧
 ((Qv (Value.tuple [(vI n1), (vI n2)].toArray)) ∧
 True))) ∧
 (((Qv (vI n2)) ∧
 True) ∧
 (True ∧
 (((Qv (Value.agg [(vI x13), (vI x14), (vI x15), (Value.slice none 0 0)].toArray)) ∧
 ((Qv (Value.agg [(Value.string (s11)), (Sl 501 (n12) (c12))].toArray)) ∧
 ((Qv (Value.agg [(vI x0), (vI x1), (vI x2), (vI x3), (vI x4), (vI x5), (Sl 500 (n6) (c6)), (vI x7), (vI x8), (vI x9), (vI x10)].toArray)) ∧
 True))) ∧
 (bcase (dL n6 5 l6)
 ((Says C 9 [(D.agg [(dI x0), (dI x1), (dI x2), (dI x3), (dI x4), (dI x5), (Dw n6 5 l6), (dI x7), (dI x8), (dI x9), (dI x10)])] [(D.agg [(dI x0), (dI x1), (dI x2), (dI x3), (dI x4), (dI x5), (Dw n6 5 l6), (dI x7), (dI x8), (dI x9), (dI x10)])]) ∧
 (((Qv (Value.agg [(vI x13), (vI x14), (vI x15), (Value.slice none 0 0)].toArray)) ∧
 ((Qv (Value.agg [(Value.string (s11)), (Sl 501 (n12) (c12))].toArray)) ∧
 True)) ∧
 (bcase (dL n12 1 l12)
 ((Says C 11 [(D.agg [(D.val (Value.string (s11))), (Dw n12 1 l12)])] [(D.agg [(D.val (Value.string (s11))), (Dw n12 1 l12)])]) ∧
 (((Qv (Value.agg [(vI x13), (vI x14), (vI x15), (Value.slice none 0 0)].toArray)) ∧
 True) ∧
 ((Says C 21 [(D.agg [(dI x13), (dI x14), (dI x15), D.nil])] [(D.agg [(dI x13), (dI x14), (dI x15), (D.sl 0 1 [])])]) ∧
 (True ∧
 (bcase (dL n6 5 (Tk n6 5 l6))
 (bcase (dL n12 1 (Tk n12 1 l12))
 (((∃ n3 : Int,
 ((Says C 22 [(D.agg [(dI x0), (dI x1), (dI x2), (dI x3), (dI x4), (dI x5), (Dw n6 5 (Tk n6 5 l6)), (dI x7), (dI x8), (dI x9), (dI x10)]), (D.agg [(D.val (Value.string (s11))), (Dw n12 1 (Tk n12 1 l12))]), (D.agg [(dI x13), (dI x14), (dI x15), (D.sl 0 1 [])])] [D.nil, (D.val (Value.bool true)), (dI n3)]) ∧
 (((Qv (vI n3)) ∧
 (Qb ∧
 ((Qv (Value.slice none 0 0)) ∧
 ((Qv (Value.tuple [(Value.slice none 0 0), (Value.bool true), (vI n3)].toArray)) ∧
 True)))) ∧
 (((Qv (vI n3)) ∧
 (Qb ∧
 True)) ∧
 (((Qv (vI n3)) ∧
 True) ∧
 (True ∧
 (bcase (dL n6 5 l6)
 (∃ n4 : Int,
 ((Says C 23 [(D.agg [(dI x0), (dI x1), (dI x2), (dI x3), (dI x4), (dI x5), (Dw n6 5 l6), (dI x7), (dI x8), (dI x9), (dI x10)])] [(dI n4)]) ∧
 (bcase (n4 != 0)
 (bcase (n2 == n4)
 (bcase (n3 == n4)
 (bcase (n1 == 0)
 (k kF)
 (k kF))
 (k kF))
 (k kF))
 (bcase (dL n6 5 l6)
 (∃ n5 : Int,
 (∃ n7 : Int,
 ((Says C 24 [(D.agg [(dI x0), (dI x1), (dI x2), (dI x3), (dI x4), (dI x5), (Dw n6 5 l6), (dI x7), (dI x8), (dI x9), (dI x10)]), (D.agg [(dI x13), (dI x14), (dI x15), D.nil])] [(dI n5), (dI n7)]) ∧
 (bcase (n2 != n7)
 (k kF)
 (bcase (n1 != n5)
 (k kF)
 (bcase (dL n6 5 l6)
 (bcase (dL n12 1 l12)
 (∃ n8 : Int,
 ((Says C 25 [(D.agg [(dI x0), (dI x1), (dI x2), (dI x3), (dI x4), (dI x5), (Dw n6 5 l6), (dI x7), (dI x8), (dI x9), (dI x10)]), (D.agg [(D.val (Value.string (s11))), (Dw n12 1 l12)])] [(dI n8)]) ∧
 (bcase (n8 == 0)
 (bcase (n7 != 0)
 (bcase (n3 == n7)
 (k kF)
 (k kF))
 (bcase (dL n6 5 l6)
 (bcase (dL n12 1 l12)
 ((((Says C 26 [(D.agg [(dI x0), (dI x1), (dI x2), (dI x3), (dI x4), (dI x5), (Dw n6 5 l6), (dI x7), (dI x8), (dI x9), (dI x10)]), (D.agg [(D.val (Value.string (s11))), (Dw n12 1 l12)]), (D.agg [(dI x13), (dI x14), (dI x15), D.nil])] [D.nil, (D.val (Value.bool true))]) ∧
 (bcase (n3 == 0)
 (((Says C 16 [D.nil, D.nil] kT) ∧
 (k kT)) ∨
 ((Says C 16 [D.nil, D.nil] kF) ∧
 (k kF)))
 (k kF))) ∨
 ((Says C 26 [(D.agg [(dI x0), (dI x1), (dI x2), (dI x3), (dI x4), (dI x5), (Dw n6 5 l6), (dI x7), (dI x8), (dI x9), (dI x10)]), (D.agg [(D.val (Value.string (s11))), (Dw n12 1 l12)]), (D.agg [(dI x13), (dI x14), (dI x15), D.nil])] [D.nil, (D.val (Value.bool false))]) ∧
 (bcase (n3 == 0)
 (((Says C 16 [D.nil, D.nil] kT) ∧
 (k kF)) ∨
 ((Says C 16 [D.nil, D.nil] kF) ∧
 (k kF)))
 (k kF)))) ∨
 (∃ n9 : Nat,
 (∃ cs1 : List Go.Value,
 (((Says C 26 [(D.agg [(dI x0), (dI x1), (dI x2), (dI x3), (dI x4), (dI x5), (Dw n6 5 l6), (dI x7), (dI x8), (dI x9), (dI x10)]), (D.agg [(D.val (Value.string (s11))), (Dw n12 1 l12)]), (D.agg [(dI x13), (dI x14), (dI x15), D.nil])] [(D.sl (n9) 2 (cs1)), (D.val (Value.bool true))]) ∧
 (bcase (n3 == 0)
 (bcase (dL n9 2 cs1)
 (((Says C 16 [D.nil, (Dw n9 2 cs1)] kT) ∧
 (k kT)) ∨
 ((Says C 16 [D.nil, (Dw n9 2 cs1)] kF) ∧
 (k kF)))
 False)
 (k kF))) ∨
 ((Says C 26 [(D.agg [(dI x0), (dI x1), (dI x2), (dI x3), (dI x4), (dI x5), (Dw n6 5 l6), (dI x7), (dI x8), (dI x9), (dI x10)]), (D.agg [(D.val (Value.string (s11))), (Dw n12 1 l12)]), (D.agg [(dI x13), (dI x14), (dI x15), D.nil])] [(D.sl (n9) 2 (cs1)), (D.val (Value.bool false))]) ∧
 (bcase (n3 == 0)
 (bcase (dL n9 2 cs1)
 (((Says C 16 [D.nil, (Dw n9 2 cs1)] kT) ∧
 (k kF)) ∨
 ((Says C 16 [D.nil, (Dw n9 2 cs1)] kF) ∧
 (k kF)))
 False)
 (k kF)))))))
 False)
 False))
 (bcase (n8 != 0)
 (bcase (n3 == n8)
 (k kF)
 (k kF))
 (bcase (dL n6 5 l6)
 (bcase (dL n12 1 l12)
 ((((Says C 26 [(D.agg [(dI x0), (dI x1), (dI x2), (dI x3), (dI x4), (dI x5), (Dw n6 5 l6), (dI x7), (dI x8), (dI x9), (dI x10)]), (D.agg [(D.val (Value.string (s11))), (Dw n12 1 l12)]), (D.agg [(dI x13), (dI x14), (dI x15), D.nil])] [D.nil, (D.val (Value.bool true))]) ∧
 (bcase (n3 == 0)
 (((Says C 16 [D.nil, D.nil] kT) ∧
 (k kT)) ∨
 ((Says C 16 [D.nil, D.nil] kF) ∧
 (k kF)))
 (k kF))) ∨
 ((Says C 26 [(D.agg [(dI x0), (dI x1), (dI x2), (dI x3), (dI x4), (dI x5), (Dw n6 5 l6), (dI x7), (dI x8), (dI x9), (dI x10)]), (D.agg [(D.val (Value.string (s11))), (Dw n12 1 l12)]), (D.agg [(dI x13), (dI x14), (dI x15), D.nil])] [D.nil, (D.val (Value.bool false))]) ∧
 (bcase (n3 == 0)
 (((Says C 16 [D.nil, D.nil] kT) ∧
 (k kF)) ∨
 ((Says C 16 [D.nil, D.nil] kF) ∧
 (k kF)))
 (k kF)))) ∨
 (∃ n9 : Nat,
 (∃ cs1 : List Go.Value,
 (((Says C 26 [(D.agg [(dI x0), (dI x1), (dI x2), (dI x3), (dI x4), (dI x5), (Dw n6 5 l6), (dI x7), (dI x8), (dI x9), (dI x10)]), (D.agg [(D.val (Value.string (s11))), (Dw n12 1 l12)]), (D.agg [(dI x13), (dI x14), (dI x15), D.nil])] [(D.sl (n9) 2 (cs1)), (D.val (Value.bool true))]) ∧
 (bcase (n3 == 0)
 (bcase (dL n9 2 cs1)
 (((Says C 16 [D.nil, (Dw n9 2 cs1)] kT) ∧
 (k kT)) ∨
 ((Says C 16 [D.nil, (Dw n9 2 cs1)] kF) ∧
 (k kF)))
 False)
 (k kF))) ∨
 ((Says C 26 [(D.agg [(dI x0), (dI x1), (dI x2), (dI x3), (dI x4), (dI x5), (Dw n6 5 l6), (dI x7), (dI x8), (dI x9), (dI x10)]), (D.agg [(D.val (Value.string (s11))), (Dw n12 1 l12)]), (D.agg [(dI x13), (dI x14), (dI x15), D.nil])] [(D.sl (n9) 2 (cs1)), (D.val (Value.bool false))]) ∧
 (bcase (n3 == 0)
 (bcase (dL n9 2 cs1)
 (((Says C 16 [D.nil, (Dw n9 2 cs1)] kT) ∧
 (k kF)) ∨
 ((Says C 16 [D.nil, (Dw n9 2 cs1)] kF) ∧
 (k kF)))
 False)
 (k kF)))))))
 False)
 False)))))
 False)
 False))))))
 False))))
 False))))))) ∨
 (∃ n3 : Int,
 ((Says C 22 [(D.agg [(dI x0), (dI x1), (dI x2), (dI x3), (dI x4), (dI x5), (Dw n6 5 (Tk n6 5 l6)), (dI x7), (dI x8), (dI x9), (dI x10)]), (D.agg [(D.val (Value.string (s11))), (Dw n12 1 (Tk n12 1 l12))]), (D.agg [(dI x13), (dI x14), (dI x15), (D.sl 0 1 [])])] [D.nil, (D.val (Value.bool false)), (dI n3)]) ∧
 (((Qv (vI n3)) ∧
 (Qf ∧
 ((Qv (Value.slice none 0 0)) ∧
 ((Qv (Value.tuple [(Value.slice none 0 0), (Value.bool false), (vI n3)].toArray)) ∧
 True)))) ∧
 (((Qv (vI n3)) ∧
 (Qf ∧
 True)) ∧
 (((Qv (vI n3)) ∧
 True) ∧
 (True ∧
 (bcase (dL n6 5 l6)
 (∃ n4 : Int,
 ((Says C 23 [(D.agg [(dI x0), (dI x1), (dI x2), (dI x3), (dI x4), (dI x5), (Dw n6 5 l6), (dI x7), (dI x8), (dI x9), (dI x10)])] [(dI n4)]) ∧
 (bcase (n4 != 0)
 (bcase (n2 == n4)
 (bcase (n3 == n4)
 (bcase (n1 == 0)
 (k kT)
 (k kF))
 (k kF))
 (k kF))
 (bcase (dL n6 5 l6)
 (∃ n5 : Int,
 (∃ n7 : Int,
 ((Says C 24 [(D.agg [(dI x0), (dI x1), (dI x2), (dI x3), (dI x4), (dI x5), (Dw n6 5 l6), (dI x7), (dI x8), (dI x9), (dI x10)]), (D.agg [(dI x13), (dI x14), (dI x15), D.nil])] [(dI n5), (dI n7)]) ∧
 (bcase (n2 != n7)
 (k kF)
 (bcase (n1 != n5)
 (k kF)
 (bcase (dL n6 5 l6)
 (bcase (dL n12 1 l12)
 (∃ n8 : Int,
 ((Says C 25 [(D.agg [(dI x0), (dI x1), (dI x2), (dI x3), (dI x4), (dI x5), (Dw n6 5 l6), (dI x7), (dI x8), (dI x9), (dI x10)]), (D.agg [(D.val (Value.string (s11))), (Dw n12 1 l12)])] [(dI n8)]) ∧
 (bcase (n8 == 0)
 (bcase (n7 != 0)
 (bcase (n3 == n7)
 (k kT)
 (k kF))
 (bcase (dL n6 5 l6)
 (bcase (dL n12 1 l12)
 ((((Says C 26 [(D.agg [(dI x0), (dI x1), (dI x2), (dI x3), (dI x4), (dI x5), (Dw n6 5 l6), (dI x7), (dI x8), (dI x9), (dI x10)]), (D.agg [(D.val (Value.string (s11))), (Dw n12 1 l12)]), (D.agg [(dI x13), (dI x14), (dI x15), D.nil])] [D.nil, (D.val (Value.bool true))]) ∧
 (bcase (n3 == 0)
 (((Says C 16 [D.nil, D.nil] kT) ∧
 (k kF)) ∨
 ((Says C 16 [D.nil, D.nil] kF) ∧
 (k kF)))
 (k kF))) ∨
 ((Says C 26 [(D.agg [(dI x0), (dI x1), (dI x2), (dI x3), (dI x4), (dI x5), (Dw n6 5 l6), (dI x7), (dI x8), (dI x9), (dI x10)]), (D.agg [(D.val (Value.string (s11))), (Dw n12 1 l12)]), (D.agg [(dI x13), (dI x14), (dI x15), D.nil])] [D.nil, (D.val (Value.bool false))]) ∧
 (bcase (n3 == 0)
 (((Says C 16 [D.nil, D.nil] kT) ∧
 (k kT)) ∨
 ((Says C 16 [D.nil, D.nil] kF) ∧
 (k kF)))
 (k kF)))) ∨
 (∃ n9 : Nat,
 (∃ cs1 : List Go.Value,
 (((Says C 26 [(D.agg [(dI x0), (dI x1), (dI x2), (dI x3), (dI x4), (dI x5), (Dw n6 5 l6), (dI x7), (dI x8), (dI x9), (dI x10)]), (D.agg [(D.val (Value.string (s11))), (Dw n12 1 l12)]), (D.agg [(dI x13), (dI x14), (dI x15), D.nil])] [(D.sl (n9) 2 (cs1)), (D.val (Value.bool true))]) ∧
 (bcase (n3 == 0)
 (bcase (dL n9 2 cs1)
 (((Says C 16 [D.nil, (Dw n9 2 cs1)] kT) ∧
 (k kF)) ∨
 ((Says C 16 [D.nil, (Dw n9 2 cs1)] kF) ∧
 (k kF)))
 False)
 (k kF))) ∨
 ((Says C 26 [(D.agg [(dI x0), (dI x1), (dI x2), (dI x3), (dI x4), (dI x5), (Dw n6 5 l6), (dI x7), (dI x8), (dI x9), (dI x10)]), (D.agg [(D.val (Value.string (s11))), (Dw n12 1 l12)]), (D.agg [(dI x13), (dI x14), (dI x15), D.nil])] [(D.sl (n9) 2 (cs1)), (D.val (Value.bool false))]) ∧
 (bcase (n3 == 0)
 (bcase (dL n9 2 cs1)
 (((Says C 16 [D.nil, (Dw n9 2 cs1)] kT) ∧
 (k kT)) ∨
 ((Says C 16 [D.nil, (Dw n9 2 cs1)] kF) ∧
 (k kF)))
 False)
 (k kF)))))))
 False)
 False))
 (bcase (n8 != 0)
 (bcase (n3 == n8)
 (k kT)
 (k kF))
 (bcase (dL n6 5 l6)
 (bcase (dL n12 1 l12)
 ((((Says C 26 [(D.agg [(dI x0), (dI x1), (dI x2), (dI x3), (dI x4), (dI x5), (Dw n6 5 l6), (dI x7), (dI x8), (dI x9), (dI x10)]), (D.agg [(D.val (Value.string (s11))), (Dw n12 1 l12)]), (D.agg [(dI x13), (dI x14), (dI x15), D.nil])] [D.nil, (D.val (Value.bool true))]) ∧
 (bcase (n3 == 0)
 (((Says C 16 [D.nil, D.nil] kT) ∧
 (k kF)) ∨
 ((Says C 16 [D.nil, D.nil] kF) ∧
 (k kF)))
 (k kF))) ∨
 ((Says C 26 [(D.agg [(dI x0), (dI x1), (dI x2), (dI x3), (dI x4), (dI x5), (Dw n6 5 l6), (dI x7), (dI x8), (dI x9), (dI x10)]), (D.agg [(D.val (Value.string (s11))), (Dw n12 1 l12)]), (D.agg [(dI x13), (dI x14), (dI x15), D.nil])] [D.nil, (D.val (Value.bool false))]) ∧
 (bcase (n3 == 0)
 (((Says C 16 [D.nil, D.nil] kT) ∧
 (k kT)) ∨
 ((Says C 16 [D.nil, D.nil] kF) ∧
 (k kF)))
 (k kF)))) ∨
 (∃ n9 : Nat,
 (∃ cs1 : List Go.Value,
 (((Says C 26 [(D.agg [(dI x0), (dI x1), (dI x2), (dI x3), (dI x4), (dI x5), (Dw n6 5 l6), (dI x7), (dI x8), (dI x9), (dI x10)]), (D.agg [(D.val (Value.string (s11))), (Dw n12 1 l12)]), (D.agg [(dI x13), (dI x14), (dI x15), D.nil])] [(D.sl (n9) 2 (cs1)), (D.val (Value.bool true))]) ∧
 (bcase (n3 == 0)
 (bcase (dL n9 2 cs1)
 (((Says C 16 [D.nil, (Dw n9 2 cs1)] kT) ∧
 (k kF)) ∨
 ((Says C 16 [D.nil, (Dw n9 2 cs1)] kF) ∧
 (k kF)))
 False)
 (k kF))) ∨
 ((Says C 26 [(D.agg [(dI x0), (dI x1), (dI x2), (dI x3), (dI x4), (dI x5), (Dw n6 5 l6), (dI x7), (dI x8), (dI x9), (dI x10)]), (D.agg [(D.val (Value.string (s11))), (Dw n12 1 l12)]), (D.agg [(dI x13), (dI x14), (dI x15), D.nil])] [(D.sl (n9) 2 (cs1)), (D.val (Value.bool false))]) ∧
 (bcase (n3 == 0)
 (bcase (dL n9 2 cs1)
 (((Says C 16 [D.nil, (Dw n9 2 cs1)] kT) ∧
 (k kT)) ∨
 ((Says C 16 [D.nil, (Dw n9 2 cs1)] kF) ∧
 (k kF)))
 False)
 (k kF)))))))
 False)
 False)))))
 False)
 False))))))
 False))))
 False)))))))) ∨
 (∃ n3 : Nat,
 (∃ cs1 : List Go.Value,
 ((∃ n4 : Int,
 ((Says C 22 [(D.agg [(dI x0), (dI x1), (dI x2), (dI x3), (dI x4), (dI x5), (Dw n6 5 (Tk n6 5 l6)), (dI x7), (dI x8), (dI x9), (dI x10)]), (D.agg [(D.val (Value.string (s11))), (Dw n12 1 (Tk n12 1 l12))]), (D.agg [(dI x13), (dI x14), (dI x15), (D.sl 0 1 [])])] [(D.sl (n3) 2 (cs1)), (D.val (Value.bool true)), (dI n4)]) ∧
 (((Qv (vI n4)) ∧
 (Qb ∧
 ((Qv (Sl 1010 (n3) (n3))) ∧
 ((Qv (Value.tuple [(Sl 1010 (n3) (n3)), (Value.bool true), (vI n4)].toArray)) ∧
 True)))) ∧
 (((Qv (vI n4)) ∧
 (Qb ∧
 True)) ∧
 (((Qv (vI n4)) ∧
 True) ∧
 (True ∧
 (bcase (dL n6 5 l6)
 (∃ n5 : Int,
 ((Says C 23 [(D.agg [(dI x0), (dI x1), (dI x2), (dI x3), (dI x4), (dI x5), (Dw n6 5 l6), (dI x7), (dI x8), (dI x9), (dI x10)])] [(dI n5)]) ∧
 (bcase (n5 != 0)
 (bcase (n2 == n5)
 (bcase (n4 == n5)
 (bcase (n1 == 0)
 (bcase ((↑n3 : Int) == 0)
 (k kF)
 (k kF))
 (k kF))
 (k kF))
 (k kF))
 (bcase (dL n6 5 l6)
 (∃ n7 : Int,
 (∃ n8 : Int,
 ((Says C 24 [(D.agg [(dI x0), (dI x1), (dI x2), (dI x3), (dI x4), (dI x5), (Dw n6 5 l6), (dI x7), (dI x8), (dI x9), (dI x10)]), (D.agg [(dI x13), (dI x14), (dI x15), D.nil])] [(dI n7), (dI n8)]) ∧
 (bcase (n2 != n8)
 (k kF)
 (bcase (n1 != n7)
 (k kF)
 (bcase (dL n6 5 l6)
 (bcase (dL n12 1 l12)
 (∃ n9 : Int,
 ((Says C 25 [(D.agg [(dI x0), (dI x1), (dI x2), (dI x3), (dI x4), (dI x5), (Dw n6 5 l6), (dI x7), (dI x8), (dI x9), (dI x10)]), (D.agg [(D.val (Value.string (s11))), (Dw n12 1 l12)])] [(dI n9)]) ∧
 (bcase (n9 == 0)
 (bcase (n8 != 0)
 (bcase (n4 == n8)
 (bcase ((↑n3 : Int) == 0)
 (k kF)
 (k kF))
 (k kF))
 (bcase (dL n6 5 l6)
 (bcase (dL n12 1 l12)
 ((((Says C 26 [(D.agg [(dI x0), (dI x1), (dI x2), (dI x3), (dI x4), (dI x5), (Dw n6 5 l6), (dI x7), (dI x8), (dI x9), (dI x10)]), (D.agg [(D.val (Value.string (s11))), (Dw n12 1 l12)]), (D.agg [(dI x13), (dI x14), (dI x15), D.nil])] [D.nil, (D.val (Value.bool true))]) ∧
 (bcase (n4 == 0)
 (bcase (dL n3 2 cs1)
 (((Says C 16 [(Dw n3 2 cs1), D.nil] kT) ∧
 (k kT)) ∨
 ((Says C 16 [(Dw n3 2 cs1), D.nil] kF) ∧
 (k kF)))
 False)
 (k kF))) ∨
 ((Says C 26 [(D.agg [(dI x0), (dI x1), (dI x2), (dI x3), (dI x4), (dI x5), (Dw n6 5 l6), (dI x7), (dI x8), (dI x9), (dI x10)]), (D.agg [(D.val (Value.string (s11))), (Dw n12 1 l12)]), (D.agg [(dI x13), (dI x14), (dI x15), D.nil])] [D.nil, (D.val (Value.bool false))]) ∧
 (bcase (n4 == 0)
 (bcase (dL n3 2 cs1)
 (((Says C 16 [(Dw n3 2 cs1), D.nil] kT) ∧
 (k kF)) ∨
 ((Says C 16 [(Dw n3 2 cs1), D.nil] kF) ∧
 (k kF)))
 False)
 (k kF)))) ∨
 (∃ n10 : Nat,
 (∃ cs2 : List Go.Value,
 (((Says C 26 [(D.agg [(dI x0), (dI x1), (dI x2), (dI x3), (dI x4), (dI x5), (Dw n6 5 l6), (dI x7), (dI x8), (dI x9), (dI x10)]), (D.agg [(D.val (Value.string (s11))), (Dw n12 1 l12)]), (D.agg [(dI x13), (dI x14), (dI x15), D.nil])] [(D.sl (n10) 2 (cs2)), (D.val (Value.bool true))]) ∧
 (bcase (n4 == 0)
 (bcase (dL n3 2 cs1)
 (bcase (dL n10 2 cs2)
 (((Says C 16 [(Dw n3 2 cs1), (Dw n10 2 cs2)] kT) ∧
 (k kT)) ∨
 ((Says C 16 [(Dw n3 2 cs1), (Dw n10 2 cs2)] kF) ∧
 (k kF)))
 False)
 False)
 (k kF))) ∨
 ((Says C 26 [(D.agg [(dI x0), (dI x1), (dI x2), (dI x3), (dI x4), (dI x5), (Dw n6 5 l6), (dI x7), (dI x8), (dI x9), (dI x10)]), (D.agg [(D.val (Value.string (s11))), (Dw n12 1 l12)]), (D.agg [(dI x13), (dI x14), (dI x15), D.nil])] [(D.sl (n10) 2 (cs2)), (D.val (Value.bool false))]) ∧
 (bcase (n4 == 0)
 (bcase (dL n3 2 cs1)
 (bcase (dL n10 2 cs2)
 (((Says C 16 [(Dw n3 2 cs1), (Dw n10 2 cs2)] kT) ∧
 (k kF)) ∨
 ((Says C 16 [(Dw n3 2 cs1), (Dw n10 2 cs2)] kF) ∧
 (k kF)))
 False)
 False)
 (k kF)))))))
 False)
 False))
 (bcase (n9 != 0)
 (bcase (n4 == n9)
 (bcase ((↑n3 : Int) == 0)
 (k kF)
 (k kF))
 (k kF))
 (bcase (dL n6 5 l6)
 (bcase (dL n12 1 l12)
 ((((Says C 26 [(D.agg [(dI x0), (dI x1), (dI x2), (dI x3), (dI x4), (dI x5), (Dw n6 5 l6), (dI x7), (dI x8), (dI x9), (dI x10)]), (D.agg [(D.val (Value.string (s11))), (Dw n12 1 l12)]), (D.agg [(dI x13), (dI x14), (dI x15), D.nil])] [D.nil, (D.val (Value.bool true))]) ∧
 (bcase (n4 == 0)
 (bcase (dL n3 2 cs1)
 (((Says C 16 [(Dw n3 2 cs1), D.nil] kT) ∧
 (k kT)) ∨
 ((Says C 16 [(Dw n3 2 cs1), D.nil] kF) ∧
 (k kF)))
 False)
 (k kF))) ∨
 ((Says C 26 [(D.agg [(dI x0), (dI x1), (dI x2), (dI x3), (dI x4), (dI x5), (Dw n6 5 l6), (dI x7), (dI x8), (dI x9), (dI x10)]), (D.agg [(D.val (Value.string (s11))), (Dw n12 1 l12)]), (D.agg [(dI x13), (dI x14), (dI x15), D.nil])] [D.nil, (D.val (Value.bool false))]) ∧
 (bcase (n4 == 0)
 (bcase (dL n3 2 cs1)
 (((Says C 16 [(Dw n3 2 cs1), D.nil] kT) ∧
 (k kF)) ∨
 ((Says C 16 [(Dw n3 2 cs1), D.nil] kF) ∧
 (k kF)))
 False)
 (k kF)))) ∨
 (∃ n10 : Nat,
 (∃ cs2 : List Go.Value,
 (((Says C 26 [(D.agg [(dI x0), (dI x1), (dI x2), (dI x3), (dI x4), (dI x5), (Dw n6 5 l6), (dI x7), (dI x8), (dI x9), (dI x10)]), (D.agg [(D.val (Value.string (s11))), (Dw n12 1 l12)]), (D.agg [(dI x13), (dI x14), (dI x15), D.nil])] [(D.sl (n10) 2 (cs2)), (D.val (Value.bool true))]) ∧
 (bcase (n4 == 0)
 (bcase (dL n3 2 cs1)
 (bcase (dL n10 2 cs2)
 (((Says C 16 [(Dw n3 2 cs1), (Dw n10 2 cs2)] kT) ∧
 (k kT)) ∨
 ((Says C 16 [(Dw n3 2 cs1), (Dw n10 2 cs2)] kF) ∧
 (k kF)))
 False)
 False)
 (k kF))) ∨
 ((Says C 26 [(D.agg [(dI x0), (dI x1), (dI x2), (dI x3), (dI x4), (dI x5), (Dw n6 5 l6), (dI x7), (dI x8), (dI x9), (dI x10)]), (D.agg [(D.val (Value.string (s11))), (Dw n12 1 l12)]), (D.agg [(dI x13), (dI x14), (dI x15), D.nil])] [(D.sl (n10) 2 (cs2)), (D.val (Value.bool false))]) ∧
 (bcase (n4 == 0)
 (bcase (dL n3 2 cs1)
 (bcase (dL n10 2 cs2)
 (((Says C 16 [(Dw n3 2 cs1), (Dw n10 2 cs2)] kT) ∧
 (k kF)) ∨
 ((Says C 16 [(Dw n3 2 cs1), (Dw n10 2 cs2)] kF) ∧
 (k kF)))
 False)
 False)
 (k kF)))))))
 False)
 False)))))
 False)
 False))))))
 False))))
 False))))))) ∨
 (∃ n4 : Int,
 ((Says C 22 [(D.agg [(dI x0), (dI x1), (dI x2), (dI x3), (dI x4), (dI x5), (Dw n6 5 (Tk n6 5 l6)), (dI x7), (dI x8), (dI x9), (dI x10)]), (D.agg [(D.val (Value.string (s11))), (Dw n12 1 (Tk n12 1 l12))]), (D.agg [(dI x13), (dI x14), (dI x15), (D.sl 0 1 [])])] [(D.sl (n3) 2 (cs1)), (D.val (Value.bool false)), (dI n4)]) ∧
 (((Qv (vI n4)) ∧
 (Qf ∧
 ((Qv (Sl 1010 (n3) (n3))) ∧
 ((Qv (Value.tuple [(Sl 1010 (n3) (n3)), (Value.bool false), (vI n4)].toArray)) ∧
 True)))) ∧
 (((Qv (vI n4)) ∧
 (Qf ∧
 True)) ∧
 (((Qv (vI n4)) ∧
 True) ∧
 (True ∧
 (bcase (dL n6 5 l6)
 (∃ n5 : Int,
 ((Says C 23 [(D.agg [(dI x0), (dI x1), (dI x2), (dI x3), (dI x4), (dI x5), (Dw n6 5 l6), (dI x7), (dI x8), (dI x9), (dI x10)])] [(dI n5)]) ∧
 (bcase (n5 != 0)
 (bcase (n2 == n5)
 (bcase (n4 == n5)
 (bcase (n1 == 0)
 (bcase ((↑n3 : Int) == 0)
 (k kT)
 (k kF))
 (k kF))
 (k kF))
 (k kF))
 (bcase (dL n6 5 l6)
 (∃ n7 : Int,
 (∃ n8 : Int,
 ((Says C 24 [(D.agg [(dI x0), (dI x1), (dI x2), (dI x3), (dI x4), (dI x5), (Dw n6 5 l6), (dI x7), (dI x8), (dI x9), (dI x10)]), (D.agg [(dI x13), (dI x14), (dI x15), D.nil])] [(dI n7), (dI n8)]) ∧
 (bcase (n2 != n8)
 (k kF)
 (bcase (n1 != n7)
 (k kF)
 (bcase (dL n6 5 l6)
 (bcase (dL n12 1 l12)
 (∃ n9 : Int,
 ((Says C 25 [(D.agg [(dI x0), (dI x1), (dI x2), (dI x3), (dI x4), (dI x5), (Dw n6 5 l6), (dI x7), (dI x8), (dI x9), (dI x10)]), (D.agg [(D.val (Value.string (s11))), (Dw n12 1 l12)])] [(dI n9)]) ∧
 (bcase (n9 == 0)
 (bcase (n8 != 0)
 (bcase (n4 == n8)
 (bcase ((↑n3 : Int) == 0)
 (k kT)
 (k kF))
 (k kF))
 (bcase (dL n6 5 l6)
 (bcase (dL n12 1 l12)
 ((((Says C 26 [(D.agg [(dI x0), (dI x1), (dI x2), (dI x3), (dI x4), (dI x5), (Dw n6 5 l6), (dI x7), (dI x8), (dI x9), (dI x10)]), (D.agg [(D.val (Value.string (s11))), (Dw n12 1 l12)]), (D.agg [(dI x13), (dI x14), (dI x15), D.nil])] [D.nil, (D.val (Value.bool true))]) ∧
 (bcase (n4 == 0)
 (bcase (dL n3 2 cs1)
 (((Says C 16 [(Dw n3 2 cs1), D.nil] kT) ∧
 (k kF)) ∨
 ((Says C 16 [(Dw n3 2 cs1), D.nil] kF) ∧
 (k kF)))
 False)
 (k kF))) ∨
 ((Says C 26 [(D.agg [(dI x0), (dI x1), (dI x2), (dI x3), (dI x4), (dI x5), (Dw n6 5 l6), (dI x7), (dI x8), (dI x9), (dI x10)]), (D.agg [(D.val (Value.string (s11))), (Dw n12 1 l12)]), (D.agg [(dI x13), (dI x14), (dI x15), D.nil])] [D.nil, (D.val (Value.bool false))]) ∧
 (bcase (n4 == 0)
 (bcase (dL n3 2 cs1)
 (((Says C 16 [(Dw n3 2 cs1), D.nil] kT) ∧
 (k kT)) ∨
 ((Says C 16 [(Dw n3 2 cs1), D.nil] kF) ∧
 (k kF)))
 False)
 (k kF)))) ∨
 (∃ n10 : Nat,
 (∃ cs2 : List Go.Value,
 (((Says C 26 [(D.agg [(dI x0), (dI x1), (dI x2), (dI x3), (dI x4), (dI x5), (Dw n6 5 l6), (dI x7), (dI x8), (dI x9), (dI x10)]), (D.agg [(D.val (Value.string (s11))), (Dw n12 1 l12)]), (D.agg [(dI x13), (dI x14), (dI x15), D.nil])] [(D.sl (n10) 2 (cs2)), (D.val (Value.bool true))]) ∧
 (bcase (n4 == 0)
 (bcase (dL n3 2 cs1)
 (bcase (dL n10 2 cs2)
 (((Says C 16 [(Dw n3 2 cs1), (Dw n10 2 cs2)] kT) ∧
 (k kF)) ∨
 ((Says C 16 [(Dw n3 2 cs1), (Dw n10 2 cs2)] kF) ∧
 (k kF)))
 False)
 False)
 (k kF))) ∨
 ((Says C 26 [(D.agg [(dI x0), (dI x1), (dI x2), (dI x3), (dI x4), (dI x5), (Dw n6 5 l6), (dI x7), (dI x8), (dI x9), (dI x10)]), (D.agg [(D.val (Value.string (s11))), (Dw n12 1 l12)]), (D.agg [(dI x13), (dI x14), (dI x15), D.nil])] [(D.sl (n10) 2 (cs2)), (D.val (Value.bool false))]) ∧
 (bcase (n4 == 0)
 (bcase (dL n3 2 cs1)
 (bcase (dL n10 2 cs2)
 (((Says C 16 [(Dw n3 2 cs1), (Dw n10 2 cs2)] kT) ∧
 (k kT)) ∨
 ((Says C 16 [(Dw n3 2 cs1), (Dw n10 2 cs2)] kF) ∧
 (k kF)))
 False)
 False)
 (k kF)))))))
 False)
 False))
 (bcase (n9 != 0)
 (bcase (n4 == n9)
 (bcase ((↑n3 : Int) == 0)
 (k kT)
 (k kF))
 (k kF))
 (bcase (dL n6 5 l6)
 (bcase (dL n12 1 l12)
 ((((Says C 26 [(D.agg [(dI x0), (dI x1), (dI x2), (dI x3), (dI x4), (dI x5), (Dw n6 5 l6), (dI x7), (dI x8), (dI x9), (dI x10)]), (D.agg [(D.val (Value.string (s11))), (Dw n12 1 l12)]), (D.agg [(dI x13), (dI x14), (dI x15), D.nil])] [D.nil, (D.val (Value.bool true))]) ∧
 (bcase (n4 == 0)
 (bcase (dL n3 2 cs1)
 (((Says C 16 [(Dw n3 2 cs1), D.nil] kT) ∧
 (k kF)) ∨
 ((Says C 16 [(Dw n3 2 cs1), D.nil] kF) ∧
 (k kF)))
 False)
 (k kF))) ∨
 ((Says C 26 [(D.agg [(dI x0), (dI x1), (dI x2), (dI x3), (dI x4), (dI x5), (Dw n6 5 l6), (dI x7), (dI x8), (dI x9), (dI x10)]), (D.agg [(D.val (Value.string (s11))), (Dw n12 1 l12)]), (D.agg [(dI x13), (dI x14), (dI x15), D.nil])] [D.nil, (D.val (Value.bool false))]) ∧
 (bcase (n4 == 0)
 (bcase (dL n3 2 cs1)
 (((Says C 16 [(Dw n3 2 cs1), D.nil] kT) ∧
 (k kT)) ∨
 ((Says C 16 [(Dw n3 2 cs1), D.nil] kF) ∧
 (k kF)))
 False)
 (k kF)))) ∨
 (∃ n10 : Nat,
 (∃ cs2 : List Go.Value,
 (((Says C 26 [(D.agg [(dI x0), (dI x1), (dI x2), (dI x3), (dI x4), (dI x5), (Dw n6 5 l6), (dI x7), (dI x8), (dI x9), (dI x10)]), (D.agg [(D.val (Value.string (s11))), (Dw n12 1 l12)]), (D.agg [(dI x13), (dI x14), (dI x15), D.nil])] [(D.sl (n10) 2 (cs2)), (D.val (Value.bool true))]) ∧
 (bcase (n4 == 0)
 (bcase (dL n3 2 cs1)
 (bcase (dL n10 2 cs2)
 (((Says C 16 [(Dw n3 2 cs1), (Dw n10 2 cs2)] kT) ∧
 (k kF)) ∨
 ((Says C 16 [(Dw n3 2 cs1), (Dw n10 2 cs2)] kF) ∧
 (k kF)))
 False)
 False)
 (k kF))) ∨
 ((Says C 26 [(D.agg [(dI x0), (dI x1), (dI x2), (dI x3), (dI x4), (dI x5), (Dw n6 5 l6), (dI x7), (dI x8), (dI x9), (dI x10)]), (D.agg [(D.val (Value.string (s11))), (Dw n12 1 l12)]), (D.agg [(dI x13), (dI x14), (dI x15), D.nil])] [(D.sl (n10) 2 (cs2)), (D.val (Value.bool false))]) ∧
 (bcase (n4 == 0)
 (bcase (dL n3 2 cs1)
 (bcase (dL n10 2 cs2)
 (((Says C 16 [(Dw n3 2 cs1), (Dw n10 2 cs2)] kT) ∧
 (k kT)) ∨
 ((Says C 16 [(Dw n3 2 cs1), (Dw n10 2 cs2)] kF) ∧
 (k kF)))
 False)
 False)
 (k kF)))))))
 False)
 False)))))
 False)
 False))))))
 False))))
 False)))))))))))
 False)
 False)))))
 False)))
 False))))))))
 False)))))
 False))
 (k kT))
 (k kT))
 (k kT))) ∨
 ((Says C 6 [] kF) ∧
 (k kF))) := by kernel_rfl
def gM2 (C : Ct) (L : AtLoop) (x0 : Int) (x1 : Int) (x2 : Int) (x3 : Int) (x4 : Int) (x5 : Int) (n6 : Nat) (c6 : Nat) (l6 : List Value) (x7 : Int) (x8 : Int) (x9 : Int) (x10 : Int) (s11 : ByteArray) (x13 : Int) (x14 : Int) (x15 : Int) (n16 : Nat) (c16 : Nat) (l16 : List Value) (k : List D → Prop) : Prop := wpFn Try.prog (hQ C) L 0 4 #[.agg #[.int .i64 x0, .int .i64 x1, .int .i64 x2, .int .i64 x3, .int .i64 x4, .int .i64 x5, .slice (some ⟨500, 0, none⟩) n6 c6, .int .i64 x7, .int .i64 x8, .int .i64 x9, .int .i64 x10], .agg #[.string s11, .slice none 0 0], .agg #[.int .i64 x13, .int .i64 x14, .int .i64 x15, .slice (some ⟨501, 0, none⟩) n16 c16]] (heapOf [(500, .sym l6 false 5), (501, .sym l16 false 1)]) (dataK k)
theorem gM2_text (C : Ct) (L : AtLoop) (x0 : Int) (x1 : Int) (x2 : Int) (x3 : Int) (x4 : Int) (x5 : Int) (n6 : Nat) (c6 : Nat) (l6 : List Go.Value) (x7 : Int) (x8 : Int) (x9 : Int) (x10 : Int) (s11 : ByteArray) (x13 : Int) (x14 : Int) (x15 : Int) (n16 : Nat) (c16 : Nat) (l16 : List Go.Value) (k : List D → Prop) : gM2 C L x0 x1 x2 x3 x4 x5 n6 c6 l6 x7 x8 x9 x10 s11 x13 x14 x15 n16 c16 l16 k =
 (((Says C 6 [] kT) ∧
 (bcase (decide ((↑n6 : Int) ≤ 8))
 (bcase (decide ((↑(ByteArray.size s11) : Int) ≤ 30))
 (bcase (decide ((↑n16 : Int) > 8))
 (k kT)
 (((Qv (Value.agg [(vI x13), (vI x14), (vI x15), (Sl 501 (n16) (c16))].toArray)) ∧
 ((Qv (Value.agg [(vI x0), (vI x1), (vI x2), (vI x3), (vI x4), (vI x5), (Sl 500 (n6) (c6)), (vI x7), (vI x8), (vI x9), (vI x10)].toArray)) ∧
 True)) ∧
 (bcase (dL n6 5 l6)
 ((Says C 9 [(D.agg [(dI x0), (dI x1), (dI x2), (dI x3), (dI x4), (dI x5), (Dw n6 5 l6), (dI x7), (dI x8), (dI x9), (dI x10)])] [(D.agg [(dI x0), (dI x1), (dI x2), (dI x3), (dI x4), (dI x5), (Dw n6 5 l6), (dI x7), (dI x8), (dI x9), (dI x10)])]) ∧
 (((Qv (Value.agg [(vI x13), (vI x14), (vI x15), (Sl 501 (n16) (c16))].toArray)) ∧
 True) ∧
 (bcase (dL n16 1 l16)
 ((Says C 21 [(D.agg [(dI x13), (dI x14), (dI x15), (Dw n16 1 l16)])] [(D.agg [(dI x13), (dI x14), (dI x15), (Dw n16 1 l16)])]) ∧
 (True ∧
 (bcase (dL n6 5 (Tk n6 5 l6))
 (bcase (dL n16 1 (Tk n16 1 l16))
 (∃ n1 : Int,
 (∃ n2 : Int,
 ((Says C 20 [(D.agg [(dI x0), (dI x1), (dI x2), (dI x3), (dI x4), (dI x5), (Dw n6 5 (Tk n6 5 l6)), (dI x7), (dI x8), (dI x9), (dI x10)]), (D.agg [(dI x13), (dI x14), (dI x15), (Dw n16 1 (Tk n16 1 l16))])] [(dI n1), (dI n2)]) ∧
 (((Qv (vI n2)) ∧
 ((Qv (vI n1)) ∧
 ((Qv (Value.tuple [(vI n1), (vI n2)].toArray)) ∧
 True))) ∧
 (((Qv (vI n2)) ∧
 True) ∧
 (True ∧
 (((Qv (Value.agg [(vI x13), (vI x14), (vI x15), (Sl 501 (n16) (c16))].toArray)) ∧
 ((Qv (Value.agg [(Value.string (s11)), (Value.slice none 0 0)].toArray)) ∧
 ((Qv (Value.agg [(vI x0), (vI x1), (vI x2), (vI x3), (vI x4), (vI x5), (Sl 500 (n6) (c6)), (vI x7), (vI x8), (vI x9), (vI x10)].toArray)) ∧
 True))) ∧
 (bcase (dL n6 5 l6)
 ((Says C 9 [(D.agg [(dI x0), (dI x1), (dI x2), (dI x3), (dI x4), (dI x5), (Dw n6 5 l6), (dI x7), (dI x8), (dI x9), (dI x10)])] [(D.agg [(dI x0), (dI x1), (dI x2), (dI x3), (dI x4), (dI x5), (Dw n6 5 l6), (dI x7), (dI x8), (dI x9), (dI x10)])]) ∧
 (((Qv (Value.agg [(vI x13), (vI x14), (vI x15), (Sl 501 (n16) (c16))].toArray)) ∧
 ((Qv (Value.agg [(Value.string (s11)), (Value.slice none 0 0)].toArray)) ∧
 True)) ∧
 ((Says C 11 [(D.agg [(D.val (Value.string (s11))), D.nil])] [(D.agg [(D.val (Value.string (s11))), (D.sl 0 1 [])])]) ∧
 (((Qv (Value.agg [(vI x13), (vI x14), (vI x15), (Sl 501 (n16) (c16))].toArray)) ∧
 True) ∧
 (bcase (dL n16 1 l16)
 ((Says C 21 [(D.agg [(dI x13), (dI x14), (dI x15), (Dw n16 1 l16)])] [(D.agg [(dI x13), (dI x14), (dI x15), (Dw n16 1 l16)])]) ∧
 (True ∧
 (bcase (dL n6 5 (Tk n6 5 l6))
 (bcase (dL n16 1 (Tk n16 1 l16))
 (((∃ n3 : Int,
 ((Says C 22 [(D.agg [(dI x0), (dI x1), (dI x2), (dI x3), (dI x4), (dI x5), (Dw n6 5 (Tk n6 5 l6)), (dI x7), (dI x8), (dI x9), (dI x10)]), (D.agg [(D.val (Value.string (s11))), (D.sl 0 1 [])]), (D.agg [(dI x13), (dI x14), (dI x15), (Dw n16 1 (Tk n16 1 l16))])] [D.nil, (D.val (Value.bool true)), (dI n3)]) ∧
 (((Qv (vI n3)) ∧
 (Qb ∧
 ((Qv (Value.slice none 0 0)) ∧
 ((Qv (Value.tuple [(Value.slice none 0 0), (Value.bool true), (vI n3)].toArray)) ∧
 True)))) ∧
 (((Qv (vI n3)) ∧
 (Qb ∧
 True)) ∧
 (((Qv (vI n3)) ∧
 True) ∧
 (True ∧
 (bcase (dL n6 5 l6)
 (∃ n4 : Int,
 ((Says C 23 [(D.agg [(dI x0), (dI x1), (dI x2), (dI x3), (dI x4), (dI x5), (Dw n6 5 l6), (dI x7), (dI x8), (dI x9), (dI x10)])] [(dI n4)]) ∧
 (bcase (n4 != 0)
 (bcase (n2 == n4)
 (bcase (n3 == n4)
 (bcase (n1 == 0)
 (k kF)
 (k kF))
 (k kF))
 (k kF))
 (bcase (dL n6 5 l6)
 (bcase (dL n16 1 l16)
 (∃ n5 : Int,
 (∃ n7 : Int,
 ((Says C 24 [(D.agg [(dI x0), (dI x1), (dI x2), (dI x3), (dI x4), (dI x5), (Dw n6 5 l6), (dI x7), (dI x8), (dI x9), (dI x10)]), (D.agg [(dI x13), (dI x14), (dI x15), (Dw n16 1 l16)])] [(dI n5), (dI n7)]) ∧
 (bcase (n2 != n7)
 (k kF)
 (bcase (n1 != n5)
 (k kF)
 (bcase (dL n6 5 l6)
 (∃ n8 : Int,
 ((Says C 25 [(D.agg [(dI x0), (dI x1), (dI x2), (dI x3), (dI x4), (dI x5), (Dw n6 5 l6), (dI x7), (dI x8), (dI x9), (dI x10)]), (D.agg [(D.val (Value.string (s11))), D.nil])] [(dI n8)]) ∧
 (bcase (n8 == 0)
 (bcase (n7 != 0)
 (bcase (n3 == n7)
 (k kF)
 (k kF))
 (bcase (dL n6 5 l6)
 (bcase (dL n16 1 l16)
 ((((Says C 26 [(D.agg [(dI x0), (dI x1), (dI x2), (dI x3), (dI x4), (dI x5), (Dw n6 5 l6), (dI x7), (dI x8), (dI x9), (dI x10)]), (D.agg [(D.val (Value.string (s11))), D.nil]), (D.agg [(dI x13), (dI x14), (dI x15), (Dw n16 1 l16)])] [D.nil, (D.val (Value.bool true))]) ∧
 (bcase (n3 == 0)
 (((Says C 16 [D.nil, D.nil] kT) ∧
 (k kT)) ∨
 ((Says C 16 [D.nil, D.nil] kF) ∧
 (k kF)))
 (k kF))) ∨
 ((Says C 26 [(D.agg [(dI x0), (dI x1), (dI x2), (dI x3), (dI x4), (dI x5), (Dw n6 5 l6), (dI x7), (dI x8), (dI x9), (dI x10)]), (D.agg [(D.val (Value.string (s11))), D.nil]), (D.agg [(dI x13), (dI x14), (dI x15), (Dw n16 1 l16)])] [D.nil, (D.val (Value.bool false))]) ∧
 (bcase (n3 == 0)
 (((Says C 16 [D.nil, D.nil] kT) ∧
 (k kF)) ∨
 ((Says C 16 [D.nil, D.nil] kF) ∧
 (k kF)))
 (k kF)))) ∨
 (∃ n9 : Nat,
 (∃ cs1 : List Go.Value,
 (((Says C 26 [(D.agg [(dI x0), (dI x1), (dI x2), (dI x3), (dI x4), (dI x5), (Dw n6 5 l6), (dI x7), (dI x8), (dI x9), (dI x10)]), (D.agg [(D.val (Value.string (s11))), D.nil]), (D.agg [(dI x13), (dI x14), (dI x15), (Dw n16 1 l16)])] [(D.sl (n9) 2 (cs1)), (D.val (Value.bool true))]) ∧
 (bcase (n3 == 0)
 (bcase (dL n9 2 cs1)
 (((Says C 16 [D.nil, (Dw n9 2 cs1)] kT) ∧
 (k kT)) ∨
 ((Says C 16 [D.nil, (Dw n9 2 cs1)] kF) ∧
 (k kF)))
 False)
 (k kF))) ∨
 ((Says C 26 [(D.agg [(dI x0), (dI x1), (dI x2), (dI x3), (dI x4), (dI x5), (Dw n6 5 l6), (dI x7), (dI x8), (dI x9), (dI x10)]), (D.agg [(D.val (Value.string (s11))), D.nil]), (D.agg [(dI x13), (dI x14), (dI x15), (Dw n16 1 l16)])] [(D.sl (n9) 2 (cs1)), (D.val (Value.bool false))]) ∧
 (bcase (n3 == 0)
 (bcase (dL n9 2 cs1)
 (((Says C 16 [D.nil, (Dw n9 2 cs1)] kT) ∧
 (k kF)) ∨
 ((Says C 16 [D.nil, (Dw n9 2 cs1)] kF) ∧
 (k kF)))
 False)
 (k kF)))))))
 False)
 False))
 (bcase (n8 != 0)
 (bcase (n3 == n8)
 (k kF)
 (k kF))
 (bcase (dL n6 5 l6)
 (bcase (dL n16 1 l16)
 ((((Says C 26 [(D.agg [(dI x0), (dI x1), (dI x2), (dI x3), (dI x4), (dI x5), (Dw n6 5 l6), (dI x7), (dI x8), (dI x9), (dI x10)]), (D.agg [(D.val (Value.string (s11))), D.nil]), (D.agg [(dI x13), (dI x14), (dI x15), (Dw n16 1 l16)])] [D.nil, (D.val (Value.bool true))]) ∧
 (bcase (n3 == 0)
 (((Says C 16 [D.nil, D.nil] kT) ∧
 (k kT)) ∨
 ((Says C 16 [D.nil, D.nil] kF) ∧
 (k kF)))
 (k kF))) ∨
 ((Says C 26 [(D.agg [(dI x0), (dI x1), (dI x2), (dI x3), (dI x4), (dI x5), (Dw n6 5 l6), (dI x7), (dI x8), (dI x9), (dI x10)]), (D.agg [(D.val (Value.string (s11))), D.nil]), (D.agg [(dI x13), (dI x14), (dI x15), (Dw n16 1 l16)])] [D.nil, (D.val (Value.bool false))]) ∧
 (bcase (n3 == 0)
 (((Says C 16 [D.nil, D.nil] kT) ∧
 (k kF)) ∨
 ((Says C 16 [D.nil, D.nil] kF) ∧
 (k kF)))
 (k kF)))) ∨
 (∃ n9 : Nat,
 (∃ cs1 : List Go.Value,
 (((Says C 26 [(D.agg [(dI x0), (dI x1), (dI x2), (dI x3), (dI x4), (dI x5), (Dw n6 5 l6), (dI x7), (dI x8), (dI x9), (dI x10)]), (D.agg [(D.val (Value.string (s11))), D.nil]), (D.agg [(dI x13), (dI x14), (dI x15), (Dw n16 1 l16)])] [(D.sl (n9) 2 (cs1)), (D.val (Value.bool true))]) ∧
 (bcase (n3 == 0)
 (bcase (dL n9 2 cs1)
 (((Says C 16 [D.nil, (Dw n9 2 cs1)] kT) ∧
 (k kT)) ∨
 ((Says C 16 [D.nil, (Dw n9 2 cs1)] kF) ∧
 (k kF)))
 False)
 (k kF))) ∨
 ((Says C 26 [(D.agg [(dI x0), (dI x1), (dI x2), (dI x3), (dI x4), (dI x5), (Dw n6 5 l6), (dI x7), (dI x8), (dI x9), (dI x10)]), (D.agg [(D.val (Value.string (s11))), D.nil]), (D.agg [(dI x13), (dI x14), (dI x15), (Dw n16 1 l16)])] [(D.sl (n9) 2 (cs1)), (D.val (Value.bool false))]) ∧
 (bcase (n3 == 0)
 (bcase (dL n9 2 cs1)
 (((Says C 16 [D.nil, (Dw n9 2 cs1)] kT) ∧
 (k kF)) ∨
 ((Says C 16 [D.nil, (Dw n9 2 cs1)] kF) ∧
 (k kF)))
 False)
 (k kF)))))))
 False)
 False)))))
 False))))))
 False)
 False))))
 False))))))) ∨
 (∃ n3 : Int,
 ((Says C 22 [(D.agg [(dI x0), (dI x1), (dI x2), (dI x3), (dI x4), (dI x5), (Dw n6 5 (Tk n6 5 l6)), (dI x7), (dI x8), (dI x9), (dI x10)]), (D.agg [(D.val (Value.string (s11))), (D.sl 0 1 [])]), (D.agg [(dI x13), (dI x14), (dI x15), (Dw n16 1 (Tk n16 1 l16))])] [D.nil, (D.val (Value.bool false)), (dI n3)]) ∧
 (((Qv (vI n3)) ∧
 (Qf ∧
 ((Qv (Value.slice none 0 0)) ∧
 ((Qv (Value.tuple [(Value.slice none 0 0), (Value.bool false), (vI n3)].toArray)) ∧
 True)))) ∧
 (((Qv (vI n3)) ∧
 (Qf ∧
 True)) ∧
 (((Qv (vI n3)) ∧
 True) ∧
 (True ∧
 (bcase (dL n6 5 l6)
 (∃ n4 : Int,
 ((Says C 23 [(D.agg [(dI x0), (dI x1), (dI x2), (dI x3), (dI x4), (dI x5), (Dw n6 5 l6), (dI x7), (dI x8), (dI x9), (dI x10)])] [(dI n4)]) ∧
 (bcase (n4 != 0)
 (bcase (n2 == n4)
 (bcase (n3 == n4)
 (bcase (n1 == 0)
 (k kT)
 (k kF))
 (k kF))
 (k kF))
 (bcase (dL n6 5 l6)
 (bcase (dL n16 1 l16)
 (∃ n5 : Int,
 (∃ n7 : Int,
 ((Says C 24 [(D.agg [(dI x0), (dI x1), (dI x2), (dI x3), (dI x4), (dI x5), (Dw n6 5 l6), (dI x7), (dI x8), (dI x9), (dI x10)]), (D.agg [(dI x13), (dI x14), (dI x15), (Dw n16 1 l16)])] [(dI n5), (dI n7)]) ∧
 (bcase (n2 != n7)
 (k kF)
 (bcase (n1 != n5)
 (k kF)
 (bcase (dL n6 5 l6)
 (∃ n8 : Int,
 ((Says C 25 [(D.agg [(dI x0), (dI x1), (dI x2), (dI x3), (dI x4), (dI x5), (Dw n6 5 l6), (dI x7), (dI x8), (dI x9), (dI x10)]), (D.agg [(D.val (Value.string (s11))), D.nil])] [(dI n8)]) ∧
 (bcase (n8 == 0)
 (bcase (n7 != 0)
 (bcase (n3 == n7)
 (k kT)
 (k kF))
 (bcase (dL n6 5 l6)
 (bcase (dL n16 1 l16)
 ((((Says C 26 [(D.agg [(dI x0), (dI x1), (dI x2), (dI x3), (dI x4), (dI x5), (Dw n6 5 l6), (dI x7), (dI x8), (dI x9), (dI x10)]), (D.agg [(D.val (Value.string (s11))), D.nil]), (D.agg [(dI x13), (dI x14), (dI x15), (Dw n16 1 l16)])] [D.nil, (D.val (Value.bool true))]) ∧
 (bcase (n3 == 0)
 (((Says C 16 [D.nil, D.nil] kT) ∧
 (k kF)) ∨
 ((Says C 16 [D.nil, D.nil] kF) ∧
 (k kF)))
 (k kF))) ∨
 ((Says C 26 [(D.agg [(dI x0), (dI x1), (dI x2), (dI x3), (dI x4), (dI x5), (Dw n6 5 l6), (dI x7), (dI x8), (dI x9), (dI x10)]), (D.agg [(D.val (Value.string (s11))), D.nil]), (D.agg [(dI x13), (dI x14), (dI x15), (Dw n16 1 l16)])] [D.nil, (D.val (Value.bool false))]) ∧
 (bcase (n3 == 0)
 (((Says C 16 [D.nil, D.nil] kT) ∧
 (k kT)) ∨
 ((Says C 16 [D.nil, D.nil] kF) ∧
 (k kF)))
 (k kF)))) ∨
 (∃ n9 : Nat,
 (∃ cs1 : List Go.Value,
 (((Says C 26 [(D.agg [(dI x0), (dI x1), (dI x2), (dI x3), (dI x4), (dI x5), (Dw n6 5 l6), (dI x7), (dI x8), (dI x9), (dI x10)]), (D.agg [(D.val (Value.string (s11))), D.nil]), (D.agg [(dI x13), (dI x14), (dI x15), (Dw n16 1 l16)])] [(D.sl (n9) 2 (cs1)), (D.val (Value.bool true))]) ∧
 (bcase (n3 == 0)
 (bcase (dL n9 2 cs1)
 (((Says C 16 [D.nil, (Dw n9 2 cs1)] kT) ∧
 (k kF)) ∨
 ((Says C 16 [D.nil, (Dw n9 2 cs1)] kF) ∧
 (k kF)))
 False)
 (k kF))) ∨
 ((Says C 26 [(D.agg [(dI x0), (dI x1), (dI x2), (dI x3), (dI x4), (dI x5), (Dw n6 5 l6), (dI x7), (dI x8), (dI x9), (dI x10)]), (D.agg [(D.val (Value.string (s11))), D.nil]), (D.agg [(dI x13), (dI x14), (dI x15), (Dw n16 1 l16)])] [(D.sl (n9) 2 (cs1)), (D.val (Value.bool false))]) ∧
 (bcase (n3 == 0)
 (bcase (dL n9 2 cs1)
 (((Says C 16 [D.nil, (Dw n9 2 cs1)] kT) ∧
 (k kT)) ∨
 ((Says C 16 [D.nil, (Dw n9 2 cs1)] kF) ∧
 (k kF)))
 False)
 (k kF)))))))
 False)
 False))
 (bcase (n8 != 0)
 (bcase (n3 == n8)
 (k kT)
 (k kF))
 (bcase (dL n6 5 l6)
 (bcase (dL n16 1 l16)
 ((((Says C 26 [(D.agg [(dI x0), (dI x1), (dI x2), (dI x3), (dI x4), (dI x5), (Dw n6 5 l6), (dI x7), (dI x8), (dI x9), (dI x10)]), (D.agg [(D.val (Value.string (s11))), D.nil]), (D.agg [(dI x13), (dI x14), (dI x15), (Dw n16 1 l16)])] [D.nil, (D.val (Value.bool true))]) ∧
 (bcase (n3 == 0)
 (((Says C 16 [D.nil, D.nil] kT) ∧
 (k kF)) ∨
 ((Says C 16 [D.nil, D.nil] kF) ∧
 (k kF)))
 (k kF))) ∨
 ((Says C 26 [(D.agg [(dI x0), (dI x1), (dI x2), (dI x3), (dI x4), (dI x5), (Dw n6 5 l6), (dI x7), (dI x8), (dI x9), (dI x10)]), (D.agg [(D.val (Value.string (s11))), D.nil]), (D.agg [(dI x13), (dI x14), (dI x15), (Dw n16 1 l16)])] [D.nil, (D.val (Value.bool false))]) ∧
 (bcase (n3 == 0)
 (((Says C 16 [D.nil, D.nil] kT) ∧
 (k kT)) ∨
 ((Says C 16 [D.nil, D.nil] kF) ∧
 (k kF)))
 (k kF)))) ∨
 (∃ n9 : Nat,
 (∃ cs1 : List Go.Value,
 (((Says C 26 [(D.agg [(dI x0), (dI x1), (dI x2), (dI x3), (dI x4), (dI x5), (Dw n6 5 l6), (dI x7), (dI x8), (dI x9), (dI x10)]), (D.agg [(D.val (Value.string (s11))), D.nil]), (D.agg [(dI x13), (dI x14), (dI x15), (Dw n16 1 l16)])] [(D.sl (n9) 2 (cs1)), (D.val (Value.bool true))]) ∧
 (bcase (n3 == 0)
 (bcase (dL n9 2 cs1)
 (((Says C 16 [D.nil, (Dw n9 2 cs1)] kT) ∧
 (k kF)) ∨
 ((Says C 16 [D.nil, (Dw n9 2 cs1)] kF) ∧
 (k kF)))
 False)
 (k kF))) ∨
 ((Says C 26 [(D.agg [(dI x0), (dI x1), (dI x2), (dI x3), (dI x4), (dI x5), (Dw n6 5 l6), (dI x7), (dI x8), (dI x9), (dI x10)]), (D.agg [(D.val (Value.string (s11))), D.nil]), (D.agg [(dI x13), (dI x14), (dI x15), (Dw n16 1 l16)])] [(D.sl (n9) 2 (cs1)), (D.val (Value.bool false))]) ∧
 (bcase (n3 == 0)
 (bcase (dL n9 2 cs1)
 (((Says C 16 [D.nil, (Dw n9 2 cs1)] kT) ∧
 (k kT)) ∨
 ((Says C 16 [D.nil, (Dw n9 2 cs1)] kF) ∧
 (k kF)))
 False)
 (k kF)))))))
 False)
 False)))))
 False))))))
 False)
 False))))
 False)))))))) ∨
 (∃ n3 : Nat,
 (∃ cs1 : List Go.Value,
 ((∃ n4 : Int,
 ((Says C 22 [(D.agg [(dI x0), (dI x1), (dI x2), (dI x3), (dI x4), (dI x5), (Dw n6 5 (Tk n6 5 l6)), (dI x7), (dI x8), (dI x9), (dI x10)]), (D.agg [(D.val (Value.string (s11))), (D.sl 0 1 [])]), (D.agg [(dI x13), (dI x14), (dI x15), (Dw n16 1 (Tk n16 1 l16))])] [(D.sl (n3) 2 (cs1)), (D.val (Value.bool true)), (dI n4)]) ∧
 (((Qv (vI n4)) ∧
 (Qb ∧
 ((Qv (Sl 1010 (n3) (n3))) ∧
 ((Qv (Value.tuple [(Sl 1010 (n3) (n3)), (Value.bool true), (vI n4)].toArray)) ∧
 True)))) ∧
 (((Qv (vI n4)) ∧
 (Qb ∧
 True)) ∧
 (((Qv (vI n4)) ∧
 True) ∧
 (True ∧
 (bcase (dL n6 5 l6)
 (∃ n5 : Int,
 ((Says C 23 [(D.agg [(dI x0), (dI x1), (dI x2), (dI x3), (dI x4), (dI x5), (Dw n6 5 l6), (dI x7), (dI x8), (dI x9), (dI x10)])] [(dI n5)]) ∧
 (bcase (n5 != 0)
 (bcase (n2 == n5)
 (bcase (n4 == n5)
 (bcase (n1 == 0)
 (bcase ((↑n3 : Int) == 0)
 (k kF)
 (k kF))
 (k kF))
 (k kF))
 (k kF))
 (bcase (dL n6 5 l6)
 (bcase (dL n16 1 l16)
 (∃ n7 : Int,
 (∃ n8 : Int,
 ((Says C 24 [(D.agg [(dI x0), (dI x1), (dI x2), (dI x3), (dI x4), (dI x5), (Dw n6 5 l6), (dI x7), (dI x8), (dI x9), (dI x10)]), (D.agg [(dI x13), (dI x14), (dI x15), (Dw n16 1 l16)])] [(dI n7), (dI n8)]) ∧
 (bcase (n2 != n8)
 (k kF)
 (bcase (n1 != n7)
 (k kF)
 (bcase (dL n6 5 l6)
 (∃ n9 : Int,
 ((Says C 25 [(D.agg [(dI x0), (dI x1), (dI x2), (dI x3), (dI x4), (dI x5), (Dw n6 5 l6), (dI x7), (dI x8), (dI x9), (dI x10)]), (D.agg [(D.val (Value.string (s11))), D.nil])] [(dI n9)]) ∧
 (bcase (n9 == 0)
 (bcase (n8 != 0)
 (bcase (n4 == n8)
 (bcase ((↑n3 : Int) == 0)
 (k kF)
 (k kF))
 (k kF))
 (bcase (dL n6 5 l6)
 (bcase (dL n16 1 l16)
 ((((Says C 26 [(D.agg [(dI x0), (dI x1), (dI x2), (dI x3), (dI x4), (dI x5), (Dw n6 5 l6), (dI x7), (dI x8), (dI x9), (dI x10)]), (D.agg [(D.val (Value.string (s11))), D.nil]), (D.agg [(dI x13), (dI x14), (dI x15), (Dw n16 1 l16)])] [D.nil, (D.val (Value.bool true))]) ∧
 (bcase (n4 == 0)
 (bcase (dL n3 2 cs1)
 (((Says C 16 [(Dw n3 2 cs1), D.nil] kT) ∧
 (k kT)) ∨
 ((Says C 16 [(Dw n3 2 cs1), D.nil] kF) ∧
 (k kF)))
 False)
 (k kF))) ∨
 ((Says C 26 [(D.agg [(dI x0), (dI x1), (dI x2), (dI x3), (dI x4), (dI x5), (Dw n6 5 l6), (dI x7), (dI x8), (dI x9), (dI x10)]), (D.agg [(D.val (Value.string (s11))), D.nil]), (D.agg [(dI x13), (dI x14), (dI x15), (Dw n16 1 l16)])] [D.nil, (D.val (Value.bool false))]) ∧
 (bcase (n4 == 0)
 (bcase (dL n3 2 cs1)
 (((Says C 16 [(Dw n3 2 cs1), D.nil] kT) ∧
 (k kF)) ∨
 ((Says C 16 [(Dw n3 2 cs1), D.nil] kF) ∧
 (k kF)))
 False)
 (k kF)))) ∨
 (∃ n10 : Nat,
 (∃ cs2 : List Go.Value,
 (((Says C 26 [(D.agg [(dI x0), (dI x1), (dI x2), (dI x3), (dI x4), (dI x5), (Dw n6 5 l6), (dI x7), (dI x8), (dI x9), (dI x10)]), (D.agg [(D.val (Value.string (s11))), D.nil]), (D.agg [(dI x13), (dI x14), (dI x15), (Dw n16 1 l16)])] [(D.sl (n10) 2 (cs2)), (D.val (Value.bool true))]) ∧
 (bcase (n4 == 0)
 (bcase (dL n3 2 cs1)
 (bcase (dL n10 2 cs2)
 (((Says C 16 [(Dw n3 2 cs1), (Dw n10 2 cs2)] kT) ∧
 (k kT)) ∨
 ((Says C 16 [(Dw n3 2 cs1), (Dw n10 2 cs2)] kF) ∧
 (k kF)))
 False)
 False)
 (k kF))) ∨
 ((Says C 26 [(D.agg [(dI x0), (dI x1), (dI x2), (dI x3), (dI x4), (dI x5), (Dw n6 5 l6), (dI x7), (dI x8), (dI x9), (dI x10)]), (D.agg [(D.val (Value.string (s11))), D.nil]), (D.agg [(dI x13), (dI x14), (dI x15), (Dw n16 1 l16)])] [(D.sl (n10) 2 (cs2)), (D.val (Value.bool false))]) ∧
 (bcase (n4 == 0)
 (bcase (dL n3 2 cs1)
 (bcase (dL n10 2 cs2)
 (((Says C 16 [(Dw n3 2 cs1), (Dw n10 2 cs2)] kT) ∧
 (k kF)) ∨
 ((Says C 16 [(Dw n3 2 cs1), (Dw n10 2 cs2)] kF) ∧
 (k kF)))
 False)
 False)
 (k kF)))))))
 False)
 False))
 (bcase (n9 != 0)
 (bcase (n4 == n9)
 (bcase ((↑n3 : Int) == 0)
 (k kF)
 (k kF))
 (k kF))
 (bcase (dL n6 5 l6)
 (bcase (dL n16 1 l16)
 ((((Says C 26 [(D.agg [(dI x0), (dI x1), (dI x2), (dI x3), (dI x4), (dI x5), (Dw n6 5 l6), (dI x7), (dI x8), (dI x9), (dI x10)]), (D.agg [(D.val (Value.string (s11))), D.nil]), (D.agg [(dI x13), (dI x14), (dI x15), (Dw n16 1 l16)])] [D.nil, (D.val (Value.bool true))]) ∧
 (bcase (n4 == 0)
 (bcase (dL n3 2 cs1)
 (((Says C 16 [(Dw n3 2 cs1), D.nil] kT) ∧
 (k kT)) ∨
 ((Says C 16 [(Dw n3 2 cs1), D.nil] kF) ∧
 (k kF)))
 False)
 (k kF))) ∨
 ((Says C 26 [(D.agg [(dI x0), (dI x1), (dI x2), (dI x3), (dI x4), (dI x5), (Dw n6 5 l6), (dI x7), (dI x8), (dI x9), (dI x10)]), (D.agg [(D.val (Value.string (s11))), D.nil]), (D.agg [(dI x13), (dI x14), (dI x15), (Dw n16 1 l16)])] [D.nil, (D.val (Value.bool false))]) ∧
 (bcase (n4 == 0)
 (bcase (dL n3 2 cs1)
 (((Says C 16 [(Dw n3 2 cs1), D.nil] kT) ∧
 (k kF)) ∨
 ((Says C 16 [(Dw n3 2 cs1), D.nil] kF) ∧
 (k kF)))
 False)
 (k kF)))) ∨
 (∃ n10 : Nat,
 (∃ cs2 : List Go.Value,
 (((Says C 26 [(D.agg [(dI x0), (dI x1), (dI x2), (dI x3), (dI x4), (dI x5), (Dw n6 5 l6), (dI x7), (dI x8), (dI x9), (dI x10)]), (D.agg [(D.val (Value.string (s11))), D.nil]), (D.agg [(dI x13), (dI x14), (dI x15), (Dw n16 1 l16)])] [(D.sl (n10) 2 (cs2)), (D.val (Value.bool true))]) ∧
 (bcase (n4 == 0)
 (bcase (dL n3 2 cs1)
 (bcase (dL n10 2 cs2)
 (((Says C 16 [(Dw n3 2 cs1), (Dw n10 2 cs2)] kT) ∧
 (k kT)) ∨
 ((Says C 16 [(Dw n3 2 cs1), (Dw n10 2 cs2)] kF) ∧
 (k kF)))
 False)
 False)
 (k kF))) ∨
 ((Says C 26 [(D.agg [(dI x0), (dI x1), (dI x2), (dI x3), (dI x4), (dI x5), (Dw n6 5 l6), (dI x7), (dI x8), (dI x9), (dI x10)]), (D.agg [(D.val (Value.string (s11))), D.nil]), (D.agg [(dI x13), (dI x14), (dI x15), (Dw n16 1 l16)])] [(D.sl (n10) 2 (cs2)), (D.val (Value.bool false))]) ∧
 (bcase (n4 == 0)
 (bcase (dL n3 2 cs1)
 (bcase (dL n10 2 cs2)
 (((Says C 16 [(Dw n3 2 cs1), (Dw n10 2 cs2)] kT) ∧
 (k kF)) ∨
 ((Says C 16 [(Dw n3 2 cs1), (Dw n10 2 cs2)] kF) ∧
 (k kF)))
 False)
 False)
 (k kF)))))))
 False)
 False)))))
 False))))))
 False)
 False))))
 False))))))) ∨
 (∃ n4 : Int,
 ((Says C 22 [(D.agg [(dI x0), (dI x1), (dI x2), (dI x3), (dI x4), (dI x5), (Dw n6 5 (Tk n6 5 l6)), (dI x7), (dI x8), (dI x9), (dI x10)]), (D.agg [(D.val (Value.string (s11))), (D.sl 0 1 [])]), (D.agg [(dI x13), (dI x14), (dI x15), (Dw n16 1 (Tk n16 1 l16))])] [(D.sl (n3) 2 (cs1)), (D.val (Value.bool false)), (dI n4)]) ∧
 (((Qv (vI n4)) ∧
 (Qf ∧
 ((Qv (Sl 1010 (n3) (n3))) ∧
 ((Qv (Value.tuple [(Sl 1010 (n3) (n3)), (Value.bool false), (vI n4)].toArray)) ∧
 True)))) ∧
 (((Qv (vI n4)) ∧
 (Qf ∧
 True)) ∧
 (((Qv (vI n4)) ∧
 True) ∧
 (True ∧
 (bcase (dL n6 5 l6)
 (∃ n5 : Int,
 ((Says C 23 [(D.agg [(dI x0), (dI x1), (dI x2), (dI x3), (dI x4), (dI x5), (Dw n6 5 l6), (dI x7), (dI x8), (dI x9), (dI x10)])] [(dI n5)]) ∧
 (bcase (n5 != 0)
 (bcase (n2 == n5)
 (bcase (n4 == n5)
 (bcase (n1 == 0)
 (bcase ((↑n3 : Int) == 0)
 (k kT)
 (k kF))
 (k kF))
 (k kF))
 (k kF))
 (bcase (dL n6 5 l6)
 (bcase (dL n16 1 l16)
 (∃ n7 : Int,
 (∃ n8 : Int,
 ((Says C 24 [(D.agg [(dI x0), (dI x1), (dI x2), (dI x3), (dI x4), (dI x5), (Dw n6 5 l6), (dI x7), (dI x8), (dI x9), (dI x10)]), (D.agg [(dI x13), (dI x14), (dI x15), (Dw n16 1 l16)])] [(dI n7), (dI n8)]) ∧
 (bcase (n2 != n8)
 (k kF)
 (bcase (n1 != n7)
 (k kF)
 (bcase (dL n6 5 l6)
 (∃ n9 : Int,
 ((Says C 25 [(D.agg [(dI x0), (dI x1), (dI x2), (dI x3), (dI x4), (dI x5), (Dw n6 5 l6), (dI x7), (dI x8), (dI x9), (dI x10)]), (D.agg [(D.val (Value.string (s11))), D.nil])] [(dI n9)]) ∧
 (bcase (n9 == 0)
 (bcase (n8 != 0)
 (bcase (n4 == n8)
 (bcase ((↑n3 : Int) == 0)
 (k kT)
 (k kF))
 (k kF))
 (bcase (dL n6 5 l6)
 (bcase (dL n16 1 l16)
 ((((Says C 26 [(D.agg [(dI x0), (dI x1), (dI x2), (dI x3), (dI x4), (dI x5), (Dw n6 5 l6), (dI x7), (dI x8), (dI x9), (dI x10)]), (D.agg [(D.val (Value.string (s11))), D.nil]), (D.agg [(dI x13), (dI x14), (dI x15), (Dw n16 1 l16)])] [D.nil, (D.val (Value.bool true))]) ∧
 (bcase (n4 == 0)
 (bcase (dL n3 2 cs1)
 (((Says C 16 [(Dw n3 2 cs1), D.nil] kT) ∧
 (k kF)) ∨
 ((Says C 16 [(Dw n3 2 cs1), D.nil] kF) ∧
 (k kF)))
 False)
 (k kF))) ∨
 ((Says C 26 [(D.agg [(dI x0), (dI x1), (dI x2), (dI x3), (dI x4), (dI x5), (Dw n6 5 l6), (dI x7), (dI x8), (dI x9), (dI x10)]), (D.agg [(D.val (Value.string (s11))), D.nil]), (D.agg [(dI x13), (dI x14), (dI x15), (Dw n16 1 l16)])] [D.nil, (D.val (Value.bool false))]) ∧
 (bcase (n4 == 0)
 (bcase (dL n3 2 cs1)
 (((Says C 16 [(Dw n3 2 cs1), D.nil] kT) ∧
 (k kT)) ∨
 ((Says C 16 [(Dw n3 2 cs1), D.nil] kF) ∧
 (k kF)))
 False)
 (k kF)))) ∨
 (∃ n10 : Nat,
 (∃ cs2 : List Go.Value,
 (((Says C 26 [(D.agg [(dI x0), (dI x1), (dI x2), (dI x3), (dI x4), (dI x5), (Dw n6 5 l6), (dI x7), (dI x8), (dI x9), (dI x10)]), (D.agg [(D.val (Value.string (s11))), D.nil]), (D.agg [(dI x13), (dI x14), (dI x15), (Dw n16 1 l16)])] [(D.sl (n10) 2 (cs2)), (D.val (Value.bool true))]) ∧
 (bcase (n4 == 0)
 (bcase (dL n3 2 cs1)
 (bcase (dL n10 2 cs2)
 (((Says C 16 [(Dw n3 2 cs1), (Dw n10 2 cs2)] kT) ∧
 (k kF)) ∨
 ((Says C 16 [(Dw n3 2 cs1), (Dw n10 2 cs2)] kF) ∧
 (k kF)))
 False)
 False)
 (k kF))) ∨
 ((Says C 26 [(D.agg [(dI x0), (dI x1), (dI x2), (dI x3), (dI x4), (dI x5), (Dw n6 5 l6), (dI x7), (dI x8), (dI x9), (dI x10)]), (D.agg [(D.val (Value.string (s11))), D.nil]), (D.agg [(dI x13), (dI x14), (dI x15), (Dw n16 1 l16)])] [(D.sl (n10) 2 (cs2)), (D.val (Value.bool false))]) ∧
 (bcase (n4 == 0)
 (bcase (dL n3 2 cs1)
 (bcase (dL n10 2 cs2)
 (((Says C 16 [(Dw n3 2 cs1), (Dw n10 2 cs2)] kT) ∧
 (k kT)) ∨
 ((Says C 16 [(Dw n3 2 cs1), (Dw n10 2 cs2)] kF) ∧
 (k kF)))
 False)
 False)
 (k kF)))))))
 False)
 False))
 (bcase (n9 != 0)
 (bcase (n4 == n9)
 (bcase ((↑n3 : Int) == 0)
 (k kT)
 (k kF))
 (k kF))
 (bcase (dL n6 5 l6)
 (bcase (dL n16 1 l16)
 ((((Says C 26 [(D.agg [(dI x0), (dI x1), (dI x2), (dI x3), (dI x4), (dI x5), (Dw n6 5 l6), (dI x7), (dI x8), (dI x9), (dI x10)]), (D.agg [(D.val (Value.string (s11))), D.nil]), (D.agg [(dI x13), (dI x14), (dI x15), (Dw n16 1 l16)])] [D.nil, (D.val (Value.bool true))]) ∧
 (bcase (n4 == 0)
 (bcase (dL n3 2 cs1)
 (((Says C 16 [(Dw n3 2 cs1), D.nil] kT) ∧
 (k kF)) ∨
 ((Says C 16 [(Dw n3 2 cs1), D.nil] kF) ∧
 (k kF)))
 False)
 (k kF))) ∨
 ((Says C 26 [(D.agg [(dI x0), (dI x1), (dI x2), (dI x3), (dI x4), (dI x5), (Dw n6 5 l6), (dI x7), (dI x8), (dI x9), (dI x10)]), (D.agg [(D.val (Value.string (s11))), D.nil]), (D.agg [(dI x13), (dI x14), (dI x15), (Dw n16 1 l16)])] [D.nil, (D.val (Value.bool false))]) ∧
 (bcase (n4 == 0)
 (bcase (dL n3 2 cs1)
 (((Says C 16 [(Dw n3 2 cs1), D.nil] kT) ∧
 (k kT)) ∨
 ((Says C 16 [(Dw n3 2 cs1), D.nil] kF) ∧
 (k kF)))
 False)
 (k kF)))) ∨
 (∃ n10 : Nat,
 (∃ cs2 : List Go.Value,
 (((Says C 26 [(D.agg [(dI x0), (dI x1), (dI x2), (dI x3), (dI x4), (dI x5), (Dw n6 5 l6), (dI x7), (dI x8), (dI x9), (dI x10)]), (D.agg [(D.val (Value.string (s11))), D.nil]), (D.agg [(dI x13), (dI x14), (dI x15), (Dw n16 1 l16)])] [(D.sl (n10) 2 (cs2)), (D.val (Value.bool true))]) ∧
 (bcase (n4 == 0)
 (bcase (dL n3 2 cs1)
 (bcase (dL n10 2 cs2)
 (((Says C 16 [(Dw n3 2 cs1), (Dw n10 2 cs2)] kT) ∧
 (k kF)) ∨
 ((Says C 16 [(Dw n3 2 cs1), (Dw n10 2 cs2)] kF) ∧
 (k kF)))
 False)
 False)
 (k kF))) ∨
 ((Says C 26 [(D.agg [(dI x0), (dI x1), (dI x2), (dI x3), (dI x4), (dI x5), (Dw n6 5 l6), (dI x7), (dI x8), (dI x9), (dI x10)]), (D.agg [(D.val (Value.string (s11))), D.nil]), (D.agg [(dI x13), (dI x14), (dI x15), (Dw n16 1 l16)])] [(D.sl (n10) 2 (cs2)), (D.val (Value.bool false))]) ∧
 (bcase (n4 == 0)
 (bcase (dL n3 2 cs1)
 (bcase (dL n10 2 cs2)
 (((Says C 16 [(Dw n3 2 cs1), (Dw n10 2 cs2)] kT) ∧
 (k kT)) ∨
 ((Says C 16 [(Dw n3 2 cs1), (Dw n10 2 cs2)] kF) ∧
 (k kF)))
 False)
 False)
 (k kF)))))))
 False)
 False)))))
 False))))))
 False)
 False))))
 False)))))))))))
 False)
 False)))
 False)))))
 False))))))))
 False)
 False)))
 False)))
 False)))
 (k kT))
 (k kT))) ∨
 ((Says C 6 [] kF) ∧
 (k kF))) := by kernel_rfl
def gM3 (C : Ct) (L : AtLoop) (x0 : Int) (x1 : Int) (x2 : Int) (x3 : Int) (x4 : Int) (x5 : Int) (n6 : Nat) (c6 : Nat) (l6 : List Value) (x7 : Int) (x8 : Int) (x9 : Int) (x10 : Int) (s11 : ByteArray) (x13 : Int) (x14 : Int) (x15 : Int) (k : List D → Prop) : Prop := wpFn Try.prog (hQ C) L 0 4 #[.agg #[.int .i64 x0, .int .i64 x1, .int .i64 x2, .int .i64 x3, .int .i64 x4, .int .i64 x5, .slice (some ⟨500, 0, none⟩) n6 c6, .int .i64 x7, .int .i64 x8, .int .i64 x9, .int .i64 x10], .agg #[.string s11, .slice none 0 0], .agg #[.int .i64 x13, .int .i64 x14, .int .i64 x15, .slice none 0 0]] (heapOf [(500, .sym l6 false 5)]) (dataK k)
theorem gM3_text (C : Ct) (L : AtLoop) (x0 : Int) (x1 : Int) (x2 : Int) (x3 : Int) (x4 : Int) (x5 : Int) (n6 : Nat) (c6 : Nat) (l6 : List Go.Value) (x7 : Int) (x8 : Int) (x9 : Int) (x10 : Int) (s11 : ByteArray) (x13 : Int) (x14 : Int) (x15 : Int) (k : List D → Prop) : gM3 C L x0 x1 x2 x3 x4 x5 n6 c6 l6 x7 x8 x9 x10 s11 x13 x14 x15 k =
 (((Says C 6 [] kT) ∧
 (bcase (decide ((↑n6 : Int) ≤ 8))
 (bcase (decide ((↑(ByteArray.size s11) : Int) ≤ 30))
 (((Qv (Value.agg [(vI x13), (vI x14), (vI x15), (Value.slice none 0 0)].toArray)) ∧
 ((Qv (Value.agg [(vI x0), (vI x1), (vI x2), (vI x3), (vI x4), (vI x5), (Sl 500 (n6) (c6)), (vI x7), (vI x8), (vI x9), (vI x10)].toArray)) ∧
 True)) ∧
 (bcase (dL n6 5 l6)
 ((Says C 9 [(D.agg [(dI x0), (dI x1), (dI x2), (dI x3), (dI x4), (dI x5), (Dw n6 5 l6), (dI x7), (dI x8), (dI x9), (dI x10)])] [(D.agg [(dI x0), (dI x1), (dI x2), (dI x3), (dI x4), (dI x5), (Dw n6 5 l6), (dI x7), (dI x8), (dI x9), (dI x10)])]) ∧
 (((Qv (Value.agg [(vI x13), (vI x14), (vI x15), (Value.slice none 0 0)].toArray)) ∧
 True) ∧
 ((Says C 21 [(D.agg [(dI x13), (dI x14), (dI x15), D.nil])] [(D.agg [(dI x13), (dI x14), (dI x15), (D.sl 0 1 [])])]) ∧
 (True ∧
 (bcase (dL n6 5 (Tk n6 5 l6))
 (∃ n1 : Int,
 (∃ n2 : Int,
 ((Says C 20 [(D.agg [(dI x0), (dI x1), (dI x2), (dI x3), (dI x4), (dI x5), (Dw n6 5 (Tk n6 5 l6)), (dI x7), (dI x8), (dI x9), (dI x10)]), (D.agg [(dI x13), (dI x14), (dI x15), (D.sl 0 1 [])])] [(dI n1), (dI n2)]) ∧
 (((Qv (vI n2)) ∧
 ((Qv (vI n1)) ∧
 ((Qv (Value.tuple [(vI n1), (vI n2)].toArray)) ∧
 True))) ∧
 (((Qv (vI n2)) ∧
 True) ∧
 (True ∧
 (((Qv (Value.agg [(vI x13), (vI x14), (vI x15), (Value.slice none 0 0)].toArray)) ∧
 ((Qv (Value.agg [(Value.string (s11)), (Value.slice none 0 0)].toArray)) ∧
 ((Qv (Value.agg [(vI x0), (vI x1), (vI x2), (vI x3), (vI x4), (vI x5), (Sl 500 (n6) (c6)), (vI x7), (vI x8), (vI x9), (vI x10)].toArray)) ∧
 True))) ∧
 (bcase (dL n6 5 l6)
 ((Says C 9 [(D.agg [(dI x0), (dI x1), (dI x2), (dI x3), (dI x4), (dI x5), (Dw n6 5 l6), (dI x7), (dI x8), (dI x9), (dI x10)])] [(D.agg [(dI x0), (dI x1), (dI x2), (dI x3), (dI x4), (dI x5), (Dw n6 5 l6), (dI x7), (dI x8), (dI x9), (dI x10)])]) ∧
 (((Qv (Value.agg [(vI x13), (vI x14), (vI x15), (Value.slice none 0 0)].toArray)) ∧
 ((Qv (Value.agg [(Value.string (s11)), (Value.slice none 0 0)].toArray)) ∧
 True)) ∧
 ((Says C 11 [(D.agg [(D.val (Value.string (s11))), D.nil])] [(D.agg [(D.val (Value.string (s11))), (D.sl 0 1 [])])]) ∧
 (((Qv (Value.agg [(vI x13), (vI x14), (vI x15), (Value.slice none 0 0)].toArray)) ∧
 True) ∧
 ((Says C 21 [(D.agg [(dI x13), (dI x14), (dI x15), D.nil])] [(D.agg [(dI x13), (dI x14), (dI x15), (D.sl 0 1 [])])]) ∧
 (True ∧
 (bcase (dL n6 5 (Tk n6 5 l6))
 (((∃ n3 : Int,
 ((Says C 22 [(D.agg [(dI x0), (dI x1), (dI x2), (dI x3), (dI x4), (dI x5), (Dw n6 5 (Tk n6 5 l6)), (dI x7), (dI x8), (dI x9), (dI x10)]), (D.agg [(D.val (Value.string (s11))), (D.sl 0 1 [])]), (D.agg [(dI x13), (dI x14), (dI x15), (D.sl 0 1 [])])] [D.nil, (D.val (Value.bool true)), (dI n3)]) ∧
 (((Qv (vI n3)) ∧
 (Qb ∧
 ((Qv (Value.slice none 0 0)) ∧
 ((Qv (Value.tuple [(Value.slice none 0 0), (Value.bool true), (vI n3)].toArray)) ∧
 True)))) ∧
 (((Qv (vI n3)) ∧
 (Qb ∧
 True)) ∧
 (((Qv (vI n3)) ∧
 True) ∧
 (True ∧
 (bcase (dL n6 5 l6)
 (∃ n4 : Int,
 ((Says C 23 [(D.agg [(dI x0), (dI x1), (dI x2), (dI x3), (dI x4), (dI x5), (Dw n6 5 l6), (dI x7), (dI x8), (dI x9), (dI x10)])] [(dI n4)]) ∧
 (bcase (n4 != 0)
 (bcase (n2 == n4)
 (bcase (n3 == n4)
 (bcase (n1 == 0)
 (k kF)
 (k kF))
 (k kF))
 (k kF))
 (bcase (dL n6 5 l6)
 (∃ n5 : Int,
 (∃ n7 : Int,
 ((Says C 24 [(D.agg [(dI x0), (dI x1), (dI x2), (dI x3), (dI x4), (dI x5), (Dw n6 5 l6), (dI x7), (dI x8), (dI x9), (dI x10)]), (D.agg [(dI x13), (dI x14), (dI x15), D.nil])] [(dI n5), (dI n7)]) ∧
 (bcase (n2 != n7)
 (k kF)
 (bcase (n1 != n5)
 (k kF)
 (bcase (dL n6 5 l6)
 (∃ n8 : Int,
 ((Says C 25 [(D.agg [(dI x0), (dI x1), (dI x2), (dI x3), (dI x4), (dI x5), (Dw n6 5 l6), (dI x7), (dI x8), (dI x9), (dI x10)]), (D.agg [(D.val (Value.string (s11))), D.nil])] [(dI n8)]) ∧
 (bcase (n8 == 0)
 (bcase (n7 != 0)
 (bcase (n3 == n7)
 (k kF)
 (k kF))
 (bcase (dL n6 5 l6)
 ((((Says C 26 [(D.agg [(dI x0), (dI x1), (dI x2), (dI x3), (dI x4), (dI x5), (Dw n6 5 l6), (dI x7), (dI x8), (dI x9), (dI x10)]), (D.agg [(D.val (Value.string (s11))), D.nil]), (D.agg [(dI x13), (dI x14), (dI x15), D.nil])] [D.nil, (D.val (Value.bool true))]) ∧
 (bcase (n3 == 0)
 (((Says C 16 [D.nil, D.nil] kT) ∧
 (k kT)) ∨
 ((Says C 16 [D.nil, D.nil] kF) ∧
 (k kF)))
 (k kF))) ∨
 ((Says C 26 [(D.agg [(dI x0), (dI x1), (dI x2), (dI x3), (dI x4), (dI x5), (Dw n6 5 l6), (dI x7), (dI x8), (dI x9), (dI x10)]), (D.agg [(D.val (Value.string (s11))), D.nil]), (D.agg [(dI x13), (dI x14), (dI x15), D.nil])] [D.nil, (D.val (Value.bool false))]) ∧
 (bcase (n3 == 0)
 (((Says C 16 [D.nil, D.nil] kT) ∧
 (k kF)) ∨
 ((Says C 16 [D.nil, D.nil] kF) ∧
 (k kF)))
 (k kF)))) ∨
 (∃ n9 : Nat,
 (∃ cs1 : List Go.Value,
 (((Says C 26 [(D.agg [(dI x0), (dI x1), (dI x2), (dI x3), (dI x4), (dI x5), (Dw n6 5 l6), (dI x7), (dI x8), (dI x9), (dI x10)]), (D.agg [(D.val (Value.string (s11))), D.nil]), (D.agg [(dI x13), (dI x14), (dI x15), D.nil])] [(D.sl (n9) 2 (cs1)), (D.val (Value.bool true))]) ∧
 (bcase (n3 == 0)
 (bcase (dL n9 2 cs1)
 (((Says C 16 [D.nil, (Dw n9 2 cs1)] kT) ∧
 (k kT)) ∨
 ((Says C 16 [D.nil, (Dw n9 2 cs1)] kF) ∧
 (k kF)))
 False)
 (k kF))) ∨
 ((Says C 26 [(D.agg [(dI x0), (dI x1), (dI x2), (dI x3), (dI x4), (dI x5), (Dw n6 5 l6), (dI x7), (dI x8), (dI x9), (dI x10)]), (D.agg [(D.val (Value.string (s11))), D.nil]), (D.agg [(dI x13), (dI x14), (dI x15), D.nil])] [(D.sl (n9) 2 (cs1)), (D.val (Value.bool false))]) ∧
 (bcase (n3 == 0)
 (bcase (dL n9 2 cs1)
 (((Says C 16 [D.nil, (Dw n9 2 cs1)] kT) ∧
 (k kF)) ∨
 ((Says C 16 [D.nil, (Dw n9 2 cs1)] kF) ∧
 (k kF)))
 False)
 (k kF)))))))
 False))
 (bcase (n8 != 0)
 (bcase (n3 == n8)
 (k kF)
 (k kF))
 (bcase (dL n6 5 l6)
 ((((Says C 26 [(D.agg [(dI x0), (dI x1), (dI x2), (dI x3), (dI x4), (dI x5), (Dw n6 5 l6), (dI x7), (dI x8), (dI x9), (dI x10)]), (D.agg [(D.val (Value.string (s11))), D.nil]), (D.agg [(dI x13), (dI x14), (dI x15), D.nil])] [D.nil, (D.val (Value.bool true))]) ∧
 (bcase (n3 == 0)
 (((Says C 16 [D.nil, D.nil] kT) ∧
 (k kT)) ∨
 ((Says C 16 [D.nil, D.nil] kF) ∧
 (k kF)))
 (k kF))) ∨
 ((Says C 26 [(D.agg [(dI x0), (dI x1), (dI x2), (dI x3), (dI x4), (dI x5), (Dw n6 5 l6), (dI x7), (dI x8), (dI x9), (dI x10)]), (D.agg [(D.val (Value.string (s11))), D.nil]), (D.agg [(dI x13), (dI x14), (dI x15), D.nil])] [D.nil, (D.val (Value.bool false))]) ∧
 (bcase (n3 == 0)
 (((Says C 16 [D.nil, D.nil] kT) ∧
 (k kF)) ∨
 ((Says C 16 [D.nil, D.nil] kF) ∧
 (k kF)))
 (k kF)))) ∨
 (∃ n9 : Nat,
 (∃ cs1 : List Go.Value,
 (((Says C 26 [(D.agg [(dI x0), (dI x1), (dI x2), (dI x3), (dI x4), (dI x5), (Dw n6 5 l6), (dI x7), (dI x8), (dI x9), (dI x10)]), (D.agg [(D.val (Value.string (s11))), D.nil]), (D.agg [(dI x13), (dI x14), (dI x15), D.nil])] [(D.sl (n9) 2 (cs1)), (D.val (Value.bool true))]) ∧
 (bcase (n3 == 0)
 (bcase (dL n9 2 cs1)
 (((Says C 16 [D.nil, (Dw n9 2 cs1)] kT) ∧
 (k kT)) ∨
 ((Says C 16 [D.nil, (Dw n9 2 cs1)] kF) ∧
 (k kF)))
 False)
 (k kF))) ∨
 ((Says C 26 [(D.agg [(dI x0), (dI x1), (dI x2), (dI x3), (dI x4), (dI x5), (Dw n6 5 l6), (dI x7), (dI x8), (dI x9), (dI x10)]), (D.agg [(D.val (Value.string (s11))), D.nil]), (D.agg [(dI x13), (dI x14), (dI x15), D.nil])] [(D.sl (n9) 2 (cs1)), (D.val (Value.bool false))]) ∧
 (bcase (n3 == 0)
 (bcase (dL n9 2 cs1)
 (((Says C 16 [D.nil, (Dw n9 2 cs1)] kT) ∧
 (k kF)) ∨
 ((Says C 16 [D.nil, (Dw n9 2 cs1)] kF) ∧
 (k kF)))
 False)
 (k kF)))))))
 False)))))
 False))))))
 False))))
 False))))))) ∨
 (∃ n3 : Int,
 ((Says C 22 [(D.agg [(dI x0), (dI x1), (dI x2), (dI x3), (dI x4), (dI x5), (Dw n6 5 (Tk n6 5 l6)), (dI x7), (dI x8), (dI x9), (dI x10)]), (D.agg [(D.val (Value.string (s11))), (D.sl 0 1 [])]), (D.agg [(dI x13), (dI x14), (dI x15), (D.sl 0 1 [])])] [D.nil, (D.val (Value.bool false)), (dI n3)]) ∧
 (((Qv (vI n3)) ∧
 (Qf ∧
 ((Qv (Value.slice none 0 0)) ∧
 ((Qv (Value.tuple [(Value.slice none 0 0), (Value.bool false), (vI n3)].toArray)) ∧
 True)))) ∧
 (((Qv (vI n3)) ∧
 (Qf ∧
 True)) ∧
 (((Qv (vI n3)) ∧
 True) ∧
 (True ∧
 (bcase (dL n6 5 l6)
 (∃ n4 : Int,
 ((Says C 23 [(D.agg [(dI x0), (dI x1), (dI x2), (dI x3), (dI x4), (dI x5), (Dw n6 5 l6), (dI x7), (dI x8), (dI x9), (dI x10)])] [(dI n4)]) ∧
 (bcase (n4 != 0)
 (bcase (n2 == n4)
 (bcase (n3 == n4)
 (bcase (n1 == 0)
 (k kT)
 (k kF))
 (k kF))
 (k kF))
 (bcase (dL n6 5 l6)
 (∃ n5 : Int,
 (∃ n7 : Int,
 ((Says C 24 [(D.agg [(dI x0), (dI x1), (dI x2), (dI x3), (dI x4), (dI x5), (Dw n6 5 l6), (dI x7), (dI x8), (dI x9), (dI x10)]), (D.agg [(dI x13), (dI x14), (dI x15), D.nil])] [(dI n5), (dI n7)]) ∧
 (bcase (n2 != n7)
 (k kF)
 (bcase (n1 != n5)
 (k kF)
 (bcase (dL n6 5 l6)
 (∃ n8 : Int,
 ((Says C 25 [(D.agg [(dI x0), (dI x1), (dI x2), (dI x3), (dI x4), (dI x5), (Dw n6 5 l6), (dI x7), (dI x8), (dI x9), (dI x10)]), (D.agg [(D.val (Value.string (s11))), D.nil])] [(dI n8)]) ∧
 (bcase (n8 == 0)
 (bcase (n7 != 0)
 (bcase (n3 == n7)
 (k kT)
 (k kF))
 (bcase (dL n6 5 l6)
 ((((Says C 26 [(D.agg [(dI x0), (dI x1), (dI x2), (dI x3), (dI x4), (dI x5), (Dw n6 5 l6), (dI x7), (dI x8), (dI x9), (dI x10)]), (D.agg [(D.val (Value.string (s11))), D.nil]), (D.agg [(dI x13), (dI x14), (dI x15), D.nil])] [D.nil, (D.val (Value.bool true))]) ∧
 (bcase (n3 == 0)
 (((Says C 16 [D.nil, D.nil] kT) ∧
 (k kF)) ∨
 ((Says C 16 [D.nil, D.nil] kF) ∧
 (k kF)))
 (k kF))) ∨
 ((Says C 26 [(D.agg [(dI x0), (dI x1), (dI x2), (dI x3), (dI x4), (dI x5), (Dw n6 5 l6), (dI x7), (dI x8), (dI x9), (dI x10)]), (D.agg [(D.val (Value.string (s11))), D.nil]), (D.agg [(dI x13), (dI x14), (dI x15), D.nil])] [D.nil, (D.val (Value.bool false))]) ∧
 (bcase (n3 == 0)
 (((Says C 16 [D.nil, D.nil] kT) ∧
 (k kT)) ∨
 ((Says C 16 [D.nil, D.nil] kF) ∧
 (k kF)))
 (k kF)))) ∨
 (∃ n9 : Nat,
 (∃ cs1 : List Go.Value,
 (((Says C 26 [(D.agg [(dI x0), (dI x1), (dI x2), (dI x3), (dI x4), (dI x5), (Dw n6 5 l6), (dI x7), (dI x8), (dI x9), (dI x10)]), (D.agg [(D.val (Value.string (s11))), D.nil]), (D.agg [(dI x13), (dI x14), (dI x15), D.nil])] [(D.sl (n9) 2 (cs1)), (D.val (Value.bool true))]) ∧
 (bcase (n3 == 0)
 (bcase (dL n9 2 cs1)
 (((Says C 16 [D.nil, (Dw n9 2 cs1)] kT) ∧
 (k kF)) ∨
 ((Says C 16 [D.nil, (Dw n9 2 cs1)] kF) ∧
 (k kF)))
 False)
 (k kF))) ∨
 ((Says C 26 [(D.agg [(dI x0), (dI x1), (dI x2), (dI x3), (dI x4), (dI x5), (Dw n6 5 l6), (dI x7), (dI x8), (dI x9), (dI x10)]), (D.agg [(D.val (Value.string (s11))), D.nil]), (D.agg [(dI x13), (dI x14), (dI x15), D.nil])] [(D.sl (n9) 2 (cs1)), (D.val (Value.bool false))]) ∧
 (bcase (n3 == 0)
 (bcase (dL n9 2 cs1)
 (((Says C 16 [D.nil, (Dw n9 2 cs1)] kT) ∧
 (k kT)) ∨
 ((Says C 16 [D.nil, (Dw n9 2 cs1)] kF) ∧
 (k kF)))
 False)
 (k kF)))))))
 False))
 (bcase (n8 != 0)
 (bcase (n3 == n8)
 (k kT)
 (k kF))
 (bcase (dL n6 5 l6)
 ((((Says C 26 [(D.agg [(dI x0), (dI x1), (dI x2), (dI x3), (dI x4), (dI x5), (Dw n6 5 l6), (dI x7), (dI x8), (dI x9), (dI x10)]), (D.agg [(D.val (Value.string (s11))), D.nil]), (D.agg [(dI x13), (dI x14), (dI x15), D.nil])] [D.nil, (D.val (Value.bool true))]) ∧
 (bcase (n3 == 0)
 (((Says C 16 [D.nil, D.nil] kT) ∧
 (k kF)) ∨
 ((Says C 16 [D.nil, D.nil] kF) ∧
 (k kF)))
 (k kF))) ∨
 ((Says C 26 [(D.agg [(dI x0), (dI x1), (dI x2), (dI x3), (dI x4), (dI x5), (Dw n6 5 l6), (dI x7), (dI x8), (dI x9), (dI x10)]), (D.agg [(D.val (Value.string (s11))), D.nil]), (D.agg [(dI x13), (dI x14), (dI x15), D.nil])] [D.nil, (D.val (Value.bool false))]) ∧
 (bcase (n3 == 0)
 (((Says C 16 [D.nil, D.nil] kT) ∧
 (k kT)) ∨
 ((Says C 16 [D.nil, D.nil] kF) ∧
 (k kF)))
 (k kF)))) ∨
 (∃ n9 : Nat,
 (∃ cs1 : List Go.Value,
 (((Says C 26 [(D.agg [(dI x0), (dI x1), (dI x2), (dI x3), (dI x4), (dI x5), (Dw n6 5 l6), (dI x7), (dI x8), (dI x9), (dI x10)]), (D.agg [(D.val (Value.string (s11))), D.nil]), (D.agg [(dI x13), (dI x14), (dI x15), D.nil])] [(D.sl (n9) 2 (cs1)), (D.val (Value.bool true))]) ∧
 (bcase (n3 == 0)
 (bcase (dL n9 2 cs1)
 (((Says C 16 [D.nil, (Dw n9 2 cs1)] kT) ∧
 (k kF)) ∨
 ((Says C 16 [D.nil, (Dw n9 2 cs1)] kF) ∧
 (k kF)))
 False)
 (k kF))) ∨
 ((Says C 26 [(D.agg [(dI x0), (dI x1), (dI x2), (dI x3), (dI x4), (dI x5), (Dw n6 5 l6), (dI x7), (dI x8), (dI x9), (dI x10)]), (D.agg [(D.val (Value.string (s11))), D.nil]), (D.agg [(dI x13), (dI x14), (dI x15), D.nil])] [(D.sl (n9) 2 (cs1)), (D.val (Value.bool false))]) ∧
 (bcase (n3 == 0)
 (bcase (dL n9 2 cs1)
 (((Says C 16 [D.nil, (Dw n9 2 cs1)] kT) ∧
 (k kT)) ∨
 ((Says C 16 [D.nil, (Dw n9 2 cs1)] kF) ∧
 (k kF)))
 False)
 (k kF)))))))
 False)))))
 False))))))
 False))))
 False)))))))) ∨
 (∃ n3 : Nat,
 (∃ cs1 : List Go.Value,
 ((∃ n4 : Int,
 ((Says C 22 [(D.agg [(dI x0), (dI x1), (dI x2), (dI x3), (dI x4), (dI x5), (Dw n6 5 (Tk n6 5 l6)), (dI x7), (dI x8), (dI x9), (dI x10)]), (D.agg [(D.val (Value.string (s11))), (D.sl 0 1 [])]), (D.agg [(dI x13), (dI x14), (dI x15), (D.sl 0 1 [])])] [(D.sl (n3) 2 (cs1)), (D.val (Value.bool true)), (dI n4)]) ∧
 (((Qv (vI n4)) ∧
 (Qb ∧
 ((Qv (Sl 1010 (n3) (n3))) ∧
 ((Qv (Value.tuple [(Sl 1010 (n3) (n3)), (Value.bool true), (vI n4)].toArray)) ∧
 True)))) ∧
 (((Qv (vI n4)) ∧
 (Qb ∧
 True)) ∧
 (((Qv (vI n4)) ∧
 True) ∧
 (True ∧
 (bcase (dL n6 5 l6)
 (∃ n5 : Int,
 ((Says C 23 [(D.agg [(dI x0), (dI x1), (dI x2), (dI x3), (dI x4), (dI x5), (Dw n6 5 l6), (dI x7), (dI x8), (dI x9), (dI x10)])] [(dI n5)]) ∧
 (bcase (n5 != 0)
 (bcase (n2 == n5)
 (bcase (n4 == n5)
 (bcase (n1 == 0)
 (bcase ((↑n3 : Int) == 0)
 (k kF)
 (k kF))
 (k kF))
 (k kF))
 (k kF))
 (bcase (dL n6 5 l6)
 (∃ n7 : Int,
 (∃ n8 : Int,
 ((Says C 24 [(D.agg [(dI x0), (dI x1), (dI x2), (dI x3), (dI x4), (dI x5), (Dw n6 5 l6), (dI x7), (dI x8), (dI x9), (dI x10)]), (D.agg [(dI x13), (dI x14), (dI x15), D.nil])] [(dI n7), (dI n8)]) ∧
 (bcase (n2 != n8)
 (k kF)
 (bcase (n1 != n7)
 (k kF)
 (bcase (dL n6 5 l6)
 (∃ n9 : Int,
 ((Says C 25 [(D.agg [(dI x0), (dI x1), (dI x2), (dI x3), (dI x4), (dI x5), (Dw n6 5 l6), (dI x7), (dI x8), (dI x9), (dI x10)]), (D.agg [(D.val (Value.string (s11))), D.nil])] [(dI n9)]) ∧
 (bcase (n9 == 0)
 (bcase (n8 != 0)
 (bcase (n4 == n8)
 (bcase ((↑n3 : Int) == 0)
 (k kF)
 (k kF))
 (k kF))
 (bcase (dL n6 5 l6)
 ((((Says C 26 [(D.agg [(dI x0), (dI x1), (dI x2), (dI x3), (dI x4), (dI x5), (Dw n6 5 l6), (dI x7), (dI x8), (dI x9), (dI x10)]), (D.agg [(D.val (Value.string (s11))), D.nil]), (D.agg [(dI x13), (dI x14), (dI x15), D.nil])] [D.nil, (D.val (Value.bool true))]) ∧
 (bcase (n4 == 0)
 (bcase (dL n3 2 cs1)
 (((Says C 16 [(Dw n3 2 cs1), D.nil] kT) ∧
 (k kT)) ∨
 ((Says C 16 [(Dw n3 2 cs1), D.nil] kF) ∧
 (k kF)))
 False)
 (k kF))) ∨
 ((Says C 26 [(D.agg [(dI x0), (dI x1), (dI x2), (dI x3), (dI x4), (dI x5), (Dw n6 5 l6), (dI x7), (dI x8), (dI x9), (dI x10)]), (D.agg [(D.val (Value.string (s11))), D.nil]), (D.agg [(dI x13), (dI x14), (dI x15), D.nil])] [D.nil, (D.val (Value.bool false))]) ∧
 (bcase (n4 == 0)
 (bcase (dL n3 2 cs1)
 (((Says C 16 [(Dw n3 2 cs1), D.nil] kT) ∧
 (k kF)) ∨
 ((Says C 16 [(Dw n3 2 cs1), D.nil] kF) ∧
 (k kF)))
 False)
 (k kF)))) ∨
 (∃ n10 : Nat,
 (∃ cs2 : List Go.Value,
 (((Says C 26 [(D.agg [(dI x0), (dI x1), (dI x2), (dI x3), (dI x4), (dI x5), (Dw n6 5 l6), (dI x7), (dI x8), (dI x9), (dI x10)]), (D.agg [(D.val (Value.string (s11))), D.nil]), (D.agg [(dI x13), (dI x14), (dI x15), D.nil])] [(D.sl (n10) 2 (cs2)), (D.val (Value.bool true))]) ∧
 (bcase (n4 == 0)
 (bcase (dL n3 2 cs1)
 (bcase (dL n10 2 cs2)
 (((Says C 16 [(Dw n3 2 cs1), (Dw n10 2 cs2)] kT) ∧
 (k kT)) ∨
 ((Says C 16 [(Dw n3 2 cs1), (Dw n10 2 cs2)] kF) ∧
 (k kF)))
 False)
 False)
 (k kF))) ∨
 ((Says C 26 [(D.agg [(dI x0), (dI x1), (dI x2), (dI x3), (dI x4), (dI x5), (Dw n6 5 l6), (dI x7), (dI x8), (dI x9), (dI x10)]), (D.agg [(D.val (Value.string (s11))), D.nil]), (D.agg [(dI x13), (dI x14), (dI x15), D.nil])] [(D.sl (n10) 2 (cs2)), (D.val (Value.bool false))]) ∧
 (bcase (n4 == 0)
 (bcase (dL n3 2 cs1)
 (bcase (dL n10 2 cs2)
 (((Says C 16 [(Dw n3 2 cs1), (Dw n10 2 cs2)] kT) ∧
 (k kF)) ∨
 ((Says C 16 [(Dw n3 2 cs1), (Dw n10 2 cs2)] kF) ∧
 (k kF)))
 False)
 False)
 (k kF)))))))
 False))
 (bcase (n9 != 0)
 (bcase (n4 == n9)
 (bcase ((↑n3 : Int) == 0)
 (k kF)
 (k kF))
 (k kF))
 (bcase (dL n6 5 l6)
 ((((Says C 26 [(D.agg [(dI x0), (dI x1), (dI x2), (dI x3), (dI x4), (dI x5), (Dw n6 5 l6), (dI x7), (dI x8), (dI x9), (dI x10)]), (D.agg [(D.val (Value.string (s11))), D.nil]), (D.agg [(dI x13), (dI x14), (dI x15), D.nil])] [D.nil, (D.val (Value.bool true))]) ∧
 (bcase (n4 == 0)
 (bcase (dL n3 2 cs1)
 (((Says C 16 [(Dw n3 2 cs1), D.nil] kT) ∧
 (k kT)) ∨
 ((Says C 16 [(Dw n3 2 cs1), D.nil] kF) ∧
 (k kF)))
 False)
 (k kF))) ∨
 ((Says C 26 [(D.agg [(dI x0), (dI x1), (dI x2), (dI x3), (dI x4), (dI x5), (Dw n6 5 l6), (dI x7), (dI x8), (dI x9), (dI x10)]), (D.agg [(D.val (Value.string (s11))), D.nil]), (D.agg [(dI x13), (dI x14), (dI x15), D.nil])] [D.nil, (D.val (Value.bool false))]) ∧
 (bcase (n4 == 0)
 (bcase (dL n3 2 cs1)
 (((Says C 16 [(Dw n3 2 cs1), D.nil] kT) ∧
 (k kF)) ∨
 ((Says C 16 [(Dw n3 2 cs1), D.nil] kF) ∧
 (k kF)))
 False)
 (k kF)))) ∨
 (∃ n10 : Nat,
 (∃ cs2 : List Go.Value,
 (((Says C 26 [(D.agg [(dI x0), (dI x1), (dI x2), (dI x3), (dI x4), (dI x5), (Dw n6 5 l6), (dI x7), (dI x8), (dI x9), (dI x10)]), (D.agg [(D.val (Value.string (s11))), D.nil]), (D.agg [(dI x13), (dI x14), (dI x15), D.nil])] [(D.sl (n10) 2 (cs2)), (D.val (Value.bool true))]) ∧
 (bcase (n4 == 0)
 (bcase (dL n3 2 cs1)
 (bcase (dL n10 2 cs2)
 (((Says C 16 [(Dw n3 2 cs1), (Dw n10 2 cs2)] kT) ∧
 (k kT)) ∨
 ((Says C 16 [(Dw n3 2 cs1), (Dw n10 2 cs2)] kF) ∧
 (k kF)))
 False)
 False)
 (k kF))) ∨
 ((Says C 26 [(D.agg [(dI x0), (dI x1), (dI x2), (dI x3), (dI x4), (dI x5), (Dw n6 5 l6), (dI x7), (dI x8), (dI x9), (dI x10)]), (D.agg [(D.val (Value.string (s11))), D.nil]), (D.agg [(dI x13), (dI x14), (dI x15), D.nil])] [(D.sl (n10) 2 (cs2)), (D.val (Value.bool false))]) ∧
 (bcase (n4 == 0)
 (bcase (dL n3 2 cs1)
 (bcase (dL n10 2 cs2)
 (((Says C 16 [(Dw n3 2 cs1), (Dw n10 2 cs2)] kT) ∧
 (k kF)) ∨
 ((Says C 16 [(Dw n3 2 cs1), (Dw n10 2 cs2)] kF) ∧
 (k kF)))
 False)
 False)
 (k kF)))))))
 False)))))
 False))))))
 False))))
 False))))))) ∨
 (∃ n4 : Int,
 ((Says C 22 [(D.agg [(dI x0), (dI x1), (dI x2), (dI x3), (dI x4), (dI x5), (Dw n6 5 (Tk n6 5 l6)), (dI x7), (dI x8), (dI x9), (dI x10)]), (D.agg [(D.val (Value.string (s11))), (D.sl 0 1 [])]), (D.agg [(dI x13), (dI x14), (dI x15), (D.sl 0 1 [])])] [(D.sl (n3) 2 (cs1)), (D.val (Value.bool false)), (dI n4)]) ∧
 (((Qv (vI n4)) ∧
 (Qf ∧
 ((Qv (Sl 1010 (n3) (n3))) ∧
 ((Qv (Value.tuple [(Sl 1010 (n3) (n3)), (Value.bool false), (vI n4)].toArray)) ∧
 True)))) ∧
 (((Qv (vI n4)) ∧
 (Qf ∧
 True)) ∧
 (((Qv (vI n4)) ∧
 True) ∧
 (True ∧
 (bcase (dL n6 5 l6)
 (∃ n5 : Int,
 ((Says C 23 [(D.agg [(dI x0), (dI x1), (dI x2), (dI x3), (dI x4), (dI x5), (Dw n6 5 l6), (dI x7), (dI x8), (dI x9), (dI x10)])] [(dI n5)]) ∧
 (bcase (n5 != 0)
 (bcase (n2 == n5)
 (bcase (n4 == n5)
 (bcase (n1 == 0)
 (bcase ((↑n3 : Int) == 0)
 (k kT)
 (k kF))
 (k kF))
 (k kF))
 (k kF))
 (bcase (dL n6 5 l6)
 (∃ n7 : Int,
 (∃ n8 : Int,
 ((Says C 24 [(D.agg [(dI x0), (dI x1), (dI x2), (dI x3), (dI x4), (dI x5), (Dw n6 5 l6), (dI x7), (dI x8), (dI x9), (dI x10)]), (D.agg [(dI x13), (dI x14), (dI x15), D.nil])] [(dI n7), (dI n8)]) ∧
 (bcase (n2 != n8)
 (k kF)
 (bcase (n1 != n7)
 (k kF)
 (bcase (dL n6 5 l6)
 (∃ n9 : Int,
 ((Says C 25 [(D.agg [(dI x0), (dI x1), (dI x2), (dI x3), (dI x4), (dI x5), (Dw n6 5 l6), (dI x7), (dI x8), (dI x9), (dI x10)]), (D.agg [(D.val (Value.string (s11))), D.nil])] [(dI n9)]) ∧
 (bcase (n9 == 0)
 (bcase (n8 != 0)
 (bcase (n4 == n8)
 (bcase ((↑n3 : Int) == 0)
 (k kT)
 (k kF))
 (k kF))
 (bcase (dL n6 5 l6)
 ((((Says C 26 [(D.agg [(dI x0), (dI x1), (dI x2), (dI x3), (dI x4), (dI x5), (Dw n6 5 l6), (dI x7), (dI x8), (dI x9), (dI x10)]), (D.agg [(D.val (Value.string (s11))), D.nil]), (D.agg [(dI x13), (dI x14), (dI x15), D.nil])] [D.nil, (D.val (Value.bool true))]) ∧
 (bcase (n4 == 0)
 (bcase (dL n3 2 cs1)
 (((Says C 16 [(Dw n3 2 cs1), D.nil] kT) ∧
 (k kF)) ∨
 ((Says C 16 [(Dw n3 2 cs1), D.nil] kF) ∧
 (k kF)))
 False)
 (k kF))) ∨
 ((Says C 26 [(D.agg [(dI x0), (dI x1), (dI x2), (dI x3), (dI x4), (dI x5), (Dw n6 5 l6), (dI x7), (dI x8), (dI x9), (dI x10)]), (D.agg [(D.val (Value.string (s11))), D.nil]), (D.agg [(dI x13), (dI x14), (dI x15), D.nil])] [D.nil, (D.val (Value.bool false))]) ∧
 (bcase (n4 == 0)
 (bcase (dL n3 2 cs1)
 (((Says C 16 [(Dw n3 2 cs1), D.nil] kT) ∧
 (k kT)) ∨
 ((Says C 16 [(Dw n3 2 cs1), D.nil] kF) ∧
 (k kF)))
 False)
 (k kF)))) ∨
 (∃ n10 : Nat,
 (∃ cs2 : List Go.Value,
 (((Says C 26 [(D.agg [(dI x0), (dI x1), (dI x2), (dI x3), (dI x4), (dI x5), (Dw n6 5 l6), (dI x7), (dI x8), (dI x9), (dI x10)]), (D.agg [(D.val (Value.string (s11))), D.nil]), (D.agg [(dI x13), (dI x14), (dI x15), D.nil])] [(D.sl (n10) 2 (cs2)), (D.val (Value.bool true))]) ∧
 (bcase (n4 == 0)
 (bcase (dL n3 2 cs1)
 (bcase (dL n10 2 cs2)
 (((Says C 16 [(Dw n3 2 cs1), (Dw n10 2 cs2)] kT) ∧
 (k kF)) ∨
 ((Says C 16 [(Dw n3 2 cs1), (Dw n10 2 cs2)] kF) ∧
 (k kF)))
 False)
 False)
 (k kF))) ∨
 ((Says C 26 [(D.agg [(dI x0), (dI x1), (dI x2), (dI x3), (dI x4), (dI x5), (Dw n6 5 l6), (dI x7), (dI x8), (dI x9), (dI x10)]), (D.agg [(D.val (Value.string (s11))), D.nil]), (D.agg [(dI x13), (dI x14), (dI x15), D.nil])] [(D.sl (n10) 2 (cs2)), (D.val (Value.bool false))]) ∧
 (bcase (n4 == 0)
 (bcase (dL n3 2 cs1)
 (bcase (dL n10 2 cs2)
 (((Says C 16 [(Dw n3 2 cs1), (Dw n10 2 cs2)] kT) ∧
 (k kT)) ∨
 ((Says C 16 [(Dw n3 2 cs1), (Dw n10 2 cs2)] kF) ∧
 (k kF)))
 False)
 False)
 (k kF)))))))
 False))
 (bcase (n9 != 0)
 (bcase (n4 == n9)
 (bcase ((↑n3 : Int) == 0)
 (k kT)
 (k kF))
 (k kF))
 (bcase (dL n6 5 l6)
 ((((Says C 26 [(D.agg [(dI x0), (dI x1), (dI x2), (dI x3), (dI x4), (dI x5), (Dw n6 5 l6), (dI x7), (dI x8), (dI x9), (dI x10)]), (D.agg [(D.val (Value.string (s11))), D.nil]), (D.agg [(dI x13), (dI x14), (dI x15), D.nil])] [D.nil, (D.val (Value.bool true))]) ∧
 (bcase (n4 == 0)
 (bcase (dL n3 2 cs1)
 (((Says C 16 [(Dw n3 2 cs1), D.nil] kT) ∧
 (k kF)) ∨
 ((Says C 16 [(Dw n3 2 cs1), D.nil] kF) ∧
 (k kF)))
 False)
 (k kF))) ∨
 ((Says C 26 [(D.agg [(dI x0), (dI x1), (dI x2), (dI x3), (dI x4), (dI x5), (Dw n6 5 l6), (dI x7), (dI x8), (dI x9), (dI x10)]), (D.agg [(D.val (Value.string (s11))), D.nil]), (D.agg [(dI x13), (dI x14), (dI x15), D.nil])] [D.nil, (D.val (Value.bool false))]) ∧
 (bcase (n4 == 0)
 (bcase (dL n3 2 cs1)
 (((Says C 16 [(Dw n3 2 cs1), D.nil] kT) ∧
 (k kT)) ∨
 ((Says C 16 [(Dw n3 2 cs1), D.nil] kF) ∧
 (k kF)))
 False)
 (k kF)))) ∨
 (∃ n10 : Nat,
 (∃ cs2 : List Go.Value,
 (((Says C 26 [(D.agg [(dI x0), (dI x1), (dI x2), (dI x3), (dI x4), (dI x5), (Dw n6 5 l6), (dI x7), (dI x8), (dI x9), (dI x10)]), (D.agg [(D.val (Value.string (s11))), D.nil]), (D.agg [(dI x13), (dI x14), (dI x15), D.nil])] [(D.sl (n10) 2 (cs2)), (D.val (Value.bool true))]) ∧
 (bcase (n4 == 0)
 (bcase (dL n3 2 cs1)
 (bcase (dL n10 2 cs2)
 (((Says C 16 [(Dw n3 2 cs1), (Dw n10 2 cs2)] kT) ∧
 (k kF)) ∨
 ((Says C 16 [(Dw n3 2 cs1), (Dw n10 2 cs2)] kF) ∧
 (k kF)))
 False)
 False)
 (k kF))) ∨
 ((Says C 26 [(D.agg [(dI x0), (dI x1), (dI x2), (dI x3), (dI x4), (dI x5), (Dw n6 5 l6), (dI x7), (dI x8), (dI x9), (dI x10)]), (D.agg [(D.val (Value.string (s11))), D.nil]), (D.agg [(dI x13), (dI x14), (dI x15), D.nil])] [(D.sl (n10) 2 (cs2)), (D.val (Value.bool false))]) ∧
 (bcase (n4 == 0)
 (bcase (dL n3 2 cs1)
 (bcase (dL n10 2 cs2)
 (((Says C 16 [(Dw n3 2 cs1), (Dw n10 2 cs2)] kT) ∧
 (k kT)) ∨
 ((Says C 16 [(Dw n3 2 cs1), (Dw n10 2 cs2)] kF) ∧
 (k kF)))
 False)
 False)
 (k kF)))))))
 False)))))
 False))))))
 False))))
 False)))))))))))
 False)))))))
 False))))))))
 False)))))
 False))
 (k kT))
 (k kT))) ∨
 ((Says C 6 [] kF) ∧
 (k kF))) := by kernel_rfl
def gM4 (C : Ct) (L : AtLoop) (x0 : Int) (x1 : Int) (x2 : Int) (x3 : Int) (x4 : Int) (x5 : Int) (x7 : Int) (x8 : Int) (x9 : Int) (x10 : Int) (s11 : ByteArray) (n12 : Nat) (c12 : Nat) (l12 : List Value) (x13 : Int) (x14 : Int) (x15 : Int) (n16 : Nat) (c16 : Nat) (l16 : List Value) (k : List D → Prop) : Prop := wpFn Try.prog (hQ C) L 0 4 #[.agg #[.int .i64 x0, .int .i64 x1, .int .i64 x2, .int .i64 x3, .int .i64 x4, .int .i64 x5, .slice none 0 0, .int .i64 x7, .int .i64 x8, .int .i64 x9, .int .i64 x10], .agg #[.string s11, .slice (some ⟨500, 0, none⟩) n12 c12], .agg #[.int .i64 x13, .int .i64 x14, .int .i64 x15, .slice (some ⟨501, 0, none⟩) n16 c16]] (heapOf [(500, .sym l12 false 1), (501, .sym l16 false 1)]) (dataK k)
theorem gM4_text (C : Ct) (L : AtLoop) (x0 : Int) (x1 : Int) (x2 : Int) (x3 : Int) (x4 : Int) (x5 : Int) (x7 : Int) (x8 : Int) (x9 : Int) (x10 : Int) (s11 : ByteArray) (n12 : Nat) (c12 : Nat) (l12 : List Go.Value) (x13 : Int) (x14 : Int) (x15 : Int) (n16 : Nat) (c16 : Nat) (l16 : List Go.Value) (k : List D → Prop) : gM4 C L x0 x1 x2 x3 x4 x5 x7 x8 x9 x10 s11 n12 c12 l12 x13 x14 x15 n16 c16 l16 k =
 (((Says C 6 [] kT) ∧
 (bcase (decide ((↑n12 : Int) ≤ 8))
 (bcase (decide ((↑(ByteArray.size s11) : Int) ≤ 30))
 (bcase (decide ((↑n16 : Int) > 8))
 (k kT)
 (((Qv (Value.agg [(vI x13), (vI x14), (vI x15), (Sl 501 (n16) (c16))].toArray)) ∧
 ((Qv (Value.agg [(vI x0), (vI x1), (vI x2), (vI x3), (vI x4), (vI x5), (Value.slice none 0 0), (vI x7), (vI x8), (vI x9), (vI x10)].toArray)) ∧
 True)) ∧
 ((Says C 9 [(D.agg [(dI x0), (dI x1), (dI x2), (dI x3), (dI x4), (dI x5), D.nil, (dI x7), (dI x8), (dI x9), (dI x10)])] [(D.agg [(dI x0), (dI x1), (dI x2), (dI x3), (dI x4), (dI x5), (D.sl 0 5 []), (dI x7), (dI x8), (dI x9), (dI x10)])]) ∧
 (((Qv (Value.agg [(vI x13), (vI x14), (vI x15), (Sl 501 (n16) (c16))].toArray)) ∧
 True) ∧
 (bcase (dL n16 1 l16)
 ((Says C 21 [(D.agg [(dI x13), (dI x14), (dI x15), (Dw n16 1 l16)])] [(D.agg [(dI x13), (dI x14), (dI x15), (Dw n16 1 l16)])]) ∧
 (True ∧
 (bcase (dL n16 1 (Tk n16 1 l16))
 (∃ n1 : Int,
 (∃ n2 : Int,
 ((Says C 20 [(D.agg [(dI x0), (dI x1), (dI x2), (dI x3), (dI x4), (dI x5), (D.sl 0 5 []), (dI x7), (dI x8), (dI x9), (dI x10)]), (D.agg [(dI x13), (dI x14), (dI x15), (Dw n16 1 (Tk n16 1 l16))])] [(dI n1), (dI n2)]) ∧
 (((Qv (vI n2)) ∧
 ((Qv (vI n1)) ∧
 ((Qv (Value.tuple [(vI n1), (vI n2)].toArray)) ∧
 True))) ∧
 (((Qv (vI n2)) ∧
 True) ∧
 (True ∧
 (((Qv (Value.agg [(vI x13), (vI x14), (vI x15), (Sl 501 (n16) (c16))].toArray)) ∧
 ((Qv (Value.agg [(Value.string (s11)), (Sl 500 (n12) (c12))].toArray)) ∧
 ((Qv (Value.agg [(vI x0), (vI x1), (vI x2), (vI x3), (vI x4), (vI x5), (Value.slice none 0 0), (vI x7), (vI x8), (vI x9), (vI x10)].toArray)) ∧
 True))) ∧
 ((Says C 9 [(D.agg [(dI x0), (dI x1), (dI x2), (dI x3), (dI x4), (dI x5), D.nil, (dI x7), (dI x8), (dI x9), (dI x10)])] [(D.agg [(dI x0), (dI x1), (dI x2), (dI x3), (dI x4), (dI x5), (D.sl 0 5 []), (dI x7), (dI x8), (dI x9), (dI x10)])]) ∧
 (((Qv (Value.agg [(vI x13), (vI x14), (vI x15), (Sl 501 (n16) (c16))].toArray)) ∧
 ((Qv (Value.agg [(Value.string (s11)), (Sl 500 (n12) (c12))].toArray)) ∧
 True)) ∧
 (bcase (dL n12 1 l12)
 ((Says C 11 [(D.agg [(D.val (Value.string (s11))), (Dw n12 1 l12)])] [(D.agg [(D.val (Value.string (s11))), (Dw n12 1 l12)])]) ∧
 (((Qv (Value.agg [(vI x13), (vI x14), (vI x15), (Sl 501 (n16) (c16))].toArray)) ∧
 True) ∧
 (bcase (dL n16 1 l16)
 ((Says C 21 [(D.agg [(dI x13), (dI x14), (dI x15), (Dw n16 1 l16)])] [(D.agg [(dI x13), (dI x14), (dI x15), (Dw n16 1 l16)])]) ∧
 (True ∧
 (bcase (dL n12 1 (Tk n12 1 l12))
 (bcase (dL n16 1 (Tk n16 1 l16))
 (((∃ n3 : Int,
 ((Says C 22 [(D.agg [(dI x0), (dI x1), (dI x2), (dI x3), (dI x4), (dI x5), (D.sl 0 5 []), (dI x7), (dI x8), (dI x9), (dI x10)]), (D.agg [(D.val (Value.string (s11))), (Dw n12 1 (Tk n12 1 l12))]), (D.agg [(dI x13), (dI x14), (dI x15), (Dw n16 1 (Tk n16 1 l16))])] [D.nil, (D.val (Value.bool true)), (dI n3)]) ∧
 (((Qv (vI n3)) ∧
 (Qb ∧
 ((Qv (Value.slice none 0 0)) ∧
 ((Qv (Value.tuple [(Value.slice none 0 0), (Value.bool true), (vI n3)].toArray)) ∧
 True)))) ∧
 (((Qv (vI n3)) ∧
 (Qb ∧
 True)) ∧
 (((Qv (vI n3)) ∧
 True) ∧
 (True ∧
 (∃ n4 : Int,
 ((Says C 23 [(D.agg [(dI x0), (dI x1), (dI x2), (dI x3), (dI x4), (dI x5), D.nil, (dI x7), (dI x8), (dI x9), (dI x10)])] [(dI n4)]) ∧
 (bcase (n4 != 0)
 (bcase (n2 == n4)
 (bcase (n3 == n4)
 (bcase (n1 == 0)
 (k kF)
 (k kF))
 (k kF))
 (k kF))
 (bcase (dL n16 1 l16)
 (∃ n5 : Int,
 (∃ n6 : Int,
 ((Says C 24 [(D.agg [(dI x0), (dI x1), (dI x2), (dI x3), (dI x4), (dI x5), D.nil, (dI x7), (dI x8), (dI x9), (dI x10)]), (D.agg [(dI x13), (dI x14), (dI x15), (Dw n16 1 l16)])] [(dI n5), (dI n6)]) ∧
 (bcase (n2 != n6)
 (k kF)
 (bcase (n1 != n5)
 (k kF)
 (bcase (dL n12 1 l12)
 (∃ n7 : Int,
 ((Says C 25 [(D.agg [(dI x0), (dI x1), (dI x2), (dI x3), (dI x4), (dI x5), D.nil, (dI x7), (dI x8), (dI x9), (dI x10)]), (D.agg [(D.val (Value.string (s11))), (Dw n12 1 l12)])] [(dI n7)]) ∧
 (bcase (n7 == 0)
 (bcase (n6 != 0)
 (bcase (n3 == n6)
 (k kF)
 (k kF))
 (bcase (dL n12 1 l12)
 (bcase (dL n16 1 l16)
 ((((Says C 26 [(D.agg [(dI x0), (dI x1), (dI x2), (dI x3), (dI x4), (dI x5), D.nil, (dI x7), (dI x8), (dI x9), (dI x10)]), (D.agg [(D.val (Value.string (s11))), (Dw n12 1 l12)]), (D.agg [(dI x13), (dI x14), (dI x15), (Dw n16 1 l16)])] [D.nil, (D.val (Value.bool true))]) ∧
 (bcase (n3 == 0)
 (((Says C 16 [D.nil, D.nil] kT) ∧
 (k kT)) ∨
 ((Says C 16 [D.nil, D.nil] kF) ∧
 (k kF)))
 (k kF))) ∨
 ((Says C 26 [(D.agg [(dI x0), (dI x1), (dI x2), (dI x3), (dI x4), (dI x5), D.nil, (dI x7), (dI x8), (dI x9), (dI x10)]), (D.agg [(D.val (Value.string (s11))), (Dw n12 1 l12)]), (D.agg [(dI x13), (dI x14), (dI x15), (Dw n16 1 l16)])] [D.nil, (D.val (Value.bool false))]) ∧
 (bcase (n3 == 0)
 (((Says C 16 [D.nil, D.nil] kT) ∧
 (k kF)) ∨
 ((Says C 16 [D.nil, D.nil] kF) ∧
 (k kF)))
 (k kF)))) ∨
 (∃ n8 : Nat,
 (∃ cs1 : List Go.Value,
 (((Says C 26 [(D.agg [(dI x0), (dI x1), (dI x2), (dI x3), (dI x4), (dI x5), D.nil, (dI x7), (dI x8), (dI x9), (dI x10)]), (D.agg [(D.val (Value.string (s11))), (Dw n12 1 l12)]), (D.agg [(dI x13), (dI x14), (dI x15), (Dw n16 1 l16)])] [(D.sl (n8) 2 (cs1)), (D.val (Value.bool true))]) ∧
 (bcase (n3 == 0)
 (bcase (dL n8 2 cs1)
 (((Says C 16 [D.nil, (Dw n8 2 cs1)] kT) ∧
 (k kT)) ∨
 ((Says C 16 [D.nil, (Dw n8 2 cs1)] kF) ∧
 (k kF)))
 False)
 (k kF))) ∨
 ((Says C 26 [(D.agg [(dI x0), (dI x1), (dI x2), (dI x3), (dI x4), (dI x5), D.nil, (dI x7), (dI x8), (dI x9), (dI x10)]), (D.agg [(D.val (Value.string (s11))), (Dw n12 1 l12)]), (D.agg [(dI x13), (dI x14), (dI x15), (Dw n16 1 l16)])] [(D.sl (n8) 2 (cs1)), (D.val (Value.bool false))]) ∧
 (bcase (n3 == 0)
 (bcase (dL n8 2 cs1)
 (((Says C 16 [D.nil, (Dw n8 2 cs1)] kT) ∧
 (k kF)) ∨
 ((Says C 16 [D.nil, (Dw n8 2 cs1)] kF) ∧
 (k kF)))
 False)
 (k kF)))))))
 False)
 False))
 (bcase (n7 != 0)
 (bcase (n3 == n7)
 (k kF)
 (k kF))
 (bcase (dL n12 1 l12)
 (bcase (dL n16 1 l16)
 ((((Says C 26 [(D.agg [(dI x0), (dI x1), (dI x2), (dI x3), (dI x4), (dI x5), D.nil, (dI x7), (dI x8), (dI x9), (dI x10)]), (D.agg [(D.val (Value.string (s11))), (Dw n12 1 l12)]), (D.agg [(dI x13), (dI x14), (dI x15), (Dw n16 1 l16)])] [D.nil, (D.val (Value.bool true))]) ∧
 (bcase (n3 == 0)
 (((Says C 16 [D.nil, D.nil] kT) ∧
 (k kT)) ∨
 ((Says C 16 [D.nil, D.nil] kF) ∧
 (k kF)))
 (k kF))) ∨
 ((Says C 26 [(D.agg [(dI x0), (dI x1), (dI x2), (dI x3), (dI x4), (dI x5), D.nil, (dI x7), (dI x8), (dI x9), (dI x10)]), (D.agg [(D.val (Value.string (s11))), (Dw n12 1 l12)]), (D.agg [(dI x13), (dI x14), (dI x15), (Dw n16 1 l16)])] [D.nil, (D.val (Value.bool false))]) ∧
 (bcase (n3 == 0)
 (((Says C 16 [D.nil, D.nil] kT) ∧
 (k kF)) ∨
 ((Says C 16 [D.nil, D.nil] kF) ∧
 (k kF)))
 (k kF)))) ∨
 (∃ n8 : Nat,
 (∃ cs1 : List Go.Value,
 (((Says C 26 [(D.agg [(dI x0), (dI x1), (dI x2), (dI x3), (dI x4), (dI x5), D.nil, (dI x7), (dI x8), (dI x9), (dI x10)]), (D.agg [(D.val (Value.string (s11))), (Dw n12 1 l12)]), (D.agg [(dI x13), (dI x14), (dI x15), (Dw n16 1 l16)])] [(D.sl (n8) 2 (cs1)), (D.val (Value.bool true))]) ∧
 (bcase (n3 == 0)
 (bcase (dL n8 2 cs1)
 (((Says C 16 [D.nil, (Dw n8 2 cs1)] kT) ∧
 (k kT)) ∨
 ((Says C 16 [D.nil, (Dw n8 2 cs1)] kF) ∧
 (k kF)))
 False)
 (k kF))) ∨
 ((Says C 26 [(D.agg [(dI x0), (dI x1), (dI x2), (dI x3), (dI x4), (dI x5), D.nil, (dI x7), (dI x8), (dI x9), (dI x10)]), (D.agg [(D.val (Value.string (s11))), (Dw n12 1 l12)]), (D.agg [(dI x13), (dI x14), (dI x15), (Dw n16 1 l16)])] [(D.sl (n8) 2 (cs1)), (D.val (Value.bool false))]) ∧
 (bcase (n3 == 0)
 (bcase (dL n8 2 cs1)
 (((Says C 16 [D.nil, (Dw n8 2 cs1)] kT) ∧
 (k kF)) ∨
 ((Says C 16 [D.nil, (Dw n8 2 cs1)] kF) ∧
 (k kF)))
 False)
 (k kF)))))))
 False)
 False)))))
 False))))))
 False)))))))))) ∨
 (∃ n3 : Int,
 ((Says C 22 [(D.agg [(dI x0), (dI x1), (dI x2), (dI x3), (dI x4), (dI x5), (D.sl 0 5 []), (dI x7), (dI x8), (dI x9), (dI x10)]), (D.agg [(D.val (Value.string (s11))), (Dw n12 1 (Tk n12 1 l12))]), (D.agg [(dI x13), (dI x14), (dI x15), (Dw n16 1 (Tk n16 1 l16))])] [D.nil, (D.val (Value.bool false)), (dI n3)]) ∧
 (((Qv (vI n3)) ∧
 (Qf ∧
 ((Qv (Value.slice none 0 0)) ∧
 ((Qv (Value.tuple [(Value.slice none 0 0), (Value.bool false), (vI n3)].toArray)) ∧
 True)))) ∧
 (((Qv (vI n3)) ∧
 (Qf ∧
 True)) ∧
 (((Qv (vI n3)) ∧
 True) ∧
 (True ∧
 (∃ n4 : Int,
 ((Says C 23 [(D.agg [(dI x0), (dI x1), (dI x2), (dI x3), (dI x4), (dI x5), D.nil, (dI x7), (dI x8), (dI x9), (dI x10)])] [(dI n4)]) ∧
 (bcase (n4 != 0)
 (bcase (n2 == n4)
 (bcase (n3 == n4)
 (bcase (n1 == 0)
 (k kT)
 (k kF))
 (k kF))
 (k kF))
 (bcase (dL n16 1 l16)
 (∃ n5 : Int,
 (∃ n6 : Int,
 ((Says C 24 [(D.agg [(dI x0), (dI x1), (dI x2), (dI x3), (dI x4), (dI x5), D.nil, (dI x7), (dI x8), (dI x9), (dI x10)]), (D.agg [(dI x13), (dI x14), (dI x15), (Dw n16 1 l16)])] [(dI n5), (dI n6)]) ∧
 (bcase (n2 != n6)
 (k kF)
 (bcase (n1 != n5)
 (k kF)
 (bcase (dL n12 1 l12)
 (∃ n7 : Int,
 ((Says C 25 [(D.agg [(dI x0), (dI x1), (dI x2), (dI x3), (dI x4), (dI x5), D.nil, (dI x7), (dI x8), (dI x9), (dI x10)]), (D.agg [(D.val (Value.string (s11))), (Dw n12 1 l12)])] [(dI n7)]) ∧
 (bcase (n7 == 0)
 (bcase (n6 != 0)
 (bcase (n3 == n6)
 (k kT)
 (k kF))
 (bcase (dL n12 1 l12)
 (bcase (dL n16 1 l16)
 ((((Says C 26 [(D.agg [(dI x0), (dI x1), (dI x2), (dI x3), (dI x4), (dI x5), D.nil, (dI x7), (dI x8), (dI x9), (dI x10)]), (D.agg [(D.val (Value.string (s11))), (Dw n12 1 l12)]), (D.agg [(dI x13), (dI x14), (dI x15), (Dw n16 1 l16)])] [D.nil, (D.val (Value.bool true))]) ∧
 (bcase (n3 == 0)
 (((Says C 16 [D.nil, D.nil] kT) ∧
 (k kF)) ∨
 ((Says C 16 [D.nil, D.nil] kF) ∧
 (k kF)))
 (k kF))) ∨
 ((Says C 26 [(D.agg [(dI x0), (dI x1), (dI x2), (dI x3), (dI x4), (dI x5), D.nil, (dI x7), (dI x8), (dI x9), (dI x10)]), (D.agg [(D.val (Value.string (s11))), (Dw n12 1 l12)]), (D.agg [(dI x13), (dI x14), (dI x15), (Dw n16 1 l16)])] [D.nil, (D.val (Value.bool false))]) ∧
 (bcase (n3 == 0)
 (((Says C 16 [D.nil, D.nil] kT) ∧
 (k kT)) ∨
 ((Says C 16 [D.nil, D.nil] kF) ∧
 (k kF)))
 (k kF)))) ∨
 (∃ n8 : Nat,
 (∃ cs1 : List Go.Value,
 (((Says C 26 [(D.agg [(dI x0), (dI x1), (dI x2), (dI x3), (dI x4), (dI x5), D.nil, (dI x7), (dI x8), (dI x9), (dI x10)]), (D.agg [(D.val (Value.string (s11))), (Dw n12 1 l12)]), (D.agg [(dI x13), (dI x14), (dI x15), (Dw n16 1 l16)])] [(D.sl (n8) 2 (cs1)), (D.val (Value.bool true))]) ∧
 (bcase (n3 == 0)
 (bcase (dL n8 2 cs1)
 (((Says C 16 [D.nil, (Dw n8 2 cs1)] kT) ∧
 (k kF)) ∨
 ((Says C 16 [D.nil, (Dw n8 2 cs1)] kF) ∧
 (k kF)))
 False)
 (k kF))) ∨
 ((Says C 26 [(D.agg [(dI x0), (dI x1), (dI x2), (dI x3), (dI x4), (dI x5), D.nil, (dI x7), (dI x8), (dI x9), (dI x10)]), (D.agg [(D.val (Value.string (s11))), (Dw n12 1 l12)]), (D.agg [(dI x13), (dI x14), (dI x15), (Dw n16 1 l16)])] [(D.sl (n8) 2 (cs1)), (D.val (Value.bool false))]) ∧
 (bcase (n3 == 0)
 (bcase (dL n8 2 cs1)
 (((Says C 16 [D.nil, (Dw n8 2 cs1)] kT) ∧
 (k kT)) ∨
 ((Says C 16 [D.nil, (Dw n8 2 cs1)] kF) ∧
 (k kF)))
 False)
 (k kF)))))))
 False)
 False))
 (bcase (n7 != 0)
 (bcase (n3 == n7)
 (k kT)
 (k kF))
 (bcase (dL n12 1 l12)
 (bcase (dL n16 1 l16)
 ((((Says C 26 [(D.agg [(dI x0), (dI x1), (dI x2), (dI x3), (dI x4), (dI x5), D.nil, (dI x7), (dI x8), (dI x9), (dI x10)]), (D.agg [(D.val (Value.string (s11))), (Dw n12 1 l12)]), (D.agg [(dI x13), (dI x14), (dI x15), (Dw n16 1 l16)])] [D.nil, (D.val (Value.bool true))]) ∧
 (bcase (n3 == 0)
 (((Says C 16 [D.nil, D.nil] kT) ∧
 (k kF)) ∨
 ((Says C 16 [D.nil, D.nil] kF) ∧
 (k kF)))
 (k kF))) ∨
 ((Says C 26 [(D.agg [(dI x0), (dI x1), (dI x2), (dI x3), (dI x4), (dI x5), D.nil, (dI x7), (dI x8), (dI x9), (dI x10)]), (D.agg [(D.val (Value.string (s11))), (Dw n12 1 l12)]), (D.agg [(dI x13), (dI x14), (dI x15), (Dw n16 1 l16)])] [D.nil, (D.val (Value.bool false))]) ∧
 (bcase (n3 == 0)
 (((Says C 16 [D.nil, D.nil] kT) ∧
 (k kT)) ∨
 ((Says C 16 [D.nil, D.nil] kF) ∧
 (k kF)))
 (k kF)))) ∨
 (∃ n8 : Nat,
 (∃ cs1 : List Go.Value,
 (((Says C 26 [(D.agg [(dI x0), (dI x1), (dI x2), (dI x3), (dI x4), (dI x5), D.nil, (dI x7), (dI x8), (dI x9), (dI x10)]), (D.agg [(D.val (Value.string (s11))), (Dw n12 1 l12)]), (D.agg [(dI x13), (dI x14), (dI x15), (Dw n16 1 l16)])] [(D.sl (n8) 2 (cs1)), (D.val (Value.bool true))]) ∧
 (bcase (n3 == 0)
 (bcase (dL n8 2 cs1)
 (((Says C 16 [D.nil, (Dw n8 2 cs1)] kT) ∧
 (k kF)) ∨
 ((Says C 16 [D.nil, (Dw n8 2 cs1)] kF) ∧
 (k kF)))
 False)
 (k kF))) ∨
 ((Says C 26 [(D.agg [(dI x0), (dI x1), (dI x2), (dI x3), (dI x4), (dI x5), D.nil, (dI x7), (dI x8), (dI x9), (dI x10)]), (D.agg [(D.val (Value.string (s11))), (Dw n12 1 l12)]), (D.agg [(dI x13), (dI x14), (dI x15), (Dw n16 1 l16)])] [(D.sl (n8) 2 (cs1)), (D.val (Value.bool false))]) ∧
 (bcase (n3 == 0)
 (bcase (dL n8 2 cs1)
 (((Says C 16 [D.nil, (Dw n8 2 cs1)] kT) ∧
 (k kT)) ∨
 ((Says C 16 [D.nil, (Dw n8 2 cs1)] kF) ∧
 (k kF)))
 False)
 (k kF)))))))
 False)
 False)))))
 False))))))
 False))))))))))) ∨
 (∃ n3 : Nat,
 (∃ cs1 : List Go.Value,
 ((∃ n4 : Int,
 ((Says C 22 [(D.agg [(dI x0), (dI x1), (dI x2), (dI x3), (dI x4), (dI x5), (D.sl 0 5 []), (dI x7), (dI x8), (dI x9), (dI x10)]), (D.agg [(D.val (Value.string (s11))), (Dw n12 1 (Tk n12 1 l12))]), (D.agg [(dI x13), (dI x14), (dI x15), (Dw n16 1 (Tk n16 1 l16))])] [(D.sl (n3) 2 (cs1)), (D.val (Value.bool true)), (dI n4)]) ∧
 (((Qv (vI n4)) ∧
 (Qb ∧
 ((Qv (Sl 1010 (n3) (n3))) ∧
 ((Qv (Value.tuple [(Sl 1010 (n3) (n3)), (Value.bool true), (vI n4)].toArray)) ∧
 True)))) ∧
 (((Qv (vI n4)) ∧
 (Qb ∧
 True)) ∧
 (((Qv (vI n4)) ∧
 True) ∧
 (True ∧
 (∃ n5 : Int,
 ((Says C 23 [(D.agg [(dI x0), (dI x1), (dI x2), (dI x3), (dI x4), (dI x5), D.nil, (dI x7), (dI x8), (dI x9), (dI x10)])] [(dI n5)]) ∧
 (bcase (n5 != 0)
 (bcase (n2 == n5)
 (bcase (n4 == n5)
 (bcase (n1 == 0)
 (bcase ((↑n3 : Int) == 0)
 (k kF)
 (k kF))
 (k kF))
 (k kF))
 (k kF))
 (bcase (dL n16 1 l16)
 (∃ n6 : Int,
 (∃ n7 : Int,
 ((Says C 24 [(D.agg [(dI x0), (dI x1), (dI x2), (dI x3), (dI x4), (dI x5), D.nil, (dI x7), (dI x8), (dI x9), (dI x10)]), (D.agg [(dI x13), (dI x14), (dI x15), (Dw n16 1 l16)])] [(dI n6), (dI n7)]) ∧
 (bcase (n2 != n7)
 (k kF)
 (bcase (n1 != n6)
 (k kF)
 (bcase (dL n12 1 l12)
 (∃ n8 : Int,
 ((Says C 25 [(D.agg [(dI x0), (dI x1), (dI x2), (dI x3), (dI x4), (dI x5), D.nil, (dI x7), (dI x8), (dI x9), (dI x10)]), (D.agg [(D.val (Value.string (s11))), (Dw n12 1 l12)])] [(dI n8)]) ∧
 (bcase (n8 == 0)
 (bcase (n7 != 0)
 (bcase (n4 == n7)
 (bcase ((↑n3 : Int) == 0)
 (k kF)
 (k kF))
 (k kF))
 (bcase (dL n12 1 l12)
 (bcase (dL n16 1 l16)
 ((((Says C 26 [(D.agg [(dI x0), (dI x1), (dI x2), (dI x3), (dI x4), (dI x5), D.nil, (dI x7), (dI x8), (dI x9), (dI x10)]), (D.agg [(D.val (Value.string (s11))), (Dw n12 1 l12)]), (D.agg [(dI x13), (dI x14), (dI x15), (Dw n16 1 l16)])] [D.nil, (D.val (Value.bool true))]) ∧
 (bcase (n4 == 0)
 (bcase (dL n3 2 cs1)
 (((Says C 16 [(Dw n3 2 cs1), D.nil] kT) ∧
 (k kT)) ∨
 ((Says C 16 [(Dw n3 2 cs1), D.nil] kF) ∧
 (k kF)))
 False)
 (k kF))) ∨
 ((Says C 26 [(D.agg [(dI x0), (dI x1), (dI x2), (dI x3), (dI x4), (dI x5), D.nil, (dI x7), (dI x8), (dI x9), (dI x10)]), (D.agg [(D.val (Value.string (s11))), (Dw n12 1 l12)]), (D.agg [(dI x13), (dI x14), (dI x15), (Dw n16 1 l16)])] [D.nil, (D.val (Value.bool false))]) ∧
 (bcase (n4 == 0)
 (bcase (dL n3 2 cs1)
 (((Says C 16 [(Dw n3 2 cs1), D.nil] kT) ∧
 (k kF)) ∨
 ((Says C 16 [(Dw n3 2 cs1), D.nil] kF) ∧
 (k kF)))
 False)
 (k kF)))) ∨
 (∃ n9 : Nat,
 (∃ cs2 : List Go.Value,
 (((Says C 26 [(D.agg [(dI x0), (dI x1), (dI x2), (dI x3), (dI x4), (dI x5), D.nil, (dI x7), (dI x8), (dI x9), (dI x10)]), (D.agg [(D.val (Value.string (s11))), (Dw n12 1 l12)]), (D.agg [(dI x13), (dI x14), (dI x15), (Dw n16 1 l16)])] [(D.sl (n9) 2 (cs2)), (D.val (Value.bool true))]) ∧
 (bcase (n4 == 0)
 (bcase (dL n3 2 cs1)
 (bcase (dL n9 2 cs2)
 (((Says C 16 [(Dw n3 2 cs1), (Dw n9 2 cs2)] kT) ∧
 (k kT)) ∨
 ((Says C 16 [(Dw n3 2 cs1), (Dw n9 2 cs2)] kF) ∧
 (k kF)))
 False)
 False)
 (k kF))) ∨
 ((Says C 26 [(D.agg [(dI x0), (dI x1), (dI x2), (dI x3), (dI x4), (dI x5), D.nil, (dI x7), (dI x8), (dI x9), (dI x10)]), (D.agg [(D.val (Value.string (s11))), (Dw n12 1 l12)]), (D.agg [(dI x13), (dI x14), (dI x15), (Dw n16 1 l16)])] [(D.sl (n9) 2 (cs2)), (D.val (Value.bool false))]) ∧
 (bcase (n4 == 0)
 (bcase (dL n3 2 cs1)
 (bcase (dL n9 2 cs2)
 (((Says C 16 [(Dw n3 2 cs1), (Dw n9 2 cs2)] kT) ∧
 (k kF)) ∨
 ((Says C 16 [(Dw n3 2 cs1), (Dw n9 2 cs2)] kF) ∧
 (k kF)))
 False)
 False)
 (k kF)))))))
 False)
 False))
 (bcase (n8 != 0)
 (bcase (n4 == n8)
 (bcase ((↑n3 : Int) == 0)
 (k kF)
 (k kF))
 (k kF))
 (bcase (dL n12 1 l12)
 (bcase (dL n16 1 l16)
 ((((Says C 26 [(D.agg [(dI x0), (dI x1), (dI x2), (dI x3), (dI x4), (dI x5), D.nil, (dI x7), (dI x8), (dI x9), (dI x10)]), (D.agg [(D.val (Value.string (s11))), (Dw n12 1 l12)]), (D.agg [(dI x13), (dI x14), (dI x15), (Dw n16 1 l16)])] [D.nil, (D.val (Value.bool true))]) ∧
 (bcase (n4 == 0)
 (bcase (dL n3 2 cs1)
 (((Says C 16 [(Dw n3 2 cs1), D.nil] kT) ∧
 (k kT)) ∨
 ((Says C 16 [(Dw n3 2 cs1), D.nil] kF) ∧
 (k kF)))
 False)
 (k kF))) ∨
 ((Says C 26 [(D.agg [(dI x0), (dI x1), (dI x2), (dI x3), (dI x4), (dI x5), D.nil, (dI x7), (dI x8), (dI x9), (dI x10)]), (D.agg [(D.val (Value.string (s11))), (Dw n12 1 l12)]), (D.agg [(dI x13), (dI x14), (dI x15), (Dw n16 1 l16)])] [D.nil, (D.val (Value.bool false))]) ∧
 (bcase (n4 == 0)
 (bcase (dL n3 2 cs1)
 (((Says C 16 [(Dw n3 2 cs1), D.nil] kT) ∧
 (k kF)) ∨
 ((Says C 16 [(Dw n3 2 cs1), D.nil] kF) ∧
 (k kF)))
 False)
 (k kF)))) ∨
 (∃ n9 : Nat,
 (∃ cs2 : List Go.Value,
 (((Says C 26 [(D.agg [(dI x0), (dI x1), (dI x2), (dI x3), (dI x4), (dI x5), D.nil, (dI x7), (dI x8), (dI x9), (dI x10)]), (D.agg [(D.val (Value.string (s11))), (Dw n12 1 l12)]), (D.agg [(dI x13), (dI x14), (dI x15), (Dw n16 1 l16)])] [(D.sl (n9) 2 (cs2)), (D.val (Value.bool true))]) ∧
 (bcase (n4 == 0)
 (bcase (dL n3 2 cs1)
 (bcase (dL n9 2 cs2)
 (((Says C 16 [(Dw n3 2 cs1), (Dw n9 2 cs2)] kT) ∧
 (k kT)) ∨
 ((Says C 16 [(Dw n3 2 cs1), (Dw n9 2 cs2)] kF) ∧
 (k kF)))
 False)
 False)
 (k kF))) ∨
 ((Says C 26 [(D.agg [(dI x0), (dI x1), (dI x2), (dI x3), (dI x4), (dI x5), D.nil, (dI x7), (dI x8), (dI x9), (dI x10)]), (D.agg [(D.val (Value.string (s11))), (Dw n12 1 l12)]), (D.agg [(dI x13), (dI x14), (dI x15), (Dw n16 1 l16)])] [(D.sl (n9) 2 (cs2)), (D.val (Value.bool false))]) ∧
 (bcase (n4 == 0)
 (bcase (dL n3 2 cs1)
 (bcase (dL n9 2 cs2)
 (((Says C 16 [(Dw n3 2 cs1), (Dw n9 2 cs2)] kT) ∧
 (k kF)) ∨
 ((Says C 16 [(Dw n3 2 cs1), (Dw n9 2 cs2)] kF) ∧
 (k kF)))
 False)
 False)
 (k kF)))))))
 False)
 False)))))
 False))))))
 False)))))))))) ∨
 (∃ n4 : Int,
 ((Says C 22 [(D.agg [(dI x0), (dI x1), (dI x2), (dI x3), (dI x4), (dI x5), (D.sl 0 5 []), (dI x7), (dI x8), (dI x9), (dI x10)]), (D.agg [(D.val (Value.string (s11))), (Dw n12 1 (Tk n12 1 l12))]), (D.agg [(dI x13), (dI x14), (dI x15), (Dw n16 1 (Tk n16 1 l16))])] [(D.sl (n3) 2 (cs1)), (D.val (Value.bool false)), (dI n4)]) ∧
 (((Qv (vI n4)) ∧
 (Qf ∧
 ((Qv (Sl 1010 (n3) (n3))) ∧
 ((Qv (Value.tuple [(Sl 1010 (n3) (n3)), (Value.bool false), (vI n4)].toArray)) ∧
 True)))) ∧
 (((Qv (vI n4)) ∧
 (Qf ∧
 True)) ∧
 (((Qv (vI n4)) ∧
 True) ∧
 (True ∧
 (∃ n5 : Int,
 ((Says C 23 [(D.agg [(dI x0), (dI x1), (dI x2), (dI x3), (dI x4), (dI x5), D.nil, (dI x7), (dI x8), (dI x9), (dI x10)])] [(dI n5)]) ∧
 (bcase (n5 != 0)
 (bcase (n2 == n5)
 (bcase (n4 == n5)
 (bcase (n1 == 0)
 (bcase ((↑n3 : Int) == 0)
 (k kT)
 (k kF))
 (k kF))
 (k kF))
 (k kF))
 (bcase (dL n16 1 l16)
 (∃ n6 : Int,
 (∃ n7 : Int,
 ((Says C 24 [(D.agg [(dI x0), (dI x1), (dI x2), (dI x3), (dI x4), (dI x5), D.nil, (dI x7), (dI x8), (dI x9), (dI x10)]), (D.agg [(dI x13), (dI x14), (dI x15), (Dw n16 1 l16)])] [(dI n6), (dI n7)]) ∧
 (bcase (n2 != n7)
 (k kF)
 (bcase (n1 != n6)
 (k kF)
 (bcase (dL n12 1 l12)
 (∃ n8 : Int,
 ((Says C 25 [(D.agg [(dI x0), (dI x1), (dI x2), (dI x3), (dI x4), (dI x5), D.nil, (dI x7), (dI x8), (dI x9), (dI x10)]), (D.agg [(D.val (Value.string (s11))), (Dw n12 1 l12)])] [(dI n8)]) ∧
 (bcase (n8 == 0)
 (bcase (n7 != 0)
 (bcase (n4 == n7)
 (bcase ((↑n3 : Int) == 0)
 (k kT)
 (k kF))
 (k kF))
 (bcase (dL n12 1 l12)
 (bcase (dL n16 1 l16)
 ((((Says C 26 [(D.agg [(dI x0), (dI x1), (dI x2), (dI x3), (dI x4), (dI x5), D.nil, (dI x7), (dI x8), (dI x9), (dI x10)]), (D.agg [(D.val (Value.string (s11))), (Dw n12 1 l12)]), (D.agg [(dI x13), (dI x14), (dI x15), (Dw n16 1 l16)])] [D.nil, (D.val (Value.bool true))]) ∧
 (bcase (n4 == 0)
 (bcase (dL n3 2 cs1)
 (((Says C 16 [(Dw n3 2 cs1), D.nil] kT) ∧
 (k kF)) ∨
 ((Says C 16 [(Dw n3 2 cs1), D.nil] kF) ∧
 (k kF)))
 False)
 (k kF))) ∨
 ((Says C 26 [(D.agg [(dI x0), (dI x1), (dI x2), (dI x3), (dI x4), (dI x5), D.nil, (dI x7), (dI x8), (dI x9), (dI x10)]), (D.agg [(D.val (Value.string (s11))), (Dw n12 1 l12)]), (D.agg [(dI x13), (dI x14), (dI x15), (Dw n16 1 l16)])] [D.nil, (D.val (Value.bool false))]) ∧
 (bcase (n4 == 0)
 (bcase (dL n3 2 cs1)
 (((Says C 16 [(Dw n3 2 cs1), D.nil] kT) ∧
 (k kT)) ∨
 ((Says C 16 [(Dw n3 2 cs1), D.nil] kF) ∧
 (k kF)))
 False)
 (k kF)))) ∨
 (∃ n9 : Nat,
 (∃ cs2 : List Go.Value,
 (((Says C 26 [(D.agg [(dI x0), (dI x1), (dI x2), (dI x3), (dI x4), (dI x5), D.nil, (dI x7), (dI x8), (dI x9), (dI x10)]), (D.agg [(D.val (Value.string (s11))), (Dw n12 1 l12)]), (D.agg [(dI x13), (dI x14), (dI x15), (Dw n16 1 l16)])] [(D.sl (n9) 2 (cs2)), (D.val (Value.bool true))]) ∧
 (bcase (n4 == 0)
 (bcase (dL n3 2 cs1)
 (bcase (dL n9 2 cs2)
 (((Says C 16 [(Dw n3 2 cs1), (Dw n9 2 cs2)] kT) ∧
 (k kF)) ∨
 ((Says C 16 [(Dw n3 2 cs1), (Dw n9 2 cs2)] kF) ∧
 (k kF)))
 False)
 False)
 (k kF))) ∨
 ((Says C 26 [(D.agg [(dI x0), (dI x1), (dI x2), (dI x3), (dI x4), (dI x5), D.nil, (dI x7), (dI x8), (dI x9), (dI x10)]), (D.agg [(D.val (Value.string (s11))), (Dw n12 1 l12)]), (D.agg [(dI x13), (dI x14), (dI x15), (Dw n16 1 l16)])] [(D.sl (n9) 2 (cs2)), (D.val (Value.bool false))]) ∧
 (bcase (n4 == 0)
 (bcase (dL n3 2 cs1)
 (bcase (dL n9 2 cs2)
 (((Says C 16 [(Dw n3 2 cs1), (Dw n9 2 cs2)] kT) ∧
 (k kT)) ∨
 ((Says C 16 [(Dw n3 2 cs1), (Dw n9 2 cs2)] kF) ∧
 (k kF)))
 False)
 False)
 (k kF)))))))
 False)
 False))
 (bcase (n8 != 0)
 (bcase (n4 == n8)
 (bcase ((↑n3 : Int) == 0)
 (k kT)
 (k kF))
 (k kF))
 (bcase (dL n12 1 l12)
 (bcase (dL n16 1 l16)
 ((((Says C 26 [(D.agg [(dI x0), (dI x1), (dI x2), (dI x3), (dI x4), (dI x5), D.nil, (dI x7), (dI x8), (dI x9), (dI x10)]), (D.agg [(D.val (Value.string (s11))), (Dw n12 1 l12)]), (D.agg [(dI x13), (dI x14), (dI x15), (Dw n16 1 l16)])] [D.nil, (D.val (Value.bool true))]) ∧
 (bcase (n4 == 0)
 (bcase (dL n3 2 cs1)
 (((Says C 16 [(Dw n3 2 cs1), D.nil] kT) ∧
 (k kF)) ∨
 ((Says C 16 [(Dw n3 2 cs1), D.nil] kF) ∧
 (k kF)))
 False)
 (k kF))) ∨
 ((Says C 26 [(D.agg [(dI x0), (dI x1), (dI x2), (dI x3), (dI x4), (dI x5), D.nil, (dI x7), (dI x8), (dI x9), (dI x10)]), (D.agg [(D.val (Value.string (s11))), (Dw n12 1 l12)]), (D.agg [(dI x13), (dI x14), (dI x15), (Dw n16 1 l16)])] [D.nil, (D.val (Value.bool false))]) ∧
 (bcase (n4 == 0)
 (bcase (dL n3 2 cs1)
 (((Says C 16 [(Dw n3 2 cs1), D.nil] kT) ∧
 (k kT)) ∨
 ((Says C 16 [(Dw n3 2 cs1), D.nil] kF) ∧
 (k kF)))
 False)
 (k kF)))) ∨
 (∃ n9 : Nat,
 (∃ cs2 : List Go.Value,
 (((Says C 26 [(D.agg [(dI x0), (dI x1), (dI x2), (dI x3), (dI x4), (dI x5), D.nil, (dI x7), (dI x8), (dI x9), (dI x10)]), (D.agg [(D.val (Value.string (s11))), (Dw n12 1 l12)]), (D.agg [(dI x13), (dI x14), (dI x15), (Dw n16 1 l16)])] [(D.sl (n9) 2 (cs2)), (D.val (Value.bool true))]) ∧
 (bcase (n4 == 0)
 (bcase (dL n3 2 cs1)
 (bcase (dL n9 2 cs2)
 (((Says C 16 [(Dw n3 2 cs1), (Dw n9 2 cs2)] kT) ∧
 (k kF)) ∨
 ((Says C 16 [(Dw n3 2 cs1), (Dw n9 2 cs2)] kF) ∧
 (k kF)))
 False)
 False)
 (k kF))) ∨
 ((Says C 26 [(D.agg [(dI x0), (dI x1), (dI x2), (dI x3), (dI x4), (dI x5), D.nil, (dI x7), (dI x8), (dI x9), (dI x10)]), (D.agg [(D.val (Value.string (s11))), (Dw n12 1 l12)]), (D.agg [(dI x13), (dI x14), (dI x15), (Dw n16 1 l16)])] [(D.sl (n9) 2 (cs2)), (D.val (Value.bool false))]) ∧
 (bcase (n4 == 0)
 (bcase (dL n3 2 cs1)
 (bcase (dL n9 2 cs2)
 (((Says C 16 [(Dw n3 2 cs1), (Dw n9 2 cs2)] kT) ∧
 (k kT)) ∨
 ((Says C 16 [(Dw n3 2 cs1), (Dw n9 2 cs2)] kF) ∧
 (k kF)))
 False)
 False)
 (k kF)))))))
 False)
 False)))))
 False))))))
 False))))))))))))))
 False)
 False)))
 False)))
 False))))))))))
 False)))
 False)))))
 (k kT))
 (k kT))) ∨
 ((Says C 6 [] kF) ∧
 (k kF))) := by kernel_rfl
def gM5 (C : Ct) (L : AtLoop) (x0 : Int) (x1 : Int) (x2 : Int) (x3 : Int) (x4 : Int) (x5 : Int) (x7 : Int) (x8 : Int) (x9 : Int) (x10 : Int) (s11 : ByteArray) (n12 : Nat) (c12 : Nat) (l12 : List Value) (x13 : Int) (x14 : Int) (x15 : Int) (k : List D → Prop) : Prop := wpFn Try.prog (hQ C) L 0 4 #[.agg #[.int .i64 x0, .int .i64 x1, .int .i64 x2, .int .i64 x3, .int .i64 x4, .int .i64 x5, .slice none 0 0, .int .i64 x7, .int .i64 x8, .int .i64 x9, .int .i64 x10], .agg #[.string s11, .slice (some ⟨500, 0, none⟩) n12 c12], .agg #[.int .i64 x13, .int .i64 x14, .int .i64 x15, .slice none 0 0]] (heapOf [(500, .sym l12 false 1)]) (dataK k)
theorem gM5_text (C : Ct) (L : AtLoop) (x0 : Int) (x1 : Int) (x2 : Int) (x3 : Int) (x4 : Int) (x5 : Int) (x7 : Int) (x8 : Int) (x9 : Int) (x10 : Int) (s11 : ByteArray) (n12 : Nat) (c12 : Nat) (l12 : List Go.Value) (x13 : Int) (x14 : Int) (x15 : Int) (k : List D → Prop) : gM5 C L x0 x1 x2 x3 x4 x5 x7 x8 x9 x10 s11 n12 c12 l12 x13 x14 x15 k =
 (((Says C 6 [] kT) ∧
 (bcase (decide ((↑n12 : Int) ≤ 8))
 (bcase (decide ((↑(ByteArray.size s11) : Int) ≤ 30))
 (((Qv (Value.agg [(vI x13), (vI x14), (vI x15), (Value.slice none 0 0)].toArray)) ∧
 ((Qv (Value.agg [(vI x0), (vI x1), (vI x2), (vI x3), (vI x4), (vI x5), (Value.slice none 0 0), (vI x7), (vI x8), (vI x9), (vI x10)].toArray)) ∧
 True)) ∧
 ((Says C 9 [(D.agg [(dI x0), (dI x1), (dI x2), (dI x3), (dI x4), (dI x5), D.nil, (dI x7), (dI x8), (dI x9), (dI x10)])] [(D.agg [(dI x0), (dI x1), (dI x2), (dI x3), (dI x4), (dI x5), (D.sl 0 5 []), (dI x7), (dI x8), (dI x9), (dI x10)])]) ∧
 (((Qv (Value.agg [(vI x13), (vI x14), (vI x15), (Value.slice none 0 0)].toArray)) ∧
 True) ∧
 ((Says C 21 [(D.agg [(dI x13), (dI x14), (dI x15), D.nil])] [(D.agg [(dI x13), (dI x14), (dI x15), (D.sl 0 1 [])])]) ∧
 (True ∧
 (∃ n1 : Int,
 (∃ n2 : Int,
 ((Says C 20 [(D.agg [(dI x0), (dI x1), (dI x2), (dI x3), (dI x4), (dI x5), (D.sl 0 5 []), (dI x7), (dI x8), (dI x9), (dI x10)]), (D.agg [(dI x13), (dI x14), (dI x15), (D.sl 0 1 [])])] [(dI n1), (dI n2)]) ∧
 (((Qv (vI n2)) ∧
 ((Qv (vI n1)) ∧
 ((Qv (Value.tuple [(vI n1), (vI n2)].toArray)) ∧
 True))) ∧
 (((Qv (vI n2)) ∧
 True) ∧
 (True ∧
 (((Qv (Value.agg [(vI x13), (vI x14), (vI x15), (Value.slice none 0 0)].toArray)) ∧
 ((Qv (Value.agg [(Value.string (s11)), (Sl 500 (n12) (c12))].toArray)) ∧
 ((Qv (Value.agg [(vI x0), (vI x1), (vI x2), (vI x3), (vI x4), (vI x5), (Value.slice none 0 0), (vI x7), (vI x8), (vI x9), (vI x10)].toArray)) ∧
 True))) ∧
 ((Says C 9 [(D.agg [(dI x0), (dI x1), (dI x2), (dI x3), (dI x4), (dI x5), D.nil, (dI x7), (dI x8), (dI x9), (dI x10)])] [(D.agg [(dI x0), (dI x1), (dI x2), (dI x3), (dI x4), (dI x5), (D.sl 0 5 []), (dI x7), (dI x8), (dI x9), (dI x10)])]) ∧
 (((Qv (Value.agg [(vI x13), (vI x14), (vI x15), (Value.slice none 0 0)].toArray)) ∧
 ((Qv (Value.agg [(Value.string (s11)), (Sl 500 (n12) (c12))].toArray)) ∧
 True)) ∧
 (bcase (dL n12 1 l12)
 ((Says C 11 [(D.agg [(D.val (Value.string (s11))), (Dw n12 1 l12)])] [(D.agg [(D.val (Value.string (s11))), (Dw n12 1 l12)])]) ∧
 (((Qv (Value.agg [(vI x13), (vI x14), (vI x15), (Value.slice none 0 0)].toArray)) ∧
 True) ∧
 ((Says C 21 [(D.agg [(dI x13), (dI x14), (dI x15), D.nil])] [(D.agg [(dI x13), (dI x14), (dI x15), (D.sl 0 1 [])])]) ∧
 (True ∧
 (bcase (dL n12 1 (Tk n12 1 l12))
 (((∃ n3 : Int,
 ((Says C 22 [(D.agg [(dI x0), (dI x1), (dI x2), (dI x3), (dI x4), (dI x5), (D.sl 0 5 []), (dI x7), (dI x8), (dI x9), (dI x10)]), (D.agg [(D.val (Value.string (s11))), (Dw n12 1 (Tk n12 1 l12))]), (D.agg [(dI x13), (dI x14), (dI x15), (D.sl 0 1 [])])] [D.nil, (D.val (Value.bool true)), (dI n3)]) ∧
 (((Qv (vI n3)) ∧
 (Qb ∧
 ((Qv (Value.slice none 0 0)) ∧
 ((Qv (Value.tuple [(Value.slice none 0 0), (Value.bool true), (vI n3)].toArray)) ∧
 True)))) ∧
 (((Qv (vI n3)) ∧
 (Qb ∧
 True)) ∧
 (((Qv (vI n3)) ∧
 True) ∧
 (True ∧
 (∃ n4 : Int,
 ((Says C 23 [(D.agg [(dI x0), (dI x1), (dI x2), (dI x3), (dI x4), (dI x5), D.nil, (dI x7), (dI x8), (dI x9), (dI x10)])] [(dI n4)]) ∧
 (bcase (n4 != 0)
 (bcase (n2 == n4)
 (bcase (n3 == n4)
 (bcase (n1 == 0)
 (k kF)
 (k kF))
 (k kF))
 (k kF))
 (∃ n5 : Int,
 (∃ n6 : Int,
 ((Says C 24 [(D.agg [(dI x0), (dI x1), (dI x2), (dI x3), (dI x4), (dI x5), D.nil, (dI x7), (dI x8), (dI x9), (dI x10)]), (D.agg [(dI x13), (dI x14), (dI x15), D.nil])] [(dI n5), (dI n6)]) ∧
 (bcase (n2 != n6)
 (k kF)
 (bcase (n1 != n5)
 (k kF)
 (bcase (dL n12 1 l12)
 (∃ n7 : Int,
 ((Says C 25 [(D.agg [(dI x0), (dI x1), (dI x2), (dI x3), (dI x4), (dI x5), D.nil, (dI x7), (dI x8), (dI x9), (dI x10)]), (D.agg [(D.val (Value.string (s11))), (Dw n12 1 l12)])] [(dI n7)]) ∧
 (bcase (n7 == 0)
 (bcase (n6 != 0)
 (bcase (n3 == n6)
 (k kF)
 (k kF))
 (bcase (dL n12 1 l12)
 ((((Says C 26 [(D.agg [(dI x0), (dI x1), (dI x2), (dI x3), (dI x4), (dI x5), D.nil, (dI x7), (dI x8), (dI x9), (dI x10)]), (D.agg [(D.val (Value.string (s11))), (Dw n12 1 l12)]), (D.agg [(dI x13), (dI x14), (dI x15), D.nil])] [D.nil, (D.val (Value.bool true))]) ∧
 (bcase (n3 == 0)
 (((Says C 16 [D.nil, D.nil] kT) ∧
 (k kT)) ∨
 ((Says C 16 [D.nil, D.nil] kF) ∧
 (k kF)))
 (k kF))) ∨
 ((Says C 26 [(D.agg [(dI x0), (dI x1), (dI x2), (dI x3), (dI x4), (dI x5), D.nil, (dI x7), (dI x8), (dI x9), (dI x10)]), (D.agg [(D.val (Value.string (s11))), (Dw n12 1 l12)]), (D.agg [(dI x13), (dI x14), (dI x15), D.nil])] [D.nil, (D.val (Value.bool false))]) ∧
 (bcase (n3 == 0)
 (((Says C 16 [D.nil, D.nil] kT) ∧
 (k kF)) ∨
 ((Says C 16 [D.nil, D.nil] kF) ∧
 (k kF)))
 (k kF)))) ∨
 (∃ n8 : Nat,
 (∃ cs1 : List Go.Value,
 (((Says C 26 [(D.agg [(dI x0), (dI x1), (dI x2), (dI x3), (dI x4), (dI x5), D.nil, (dI x7), (dI x8), (dI x9), (dI x10)]), (D.agg [(D.val (Value.string (s11))), (Dw n12 1 l12)]), (D.agg [(dI x13), (dI x14), (dI x15), D.nil])] [(D.sl (n8) 2 (cs1)), (D.val (Value.bool true))]) ∧
 (bcase (n3 == 0)
 (bcase (dL n8 2 cs1)
 (((Says C 16 [D.nil, (Dw n8 2 cs1)] kT) ∧
 (k kT)) ∨
 ((Says C 16 [D.nil, (Dw n8 2 cs1)] kF) ∧
 (k kF)))
 False)
 (k kF))) ∨
 ((Says C 26 [(D.agg [(dI x0), (dI x1), (dI x2), (dI x3), (dI x4), (dI x5), D.nil, (dI x7), (dI x8), (dI x9), (dI x10)]), (D.agg [(D.val (Value.string (s11))), (Dw n12 1 l12)]), (D.agg [(dI x13), (dI x14), (dI x15), D.nil])] [(D.sl (n8) 2 (cs1)), (D.val (Value.bool false))]) ∧
 (bcase (n3 == 0)
 (bcase (dL n8 2 cs1)
 (((Says C 16 [D.nil, (Dw n8 2 cs1)] kT) ∧
 (k kF)) ∨
 ((Says C 16 [D.nil, (Dw n8 2 cs1)] kF) ∧
 (k kF)))
 False)
 (k kF)))))))
 False))
 (bcase (n7 != 0)
 (bcase (n3 == n7)
 (k kF)
 (k kF))
 (bcase (dL n12 1 l12)
 ((((Says C 26 [(D.agg [(dI x0), (dI x1), (dI x2), (dI x3), (dI x4), (dI x5), D.nil, (dI x7), (dI x8), (dI x9), (dI x10)]), (D.agg [(D.val (Value.string (s11))), (Dw n12 1 l12)]), (D.agg [(dI x13), (dI x14), (dI x15), D.nil])] [D.nil, (D.val (Value.bool true))]) ∧
 (bcase (n3 == 0)
 (((Says C 16 [D.nil, D.nil] kT) ∧
 (k kT)) ∨
 ((Says C 16 [D.nil, D.nil] kF) ∧
 (k kF)))
 (k kF))) ∨
 ((Says C 26 [(D.agg [(dI x0), (dI x1), (dI x2), (dI x3), (dI x4), (dI x5), D.nil, (dI x7), (dI x8), (dI x9), (dI x10)]), (D.agg [(D.val (Value.string (s11))), (Dw n12 1 l12)]), (D.agg [(dI x13), (dI x14), (dI x15), D.nil])] [D.nil, (D.val (Value.bool false))]) ∧
 (bcase (n3 == 0)
 (((Says C 16 [D.nil, D.nil] kT) ∧
 (k kF)) ∨
 ((Says C 16 [D.nil, D.nil] kF) ∧
 (k kF)))
 (k kF)))) ∨
 (∃ n8 : Nat,
 (∃ cs1 : List Go.Value,
 (((Says C 26 [(D.agg [(dI x0), (dI x1), (dI x2), (dI x3), (dI x4), (dI x5), D.nil, (dI x7), (dI x8), (dI x9), (dI x10)]), (D.agg [(D.val (Value.string (s11))), (Dw n12 1 l12)]), (D.agg [(dI x13), (dI x14), (dI x15), D.nil])] [(D.sl (n8) 2 (cs1)), (D.val (Value.bool true))]) ∧
 (bcase (n3 == 0)
 (bcase (dL n8 2 cs1)
 (((Says C 16 [D.nil, (Dw n8 2 cs1)] kT) ∧
 (k kT)) ∨
 ((Says C 16 [D.nil, (Dw n8 2 cs1)] kF) ∧
 (k kF)))
 False)
 (k kF))) ∨
 ((Says C 26 [(D.agg [(dI x0), (dI x1), (dI x2), (dI x3), (dI x4), (dI x5), D.nil, (dI x7), (dI x8), (dI x9), (dI x10)]), (D.agg [(D.val (Value.string (s11))), (Dw n12 1 l12)]), (D.agg [(dI x13), (dI x14), (dI x15), D.nil])] [(D.sl (n8) 2 (cs1)), (D.val (Value.bool false))]) ∧
 (bcase (n3 == 0)
 (bcase (dL n8 2 cs1)
 (((Says C 16 [D.nil, (Dw n8 2 cs1)] kT) ∧
 (k kF)) ∨
 ((Says C 16 [D.nil, (Dw n8 2 cs1)] kF) ∧
 (k kF)))
 False)
 (k kF)))))))
 False)))))
 False))))))))))))))) ∨
 (∃ n3 : Int,
 ((Says C 22 [(D.agg [(dI x0), (dI x1), (dI x2), (dI x3), (dI x4), (dI x5), (D.sl 0 5 []), (dI x7), (dI x8), (dI x9), (dI x10)]), (D.agg [(D.val (Value.string (s11))), (Dw n12 1 (Tk n12 1 l12))]), (D.agg [(dI x13), (dI x14), (dI x15), (D.sl 0 1 [])])] [D.nil, (D.val (Value.bool false)), (dI n3)]) ∧
 (((Qv (vI n3)) ∧
 (Qf ∧
 ((Qv (Value.slice none 0 0)) ∧
 ((Qv (Value.tuple [(Value.slice none 0 0), (Value.bool false), (vI n3)].toArray)) ∧
 True)))) ∧
 (((Qv (vI n3)) ∧
 (Qf ∧
 True)) ∧
 (((Qv (vI n3)) ∧
 True) ∧
 (True ∧
 (∃ n4 : Int,
 ((Says C 23 [(D.agg [(dI x0), (dI x1), (dI x2), (dI x3), (dI x4), (dI x5), D.nil, (dI x7), (dI x8), (dI x9), (dI x10)])] [(dI n4)]) ∧
 (bcase (n4 != 0)
 (bcase (n2 == n4)
 (bcase (n3 == n4)
 (bcase (n1 == 0)
 (k kT)
 (k kF))
 (k kF))
 (k kF))
 (∃ n5 : Int,
 (∃ n6 : Int,
 ((Says C 24 [(D.agg [(dI x0), (dI x1), (dI x2), (dI x3), (dI x4), (dI x5), D.nil, (dI x7), (dI x8), (dI x9), (dI x10)]), (D.agg [(dI x13), (dI x14), (dI x15), D.nil])] [(dI n5), (dI n6)]) ∧
 (bcase (n2 != n6)
 (k kF)
 (bcase (n1 != n5)
 (k kF)
 (bcase (dL n12 1 l12)
 (∃ n7 : Int,
 ((Says C 25 [(D.agg [(dI x0), (dI x1), (dI x2), (dI x3), (dI x4), (dI x5), D.nil, (dI x7), (dI x8), (dI x9), (dI x10)]), (D.agg [(D.val (Value.string (s11))), (Dw n12 1 l12)])] [(dI n7)]) ∧
 (bcase (n7 == 0)
 (bcase (n6 != 0)
 (bcase (n3 == n6)
 (k kT)
 (k kF))
 (bcase (dL n12 1 l12)
 ((((Says C 26 [(D.agg [(dI x0), (dI x1), (dI x2), (dI x3), (dI x4), (dI x5), D.nil, (dI x7), (dI x8), (dI x9), (dI x10)]), (D.agg [(D.val (Value.string (s11))), (Dw n12 1 l12)]), (D.agg [(dI x13), (dI x14), (dI x15), D.nil])] [D.nil, (D.val (Value.bool true))]) ∧
 (bcase (n3 == 0)
 (((Says C 16 [D.nil, D.nil] kT) ∧
 (k kF)) ∨
 ((Says C 16 [D.nil, D.nil] kF) ∧
 (k kF)))
 (k kF))) ∨
 ((Says C 26 [(D.agg [(dI x0), (dI x1), (dI x2), (dI x3), (dI x4), (dI x5), D.nil, (dI x7), (dI x8), (dI x9), (dI x10)]), (D.agg [(D.val (Value.string (s11))), (Dw n12 1 l12)]), (D.agg [(dI x13), (dI x14), (dI x15), D.nil])] [D.nil, (D.val (Value.bool false))]) ∧
 (bcase (n3 == 0)
 (((Says C 16 [D.nil, D.nil] kT) ∧
 (k kT)) ∨
 ((Says C 16 [D.nil, D.nil] kF) ∧
 (k kF)))
 (k kF)))) ∨
 (∃ n8 : Nat,
 (∃ cs1 : List Go.Value,
 (((Says C 26 [(D.agg [(dI x0), (dI x1), (dI x2), (dI x3), (dI x4), (dI x5), D.nil, (dI x7), (dI x8), (dI x9), (dI x10)]), (D.agg [(D.val (Value.string (s11))), (Dw n12 1 l12)]), (D.agg [(dI x13), (dI x14), (dI x15), D.nil])] [(D.sl (n8) 2 (cs1)), (D.val (Value.bool true))]) ∧
 (bcase (n3 == 0)
 (bcase (dL n8 2 cs1)
 (((Says C 16 [D.nil, (Dw n8 2 cs1)] kT) ∧
 (k kF)) ∨
 ((Says C 16 [D.nil, (Dw n8 2 cs1)] kF) ∧
 (k kF)))
 False)
 (k kF))) ∨
 ((Says C 26 [(D.agg [(dI x0), (dI x1), (dI x2), (dI x3), (dI x4), (dI x5), D.nil, (dI x7), (dI x8), (dI x9), (dI x10)]), (D.agg [(D.val (Value.string (s11))), (Dw n12 1 l12)]), (D.agg [(dI x13), (dI x14), (dI x15), D.nil])] [(D.sl (n8) 2 (cs1)), (D.val (Value.bool false))]) ∧
 (bcase (n3 == 0)
 (bcase (dL n8 2 cs1)
 (((Says C 16 [D.nil, (Dw n8 2 cs1)] kT) ∧
 (k kT)) ∨
 ((Says C 16 [D.nil, (Dw n8 2 cs1)] kF) ∧
 (k kF)))
 False)
 (k kF)))))))
 False))
 (bcase (n7 != 0)
 (bcase (n3 == n7)
 (k kT)
 (k kF))
 (bcase (dL n12 1 l12)
 ((((Says C 26 [(D.agg [(dI x0), (dI x1), (dI x2), (dI x3), (dI x4), (dI x5), D.nil, (dI x7), (dI x8), (dI x9), (dI x10)]), (D.agg [(D.val (Value.string (s11))), (Dw n12 1 l12)]), (D.agg [(dI x13), (dI x14), (dI x15), D.nil])] [D.nil, (D.val (Value.bool true))]) ∧
 (bcase (n3 == 0)
 (((Says C 16 [D.nil, D.nil] kT) ∧
 (k kF)) ∨
 ((Says C 16 [D.nil, D.nil] kF) ∧
 (k kF)))
 (k kF))) ∨
 ((Says C 26 [(D.agg [(dI x0), (dI x1), (dI x2), (dI x3), (dI x4), (dI x5), D.nil, (dI x7), (dI x8), (dI x9), (dI x10)]), (D.agg [(D.val (Value.string (s11))), (Dw n12 1 l12)]), (D.agg [(dI x13), (dI x14), (dI x15), D.nil])] [D.nil, (D.val (Value.bool false))]) ∧
 (bcase (n3 == 0)
 (((Says C 16 [D.nil, D.nil] kT) ∧
 (k kT)) ∨
 ((Says C 16 [D.nil, D.nil] kF) ∧
 (k kF)))
 (k kF)))) ∨
 (∃ n8 : Nat,
 (∃ cs1 : List Go.Value,
 (((Says C 26 [(D.agg [(dI x0), (dI x1), (dI x2), (dI x3), (dI x4), (dI x5), D.nil, (dI x7), (dI x8), (dI x9), (dI x10)]), (D.agg [(D.val (Value.string (s11))), (Dw n12 1 l12)]), (D.agg [(dI x13), (dI x14), (dI x15), D.nil])] [(D.sl (n8) 2 (cs1)), (D.val (Value.bool true))]) ∧
 (bcase (n3 == 0)
 (bcase (dL n8 2 cs1)
 (((Says C 16 [D.nil, (Dw n8 2 cs1)] kT) ∧
 (k kF)) ∨
 ((Says C 16 [D.nil, (Dw n8 2 cs1)] kF) ∧
 (k kF)))
 False)
 (k kF))) ∨
 ((Says C 26 [(D.agg [(dI x0), (dI x1), (dI x2), (dI x3), (dI x4), (dI x5), D.nil, (dI x7), (dI x8), (dI x9), (dI x10)]), (D.agg [(D.val (Value.string (s11))), (Dw n12 1 l12)]), (D.agg [(dI x13), (dI x14), (dI x15), D.nil])] [(D.sl (n8) 2 (cs1)), (D.val (Value.bool false))]) ∧
 (bcase (n3 == 0)
 (bcase (dL n8 2 cs1)
 (((Says C 16 [D.nil, (Dw n8 2 cs1)] kT) ∧
 (k kT)) ∨
 ((Says C 16 [D.nil, (Dw n8 2 cs1)] kF) ∧
 (k kF)))
 False)
 (k kF)))))))
 False)))))
 False)))))))))))))))) ∨
 (∃ n3 : Nat,
 (∃ cs1 : List Go.Value,
 ((∃ n4 : Int,
 ((Says C 22 [(D.agg [(dI x0), (dI x1), (dI x2), (dI x3), (dI x4), (dI x5), (D.sl 0 5 []), (dI x7), (dI x8), (dI x9), (dI x10)]), (D.agg [(D.val (Value.string (s11))), (Dw n12 1 (Tk n12 1 l12))]), (D.agg [(dI x13), (dI x14), (dI x15), (D.sl 0 1 [])])] [(D.sl (n3) 2 (cs1)), (D.val (Value.bool true)), (dI n4)]) ∧
 (((Qv (vI n4)) ∧
 (Qb ∧
 ((Qv (Sl 1010 (n3) (n3))) ∧
 ((Qv (Value.tuple [(Sl 1010 (n3) (n3)), (Value.bool true), (vI n4)].toArray)) ∧
 True)))) ∧
 (((Qv (vI n4)) ∧
 (Qb ∧
 True)) ∧
 (((Qv (vI n4)) ∧
 True) ∧
 (True ∧
 (∃ n5 : Int,
 ((Says C 23 [(D.agg [(dI x0), (dI x1), (dI x2), (dI x3), (dI x4), (dI x5), D.nil, (dI x7), (dI x8), (dI x9), (dI x10)])] [(dI n5)]) ∧
 (bcase (n5 != 0)
 (bcase (n2 == n5)
 (bcase (n4 == n5)
 (bcase (n1 == 0)
 (bcase ((↑n3 : Int) == 0)
 (k kF)
 (k kF))
 (k kF))
 (k kF))
 (k kF))
 (∃ n6 : Int,
 (∃ n7 : Int,
 ((Says C 24 [(D.agg [(dI x0), (dI x1), (dI x2), (dI x3), (dI x4), (dI x5), D.nil, (dI x7), (dI x8), (dI x9), (dI x10)]), (D.agg [(dI x13), (dI x14), (dI x15), D.nil])] [(dI n6), (dI n7)]) ∧
 (bcase (n2 != n7)
 (k kF)
 (bcase (n1 != n6)
 (k kF)
 (bcase (dL n12 1 l12)
 (∃ n8 : Int,
 ((Says C 25 [(D.agg [(dI x0), (dI x1), (dI x2), (dI x3), (dI x4), (dI x5), D.nil, (dI x7), (dI x8), (dI x9), (dI x10)]), (D.agg [(D.val (Value.string (s11))), (Dw n12 1 l12)])] [(dI n8)]) ∧
 (bcase (n8 == 0)
 (bcase (n7 != 0)
 (bcase (n4 == n7)
 (bcase ((↑n3 : Int) == 0)
 (k kF)
 (k kF))
 (k kF))
 (bcase (dL n12 1 l12)
 ((((Says C 26 [(D.agg [(dI x0), (dI x1), (dI x2), (dI x3), (dI x4), (dI x5), D.nil, (dI x7), (dI x8), (dI x9), (dI x10)]), (D.agg [(D.val (Value.string (s11))), (Dw n12 1 l12)]), (D.agg [(dI x13), (dI x14), (dI x15), D.nil])] [D.nil, (D.val (Value.bool true))]) ∧
 (bcase (n4 == 0)
 (bcase (dL n3 2 cs1)
 (((Says C 16 [(Dw n3 2 cs1), D.nil] kT) ∧
 (k kT)) ∨
 ((Says C 16 [(Dw n3 2 cs1), D.nil] kF) ∧
 (k kF)))
 False)
 (k kF))) ∨
 ((Says C 26 [(D.agg [(dI x0), (dI x1), (dI x2), (dI x3), (dI x4), (dI x5), D.nil, (dI x7), (dI x8), (dI x9), (dI x10)]), (D.agg [(D.val (Value.string (s11))), (Dw n12 1 l12)]), (D.agg [(dI x13), (dI x14), (dI x15), D.nil])] [D.nil, (D.val (Value.bool false))]) ∧
 (bcase (n4 == 0)
 (bcase (dL n3 2 cs1)
 (((Says C 16 [(Dw n3 2 cs1), D.nil] kT) ∧
 (k kF)) ∨
 ((Says C 16 [(Dw n3 2 cs1), D.nil] kF) ∧
 (k kF)))
 False)
 (k kF)))) ∨
 (∃ n9 : Nat,
 (∃ cs2 : List Go.Value,
 (((Says C 26 [(D.agg [(dI x0), (dI x1), (dI x2), (dI x3), (dI x4), (dI x5), D.nil, (dI x7), (dI x8), (dI x9), (dI x10)]), (D.agg [(D.val (Value.string (s11))), (Dw n12 1 l12)]), (D.agg [(dI x13), (dI x14), (dI x15), D.nil])] [(D.sl (n9) 2 (cs2)), (D.val (Value.bool true))]) ∧
 (bcase (n4 == 0)
 (bcase (dL n3 2 cs1)
 (bcase (dL n9 2 cs2)
 (((Says C 16 [(Dw n3 2 cs1), (Dw n9 2 cs2)] kT) ∧
 (k kT)) ∨
 ((Says C 16 [(Dw n3 2 cs1), (Dw n9 2 cs2)] kF) ∧
 (k kF)))
 False)
 False)
 (k kF))) ∨
 ((Says C 26 [(D.agg [(dI x0), (dI x1), (dI x2), (dI x3), (dI x4), (dI x5), D.nil, (dI x7), (dI x8), (dI x9), (dI x10)]), (D.agg [(D.val (Value.string (s11))), (Dw n12 1 l12)]), (D.agg [(dI x13), (dI x14), (dI x15), D.nil])] [(D.sl (n9) 2 (cs2)), (D.val (Value.bool false))]) ∧
 (bcase (n4 == 0)
 (bcase (dL n3 2 cs1)
 (bcase (dL n9 2 cs2)
 (((Says C 16 [(Dw n3 2 cs1), (Dw n9 2 cs2)] kT) ∧
 (k kF)) ∨
 ((Says C 16 [(Dw n3 2 cs1), (Dw n9 2 cs2)] kF) ∧
 (k kF)))
 False)
 False)
 (k kF)))))))
 False))
 (bcase (n8 != 0)
 (bcase (n4 == n8)
 (bcase ((↑n3 : Int) == 0)
 (k kF)
 (k kF))
 (k kF))
 (bcase (dL n12 1 l12)
 ((((Says C 26 [(D.agg [(dI x0), (dI x1), (dI x2), (dI x3), (dI x4), (dI x5), D.nil, (dI x7), (dI x8), (dI x9), (dI x10)]), (D.agg [(D.val (Value.string (s11))), (Dw n12 1 l12)]), (D.agg [(dI x13), (dI x14), (dI x15), D.nil])] [D.nil, (D.val (Value.bool true))]) ∧
 (bcase (n4 == 0)
 (bcase (dL n3 2 cs1)
 (((Says C 16 [(Dw n3 2 cs1), D.nil] kT) ∧
 (k kT)) ∨
 ((Says C 16 [(Dw n3 2 cs1), D.nil] kF) ∧
 (k kF)))
 False)
 (k kF))) ∨
 ((Says C 26 [(D.agg [(dI x0), (dI x1), (dI x2), (dI x3), (dI x4), (dI x5), D.nil, (dI x7), (dI x8), (dI x9), (dI x10)]), (D.agg [(D.val (Value.string (s11))), (Dw n12 1 l12)]), (D.agg [(dI x13), (dI x14), (dI x15), D.nil])] [D.nil, (D.val (Value.bool false))]) ∧
 (bcase (n4 == 0)
 (bcase (dL n3 2 cs1)
 (((Says C 16 [(Dw n3 2 cs1), D.nil] kT) ∧
 (k kF)) ∨
 ((Says C 16 [(Dw n3 2 cs1), D.nil] kF) ∧
 (k kF)))
 False)
 (k kF)))) ∨
 (∃ n9 : Nat,
 (∃ cs2 : List Go.Value,
 (((Says C 26 [(D.agg [(dI x0), (dI x1), (dI x2), (dI x3), (dI x4), (dI x5), D.nil, (dI x7), (dI x8), (dI x9), (dI x10)]), (D.agg [(D.val (Value.string (s11))), (Dw n12 1 l12)]), (D.agg [(dI x13), (dI x14), (dI x15), D.nil])] [(D.sl (n9) 2 (cs2)), (D.val (Value.bool true))]) ∧
 (bcase (n4 == 0)
 (bcase (dL n3 2 cs1)
 (bcase (dL n9 2 cs2)
 (((Says C 16 [(Dw n3 2 cs1), (Dw n9 2 cs2)] kT) ∧
 (k kT)) ∨
 ((Says C 16 [(Dw n3 2 cs1), (Dw n9 2 cs2)] kF) ∧
 (k kF)))
 False)
 False)
 (k kF))) ∨
 ((Says C 26 [(D.agg [(dI x0), (dI x1), (dI x2), (dI x3), (dI x4), (dI x5), D.nil, (dI x7), (dI x8), (dI x9), (dI x10)]), (D.agg [(D.val (Value.string (s11))), (Dw n12 1 l12)]), (D.agg [(dI x13), (dI x14), (dI x15), D.nil])] [(D.sl (n9) 2 (cs2)), (D.val (Value.bool false))]) ∧
 (bcase (n4 == 0)
 (bcase (dL n3 2 cs1)
 (bcase (dL n9 2 cs2)
 (((Says C 16 [(Dw n3 2 cs1), (Dw n9 2 cs2)] kT) ∧
 (k kF)) ∨
 ((Says C 16 [(Dw n3 2 cs1), (Dw n9 2 cs2)] kF) ∧
 (k kF)))
 False)
 False)
 (k kF)))))))
 False)))))
 False))))))))))))))) ∨
 (∃ n4 : Int,
 ((Says C 22 [(D.agg [(dI x0), (dI x1), (dI x2), (dI x3), (dI x4), (dI x5), (D.sl 0 5 []), (dI x7), (dI x8), (dI x9), (dI x10)]), (D.agg [(D.val (Value.string (s11))), (Dw n12 1 (Tk n12 1 l12))]), (D.agg [(dI x13), (dI x14), (dI x15), (D.sl 0 1 [])])] [(D.sl (n3) 2 (cs1)), (D.val (Value.bool false)), (dI n4)]) ∧
 (((Qv (vI n4)) ∧
 (Qf ∧
 ((Qv (Sl 1010 (n3) (n3))) ∧
 ((Qv (Value.tuple [(Sl 1010 (n3) (n3)), (Value.bool false), (vI n4)].toArray)) ∧
 True)))) ∧
 (((Qv (vI n4)) ∧
 (Qf ∧
 True)) ∧
 (((Qv (vI n4)) ∧
 True) ∧
 (True ∧
 (∃ n5 : Int,
 ((Says C 23 [(D.agg [(dI x0), (dI x1), (dI x2), (dI x3), (dI x4), (dI x5), D.nil, (dI x7), (dI x8), (dI x9), (dI x10)])] [(dI n5)]) ∧
 (bcase (n5 != 0)
 (bcase (n2 == n5)
 (bcase (n4 == n5)
 (bcase (n1 == 0)
 (bcase ((↑n3 : Int) == 0)
 (k kT)
 (k kF))
 (k kF))
 (k kF))
 (k kF))
 (∃ n6 : Int,
 (∃ n7 : Int,
 ((Says C 24 [(D.agg [(dI x0), (dI x1), (dI x2), (dI x3), (dI x4), (dI x5), D.nil, (dI x7), (dI x8), (dI x9), (dI x10)]), (D.agg [(dI x13), (dI x14), (dI x15), D.nil])] [(dI n6), (dI n7)]) ∧
 (bcase (n2 != n7)
 (k kF)
 (bcase (n1 != n6)
 (k kF)
 (bcase (dL n12 1 l12)
 (∃ n8 : Int,
 ((Says C 25 [(D.agg [(dI x0), (dI x1), (dI x2), (dI x3), (dI x4), (dI x5), D.nil, (dI x7), (dI x8), (dI x9), (dI x10)]), (D.agg [(D.val (Value.string (s11))), (Dw n12 1 l12)])] [(dI n8)]) ∧
 (bcase (n8 == 0)
 (bcase (n7 != 0)
 (bcase (n4 == n7)
 (bcase ((↑n3 : Int) == 0)
 (k kT)
 (k kF))
 (k kF))
 (bcase (dL n12 1 l12)
 ((((Says C 26 [(D.agg [(dI x0), (dI x1), (dI x2), (dI x3), (dI x4), (dI x5), D.nil, (dI x7), (dI x8), (dI x9), (dI x10)]), (D.agg [(D.val (Value.string (s11))), (Dw n12 1 l12)]), (D.agg [(dI x13), (dI x14), (dI x15), D.nil])] [D.nil, (D.val (Value.bool true))]) ∧
 (bcase (n4 == 0)
 (bcase (dL n3 2 cs1)
 (((Says C 16 [(Dw n3 2 cs1), D.nil] kT) ∧
 (k kF)) ∨
 ((Says C 16 [(Dw n3 2 cs1), D.nil] kF) ∧
 (k kF)))
 False)
 (k kF))) ∨
 ((Says C 26 [(D.agg [(dI x0), (dI x1), (dI x2), (dI x3), (dI x4), (dI x5), D.nil, (dI x7), (dI x8), (dI x9), (dI x10)]), (D.agg [(D.val (Value.string (s11))), (Dw n12 1 l12)]), (D.agg [(dI x13), (dI x14), (dI x15), D.nil])] [D.nil, (D.val (Value.bool false))]) ∧
 (bcase (n4 == 0)
 (bcase (dL n3 2 cs1)
 (((Says C 16 [(Dw n3 2 cs1), D.nil] kT) ∧
 (k kT)) ∨
 ((Says C 16 [(Dw n3 2 cs1), D.nil] kF) ∧
 (k kF)))
 False)
 (k kF)))) ∨
 (∃ n9 : Nat,
 (∃ cs2 : List Go.Value,
 (((Says C 26 [(D.agg [(dI x0), (dI x1), (dI x2), (dI x3), (dI x4), (dI x5), D.nil, (dI x7), (dI x8), (dI x9), (dI x10)]), (D.agg [(D.val (Value.string (s11))), (Dw n12 1 l12)]), (D.agg [(dI x13), (dI x14), (dI x15), D.nil])] [(D.sl (n9) 2 (cs2)), (D.val (Value.bool true))]) ∧
 (bcase (n4 == 0)
 (bcase (dL n3 2 cs1)
 (bcase (dL n9 2 cs2)
 (((Says C 16 [(Dw n3 2 cs1), (Dw n9 2 cs2)] kT) ∧
 (k kF)) ∨
 ((Says C 16 [(Dw n3 2 cs1), (Dw n9 2 cs2)] kF) ∧
 (k kF)))
 False)
 False)
 (k kF))) ∨
 ((Says C 26 [(D.agg [(dI x0), (dI x1), (dI x2), (dI x3), (dI x4), (dI x5), D.nil, (dI x7), (dI x8), (dI x9), (dI x10)]), (D.agg [(D.val (Value.string (s11))), (Dw n12 1 l12)]), (D.agg [(dI x13), (dI x14), (dI x15), D.nil])] [(D.sl (n9) 2 (cs2)), (D.val (Value.bool false))]) ∧
 (bcase (n4 == 0)
 (bcase (dL n3 2 cs1)
 (bcase (dL n9 2 cs2)
 (((Says C 16 [(Dw n3 2 cs1), (Dw n9 2 cs2)] kT) ∧
 (k kT)) ∨
 ((Says C 16 [(Dw n3 2 cs1), (Dw n9 2 cs2)] kF) ∧
 (k kF)))
 False)
 False)
 (k kF)))))))
 False))
 (bcase (n8 != 0)
 (bcase (n4 == n8)
 (bcase ((↑n3 : Int) == 0)
 (k kT)
 (k kF))
 (k kF))
 (bcase (dL n12 1 l12)
 ((((Says C 26 [(D.agg [(dI x0), (dI x1), (dI x2), (dI x3), (dI x4), (dI x5), D.nil, (dI x7), (dI x8), (dI x9), (dI x10)]), (D.agg [(D.val (Value.string (s11))), (Dw n12 1 l12)]), (D.agg [(dI x13), (dI x14), (dI x15), D.nil])] [D.nil, (D.val (Value.bool true))]) ∧
 (bcase (n4 == 0)
 (bcase (dL n3 2 cs1)
 (((Says C 16 [(Dw n3 2 cs1), D.nil] kT) ∧
 (k kF)) ∨
 ((Says C 16 [(Dw n3 2 cs1), D.nil] kF) ∧
 (k kF)))
 False)
 (k kF))) ∨
 ((Says C 26 [(D.agg [(dI x0), (dI x1), (dI x2), (dI x3), (dI x4), (dI x5), D.nil, (dI x7), (dI x8), (dI x9), (dI x10)]), (D.agg [(D.val (Value.string (s11))), (Dw n12 1 l12)]), (D.agg [(dI x13), (dI x14), (dI x15), D.nil])] [D.nil, (D.val (Value.bool false))]) ∧
 (bcase (n4 == 0)
 (bcase (dL n3 2 cs1)
 (((Says C 16 [(Dw n3 2 cs1), D.nil] kT) ∧
 (k kT)) ∨
 ((Says C 16 [(Dw n3 2 cs1), D.nil] kF) ∧
 (k kF)))
 False)
 (k kF)))) ∨
 (∃ n9 : Nat,
 (∃ cs2 : List Go.Value,
 (((Says C 26 [(D.agg [(dI x0), (dI x1), (dI x2), (dI x3), (dI x4), (dI x5), D.nil, (dI x7), (dI x8), (dI x9), (dI x10)]), (D.agg [(D.val (Value.string (s11))), (Dw n12 1 l12)]), (D.agg [(dI x13), (dI x14), (dI x15), D.nil])] [(D.sl (n9) 2 (cs2)), (D.val (Value.bool true))]) ∧
 (bcase (n4 == 0)
 (bcase (dL n3 2 cs1)
 (bcase (dL n9 2 cs2)
 (((Says C 16 [(Dw n3 2 cs1), (Dw n9 2 cs2)] kT) ∧
 (k kF)) ∨
 ((Says C 16 [(Dw n3 2 cs1), (Dw n9 2 cs2)] kF) ∧
 (k kF)))
 False)
 False)
 (k kF))) ∨
 ((Says C 26 [(D.agg [(dI x0), (dI x1), (dI x2), (dI x3), (dI x4), (dI x5), D.nil, (dI x7), (dI x8), (dI x9), (dI x10)]), (D.agg [(D.val (Value.string (s11))), (Dw n12 1 l12)]), (D.agg [(dI x13), (dI x14), (dI x15), D.nil])] [(D.sl (n9) 2 (cs2)), (D.val (Value.bool false))]) ∧
 (bcase (n4 == 0)
 (bcase (dL n3 2 cs1)
 (bcase (dL n9 2 cs2)
 (((Says C 16 [(Dw n3 2 cs1), (Dw n9 2 cs2)] kT) ∧
 (k kT)) ∨
 ((Says C 16 [(Dw n3 2 cs1), (Dw n9 2 cs2)] kF) ∧
 (k kF)))
 False)
 False)
 (k kF)))))))
 False)))))
 False)))))))))))))))))))
 False)))))
 False)))))))))))))))
 (k kT))
 (k kT))) ∨
 ((Says C 6 [] kF) ∧
 (k kF))) := by kernel_rfl
def gM6 (C : Ct) (L : AtLoop) (x0 : Int) (x1 : Int) (x2 : Int) (x3 : Int) (x4 : Int) (x5 : Int) (x7 : Int) (x8 : Int) (x9 : Int) (x10 : Int) (s11 : ByteArray) (x13 : Int) (x14 : Int) (x15 : Int) (n16 : Nat) (c16 : Nat) (l16 : List Value) (k : List D → Prop) : Prop := wpFn Try.prog (hQ C) L 0 4 #[.agg #[.int .i64 x0, .int .i64 x1, .int .i64 x2, .int .i64 x3, .int .i64 x4, .int .i64 x5, .slice none 0 0, .int .i64 x7, .int .i64 x8, .int .i64 x9, .int .i64 x10], .agg #[.string s11, .slice none 0 0], .agg #[.int .i64 x13, .int .i64 x14, .int .i64 x15, .slice (some ⟨500, 0, none⟩) n16 c16]] (heapOf [(500, .sym l16 false 1)]) (dataK k)
theorem gM6_text (C : Ct) (L : AtLoop) (x0 : Int) (x1 : Int) (x2 : Int) (x3 : Int) (x4 : Int) (x5 : Int) (x7 : Int) (x8 : Int) (x9 : Int) (x10 : Int) (s11 : ByteArray) (x13 : Int) (x14 : Int) (x15 : Int) (n16 : Nat) (c16 : Nat) (l16 : List Go.Value) (k : List D → Prop) : gM6 C L x0 x1 x2 x3 x4 x5 x7 x8 x9 x10 s11 x13 x14 x15 n16 c16 l16 k =
 (((Says C 6 [] kT) ∧
 (bcase (decide ((↑(ByteArray.size s11) : Int) ≤ 30))
 (bcase (decide ((↑n16 : Int) > 8))
 (k kT)
 (((Qv (Value.agg [(vI x13), (vI x14), (vI x15), (Sl 500 (n16) (c16))].toArray)) ∧
 ((Qv (Value.agg [(vI x0), (vI x1), (vI x2), (vI x3), (vI x4), (vI x5), (Value.slice none 0 0), (vI x7), (vI x8), (vI x9), (vI x10)].toArray)) ∧
 True)) ∧
 ((Says C 9 [(D.agg [(dI x0), (dI x1), (dI x2), (dI x3), (dI x4), (dI x5), D.nil, (dI x7), (dI x8), (dI x9), (dI x10)])] [(D.agg [(dI x0), (dI x1), (dI x2), (dI x3), (dI x4), (dI x5), (D.sl 0 5 []), (dI x7), (dI x8), (dI x9), (dI x10)])]) ∧
 (((Qv (Value.agg [(vI x13), (vI x14), (vI x15), (Sl 500 (n16) (c16))].toArray)) ∧
 True) ∧
 (bcase (dL n16 1 l16)
 ((Says C 21 [(D.agg [(dI x13), (dI x14), (dI x15), (Dw n16 1 l16)])] [(D.agg [(dI x13), (dI x14), (dI x15), (Dw n16 1 l16)])]) ∧
 (True ∧
 (bcase (dL n16 1 (Tk n16 1 l16))
 (∃ n1 : Int,
 (∃ n2 : Int,
 ((Says C 20 [(D.agg [(dI x0), (dI x1), (dI x2), (dI x3), (dI x4), (dI x5), (D.sl 0 5 []), (dI x7), (dI x8), (dI x9), (dI x10)]), (D.agg [(dI x13), (dI x14), (dI x15), (Dw n16 1 (Tk n16 1 l16))])] [(dI n1), (dI n2)]) ∧
 (((Qv (vI n2)) ∧
 ((Qv (vI n1)) ∧
 ((Qv (Value.tuple [(vI n1), (vI n2)].toArray)) ∧
 True))) ∧
 (((Qv (vI n2)) ∧
 True) ∧
 (True ∧
 (((Qv (Value.agg [(vI x13), (vI x14), (vI x15), (Sl 500 (n16) (c16))].toArray)) ∧
 ((Qv (Value.agg [(Value.string (s11)), (Value.slice none 0 0)].toArray)) ∧
 ((Qv (Value.agg [(vI x0), (vI x1), (vI x2), (vI x3), (vI x4), (vI x5), (Value.slice none 0 0), (vI x7), (vI x8), (vI x9), (vI x10)].toArray)) ∧
 True))) ∧
 ((Says C 9 [(D.agg [(dI x0), (dI x1), (dI x2), (dI x3), (dI x4), (dI x5), D.nil, (dI x7), (dI x8), (dI x9), (dI x10)])] [(D.agg [(dI x0), (dI x1), (dI x2), (dI x3), (dI x4), (dI x5), (D.sl 0 5 []), (dI x7), (dI x8), (dI x9), (dI x10)])]) ∧
 (((Qv (Value.agg [(vI x13), (vI x14), (vI x15), (Sl 500 (n16) (c16))].toArray)) ∧
 ((Qv (Value.agg [(Value.string (s11)), (Value.slice none 0 0)].toArray)) ∧
 True)) ∧
 ((Says C 11 [(D.agg [(D.val (Value.string (s11))), D.nil])] [(D.agg [(D.val (Value.string (s11))), (D.sl 0 1 [])])]) ∧
 (((Qv (Value.agg [(vI x13), (vI x14), (vI x15), (Sl 500 (n16) (c16))].toArray)) ∧
 True) ∧
 (bcase (dL n16 1 l16)
 ((Says C 21 [(D.agg [(dI x13), (dI x14), (dI x15), (Dw n16 1 l16)])] [(D.agg [(dI x13), (dI x14), (dI x15), (Dw n16 1 l16)])]) ∧
 (True ∧
 (bcase (dL n16 1 (Tk n16 1 l16))
 (((∃ n3 : Int,
 ((Says C 22 [(D.agg [(dI x0), (dI x1), (dI x2), (dI x3), (dI x4), (dI x5), (D.sl 0 5 []), (dI x7), (dI x8), (dI x9), (dI x10)]), (D.agg [(D.val (Value.string (s11))), (D.sl 0 1 [])]), (D.agg [(dI x13), (dI x14), (dI x15), (Dw n16 1 (Tk n16 1 l16))])] [D.nil, (D.val (Value.bool true)), (dI n3)]) ∧
 (((Qv (vI n3)) ∧
 (Qb ∧
 ((Qv (Value.slice none 0 0)) ∧
 ((Qv (Value.tuple [(Value.slice none 0 0), (Value.bool true), (vI n3)].toArray)) ∧
 True)))) ∧
 (((Qv (vI n3)) ∧
 (Qb ∧
 True)) ∧
 (((Qv (vI n3)) ∧
 True) ∧
 (True ∧
 (∃ n4 : Int,
 ((Says C 23 [(D.agg [(dI x0), (dI x1), (dI x2), (dI x3), (dI x4), (dI x5), D.nil, (dI x7), (dI x8), (dI x9), (dI x10)])] [(dI n4)]) ∧
 (bcase (n4 != 0)
 (bcase (n2 == n4)
 (bcase (n3 == n4)
 (bcase (n1 == 0)
 (k kF)
 (k kF))
 (k kF))
 (k kF))
 (bcase (dL n16 1 l16)
 (∃ n5 : Int,
 (∃ n6 : Int,
 ((Says C 24 [(D.agg [(dI x0), (dI x1), (dI x2), (dI x3), (dI x4), (dI x5), D.nil, (dI x7), (dI x8), (dI x9), (dI x10)]), (D.agg [(dI x13), (dI x14), (dI x15), (Dw n16 1 l16)])] [(dI n5), (dI n6)]) ∧
 (bcase (n2 != n6)
 (k kF)
 (bcase (n1 != n5)
 (k kF)
 (∃ n7 : Int,
 ((Says C 25 [(D.agg [(dI x0), (dI x1), (dI x2), (dI x3), (dI x4), (dI x5), D.nil, (dI x7), (dI x8), (dI x9), (dI x10)]), (D.agg [(D.val (Value.string (s11))), D.nil])] [(dI n7)]) ∧
 (bcase (n7 == 0)
 (bcase (n6 != 0)
 (bcase (n3 == n6)
 (k kF)
 (k kF))
 (bcase (dL n16 1 l16)
 ((((Says C 26 [(D.agg [(dI x0), (dI x1), (dI x2), (dI x3), (dI x4), (dI x5), D.nil, (dI x7), (dI x8), (dI x9), (dI x10)]), (D.agg [(D.val (Value.string (s11))), D.nil]), (D.agg [(dI x13), (dI x14), (dI x15), (Dw n16 1 l16)])] [D.nil, (D.val (Value.bool true))]) ∧
 (bcase (n3 == 0)
 (((Says C 16 [D.nil, D.nil] kT) ∧
 (k kT)) ∨
 ((Says C 16 [D.nil, D.nil] kF) ∧
 (k kF)))
 (k kF))) ∨
 ((Says C 26 [(D.agg [(dI x0), (dI x1), (dI x2), (dI x3), (dI x4), (dI x5), D.nil, (dI x7), (dI x8), (dI x9), (dI x10)]), (D.agg [(D.val (Value.string (s11))), D.nil]), (D.agg [(dI x13), (dI x14), (dI x15), (Dw n16 1 l16)])] [D.nil, (D.val (Value.bool false))]) ∧
 (bcase (n3 == 0)
 (((Says C 16 [D.nil, D.nil] kT) ∧
 (k kF)) ∨
 ((Says C 16 [D.nil, D.nil] kF) ∧
 (k kF)))
 (k kF)))) ∨
 (∃ n8 : Nat,
 (∃ cs1 : List Go.Value,
 (((Says C 26 [(D.agg [(dI x0), (dI x1), (dI x2), (dI x3), (dI x4), (dI x5), D.nil, (dI x7), (dI x8), (dI x9), (dI x10)]), (D.agg [(D.val (Value.string (s11))), D.nil]), (D.agg [(dI x13), (dI x14), (dI x15), (Dw n16 1 l16)])] [(D.sl (n8) 2 (cs1)), (D.val (Value.bool true))]) ∧
 (bcase (n3 == 0)
 (bcase (dL n8 2 cs1)
 (((Says C 16 [D.nil, (Dw n8 2 cs1)] kT) ∧
 (k kT)) ∨
 ((Says C 16 [D.nil, (Dw n8 2 cs1)] kF) ∧
 (k kF)))
 False)
 (k kF))) ∨
 ((Says C 26 [(D.agg [(dI x0), (dI x1), (dI x2), (dI x3), (dI x4), (dI x5), D.nil, (dI x7), (dI x8), (dI x9), (dI x10)]), (D.agg [(D.val (Value.string (s11))), D.nil]), (D.agg [(dI x13), (dI x14), (dI x15), (Dw n16 1 l16)])] [(D.sl (n8) 2 (cs1)), (D.val (Value.bool false))]) ∧
 (bcase (n3 == 0)
 (bcase (dL n8 2 cs1)
 (((Says C 16 [D.nil, (Dw n8 2 cs1)] kT) ∧
 (k kF)) ∨
 ((Says C 16 [D.nil, (Dw n8 2 cs1)] kF) ∧
 (k kF)))
 False)
 (k kF)))))))
 False))
 (bcase (n7 != 0)
 (bcase (n3 == n7)
 (k kF)
 (k kF))
 (bcase (dL n16 1 l16)
 ((((Says C 26 [(D.agg [(dI x0), (dI x1), (dI x2), (dI x3), (dI x4), (dI x5), D.nil, (dI x7), (dI x8), (dI x9), (dI x10)]), (D.agg [(D.val (Value.string (s11))), D.nil]), (D.agg [(dI x13), (dI x14), (dI x15), (Dw n16 1 l16)])] [D.nil, (D.val (Value.bool true))]) ∧
 (bcase (n3 == 0)
 (((Says C 16 [D.nil, D.nil] kT) ∧
 (k kT)) ∨
 ((Says C 16 [D.nil, D.nil] kF) ∧
 (k kF)))
 (k kF))) ∨
 ((Says C 26 [(D.agg [(dI x0), (dI x1), (dI x2), (dI x3), (dI x4), (dI x5), D.nil, (dI x7), (dI x8), (dI x9), (dI x10)]), (D.agg [(D.val (Value.string (s11))), D.nil]), (D.agg [(dI x13), (dI x14), (dI x15), (Dw n16 1 l16)])] [D.nil, (D.val (Value.bool false))]) ∧
 (bcase (n3 == 0)
 (((Says C 16 [D.nil, D.nil] kT) ∧
 (k kF)) ∨
 ((Says C 16 [D.nil, D.nil] kF) ∧
 (k kF)))
 (k kF)))) ∨
 (∃ n8 : Nat,
 (∃ cs1 : List Go.Value,
 (((Says C 26 [(D.agg [(dI x0), (dI x1), (dI x2), (dI x3), (dI x4), (dI x5), D.nil, (dI x7), (dI x8), (dI x9), (dI x10)]), (D.agg [(D.val (Value.string (s11))), D.nil]), (D.agg [(dI x13), (dI x14), (dI x15), (Dw n16 1 l16)])] [(D.sl (n8) 2 (cs1)), (D.val (Value.bool true))]) ∧
 (bcase (n3 == 0)
 (bcase (dL n8 2 cs1)
 (((Says C 16 [D.nil, (Dw n8 2 cs1)] kT) ∧
 (k kT)) ∨
 ((Says C 16 [D.nil, (Dw n8 2 cs1)] kF) ∧
 (k kF)))
 False)
 (k kF))) ∨
 ((Says C 26 [(D.agg [(dI x0), (dI x1), (dI x2), (dI x3), (dI x4), (dI x5), D.nil, (dI x7), (dI x8), (dI x9), (dI x10)]), (D.agg [(D.val (Value.string (s11))), D.nil]), (D.agg [(dI x13), (dI x14), (dI x15), (Dw n16 1 l16)])] [(D.sl (n8) 2 (cs1)), (D.val (Value.bool false))]) ∧
 (bcase (n3 == 0)
 (bcase (dL n8 2 cs1)
 (((Says C 16 [D.nil, (Dw n8 2 cs1)] kT) ∧
 (k kF)) ∨
 ((Says C 16 [D.nil, (Dw n8 2 cs1)] kF) ∧
 (k kF)))
 False)
 (k kF)))))))
 False))))))))))
 False)))))))))) ∨
 (∃ n3 : Int,
 ((Says C 22 [(D.agg [(dI x0), (dI x1), (dI x2), (dI x3), (dI x4), (dI x5), (D.sl 0 5 []), (dI x7), (dI x8), (dI x9), (dI x10)]), (D.agg [(D.val (Value.string (s11))), (D.sl 0 1 [])]), (D.agg [(dI x13), (dI x14), (dI x15), (Dw n16 1 (Tk n16 1 l16))])] [D.nil, (D.val (Value.bool false)), (dI n3)]) ∧
 (((Qv (vI n3)) ∧
 (Qf ∧
 ((Qv (Value.slice none 0 0)) ∧
 ((Qv (Value.tuple [(Value.slice none 0 0), (Value.bool false), (vI n3)].toArray)) ∧
 True)))) ∧
 (((Qv (vI n3)) ∧
 (Qf ∧
 True)) ∧
 (((Qv (vI n3)) ∧
 True) ∧
 (True ∧
 (∃ n4 : Int,
 ((Says C 23 [(D.agg [(dI x0), (dI x1), (dI x2), (dI x3), (dI x4), (dI x5), D.nil, (dI x7), (dI x8), (dI x9), (dI x10)])] [(dI n4)]) ∧
 (bcase (n4 != 0)
 (bcase (n2 == n4)
 (bcase (n3 == n4)
 (bcase (n1 == 0)
 (k kT)
 (k kF))
 (k kF))
 (k kF))
 (bcase (dL n16 1 l16)
 (∃ n5 : Int,
 (∃ n6 : Int,
 ((Says C 24 [(D.agg [(dI x0), (dI x1), (dI x2), (dI x3), (dI x4), (dI x5), D.nil, (dI x7), (dI x8), (dI x9), (dI x10)]), (D.agg [(dI x13), (dI x14), (dI x15), (Dw n16 1 l16)])] [(dI n5), (dI n6)]) ∧
 (bcase (n2 != n6)
 (k kF)
 (bcase (n1 != n5)
 (k kF)
 (∃ n7 : Int,
 ((Says C 25 [(D.agg [(dI x0), (dI x1), (dI x2), (dI x3), (dI x4), (dI x5), D.nil, (dI x7), (dI x8), (dI x9), (dI x10)]), (D.agg [(D.val (Value.string (s11))), D.nil])] [(dI n7)]) ∧
 (bcase (n7 == 0)
 (bcase (n6 != 0)
 (bcase (n3 == n6)
 (k kT)
 (k kF))
 (bcase (dL n16 1 l16)
 ((((Says C 26 [(D.agg [(dI x0), (dI x1), (dI x2), (dI x3), (dI x4), (dI x5), D.nil, (dI x7), (dI x8), (dI x9), (dI x10)]), (D.agg [(D.val (Value.string (s11))), D.nil]), (D.agg [(dI x13), (dI x14), (dI x15), (Dw n16 1 l16)])] [D.nil, (D.val (Value.bool true))]) ∧
 (bcase (n3 == 0)
 (((Says C 16 [D.nil, D.nil] kT) ∧
 (k kF)) ∨
 ((Says C 16 [D.nil, D.nil] kF) ∧
 (k kF)))
 (k kF))) ∨
 ((Says C 26 [(D.agg [(dI x0), (dI x1), (dI x2), (dI x3), (dI x4), (dI x5), D.nil, (dI x7), (dI x8), (dI x9), (dI x10)]), (D.agg [(D.val (Value.string (s11))), D.nil]), (D.agg [(dI x13), (dI x14), (dI x15), (Dw n16 1 l16)])] [D.nil, (D.val (Value.bool false))]) ∧
 (bcase (n3 == 0)
 (((Says C 16 [D.nil, D.nil] kT) ∧
 (k kT)) ∨
 ((Says C 16 [D.nil, D.nil] kF) ∧
 (k kF)))
 (k kF)))) ∨
 (∃ n8 : Nat,
 (∃ cs1 : List Go.Value,
 (((Says C 26 [(D.agg [(dI x0), (dI x1), (dI x2), (dI x3), (dI x4), (dI x5), D.nil, (dI x7), (dI x8), (dI x9), (dI x10)]), (D.agg [(D.val (Value.string (s11))), D.nil]), (D.agg [(dI x13), (dI x14), (dI x15), (Dw n16 1 l16)])] [(D.sl (n8) 2 (cs1)), (D.val (Value.bool true))]) ∧
 (bcase (n3 == 0)
 (bcase (dL n8 2 cs1)
 (((Says C 16 [D.nil, (Dw n8 2 cs1)] kT) ∧
 (k kF)) ∨
 ((Says C 16 [D.nil, (Dw n8 2 cs1)] kF) ∧
 (k kF)))
 False)
 (k kF))) ∨
 ((Says C 26 [(D.agg [(dI x0), (dI x1), (dI x2), (dI x3), (dI x4), (dI x5), D.nil, (dI x7), (dI x8), (dI x9), (dI x10)]), (D.agg [(D.val (Value.string (s11))), D.nil]), (D.agg [(dI x13), (dI x14), (dI x15), (Dw n16 1 l16)])] [(D.sl (n8) 2 (cs1)), (D.val (Value.bool false))]) ∧
 (bcase (n3 == 0)
 (bcase (dL n8 2 cs1)
 (((Says C 16 [D.nil, (Dw n8 2 cs1)] kT) ∧
 (k kT)) ∨
 ((Says C 16 [D.nil, (Dw n8 2 cs1)] kF) ∧
 (k kF)))
 False)
 (k kF)))))))
 False))
 (bcase (n7 != 0)
 (bcase (n3 == n7)
 (k kT)
 (k kF))
 (bcase (dL n16 1 l16)
 ((((Says C 26 [(D.agg [(dI x0), (dI x1), (dI x2), (dI x3), (dI x4), (dI x5), D.nil, (dI x7), (dI x8), (dI x9), (dI x10)]), (D.agg [(D.val (Value.string (s11))), D.nil]), (D.agg [(dI x13), (dI x14), (dI x15), (Dw n16 1 l16)])] [D.nil, (D.val (Value.bool true))]) ∧
 (bcase (n3 == 0)
 (((Says C 16 [D.nil, D.nil] kT) ∧
 (k kF)) ∨
 ((Says C 16 [D.nil, D.nil] kF) ∧
 (k kF)))
 (k kF))) ∨
 ((Says C 26 [(D.agg [(dI x0), (dI x1), (dI x2), (dI x3), (dI x4), (dI x5), D.nil, (dI x7), (dI x8), (dI x9), (dI x10)]), (D.agg [(D.val (Value.string (s11))), D.nil]), (D.agg [(dI x13), (dI x14), (dI x15), (Dw n16 1 l16)])] [D.nil, (D.val (Value.bool false))]) ∧
 (bcase (n3 == 0)
 (((Says C 16 [D.nil, D.nil] kT) ∧
 (k kT)) ∨
 ((Says C 16 [D.nil, D.nil] kF) ∧
 (k kF)))
 (k kF)))) ∨
 (∃ n8 : Nat,
 (∃ cs1 : List Go.Value,
 (((Says C 26 [(D.agg [(dI x0), (dI x1), (dI x2), (dI x3), (dI x4), (dI x5), D.nil, (dI x7), (dI x8), (dI x9), (dI x10)]), (D.agg [(D.val (Value.string (s11))), D.nil]), (D.agg [(dI x13), (dI x14), (dI x15), (Dw n16 1 l16)])] [(D.sl (n8) 2 (cs1)), (D.val (Value.bool true))]) ∧
 (bcase (n3 == 0)
 (bcase (dL n8 2 cs1)
 (((Says C 16 [D.nil, (Dw n8 2 cs1)] kT) ∧
 (k kF)) ∨
 ((Says C 16 [D.nil, (Dw n8 2 cs1)] kF) ∧
 (k kF)))
 False)
 (k kF))) ∨
 ((Says C 26 [(D.agg [(dI x0), (dI x1), (dI x2), (dI x3), (dI x4), (dI x5), D.nil, (dI x7), (dI x8), (dI x9), (dI x10)]), (D.agg [(D.val (Value.string (s11))), D.nil]), (D.agg [(dI x13), (dI x14), (dI x15), (Dw n16 1 l16)])] [(D.sl (n8) 2 (cs1)), (D.val (Value.bool false))]) ∧
 (bcase (n3 == 0)
 (bcase (dL n8 2 cs1)
 (((Says C 16 [D.nil, (Dw n8 2 cs1)] kT) ∧
 (k kT)) ∨
 ((Says C 16 [D.nil, (Dw n8 2 cs1)] kF) ∧
 (k kF)))
 False)
 (k kF)))))))
 False))))))))))
 False))))))))))) ∨
 (∃ n3 : Nat,
 (∃ cs1 : List Go.Value,
 ((∃ n4 : Int,
 ((Says C 22 [(D.agg [(dI x0), (dI x1), (dI x2), (dI x3), (dI x4), (dI x5), (D.sl 0 5 []), (dI x7), (dI x8), (dI x9), (dI x10)]), (D.agg [(D.val (Value.string (s11))), (D.sl 0 1 [])]), (D.agg [(dI x13), (dI x14), (dI x15), (Dw n16 1 (Tk n16 1 l16))])] [(D.sl (n3) 2 (cs1)), (D.val (Value.bool true)), (dI n4)]) ∧
 (((Qv (vI n4)) ∧
 (Qb ∧
 ((Qv (Sl 1010 (n3) (n3))) ∧
 ((Qv (Value.tuple [(Sl 1010 (n3) (n3)), (Value.bool true), (vI n4)].toArray)) ∧
 True)))) ∧
 (((Qv (vI n4)) ∧
 (Qb ∧
 True)) ∧
 (((Qv (vI n4)) ∧
 True) ∧
 (True ∧
 (∃ n5 : Int,
 ((Says C 23 [(D.agg [(dI x0), (dI x1), (dI x2), (dI x3), (dI x4), (dI x5), D.nil, (dI x7), (dI x8), (dI x9), (dI x10)])] [(dI n5)]) ∧
 (bcase (n5 != 0)
 (bcase (n2 == n5)
 (bcase (n4 == n5)
 (bcase (n1 == 0)
 (bcase ((↑n3 : Int) == 0)
 (k kF)
 (k kF))
 (k kF))
 (k kF))
 (k kF))
 (bcase (dL n16 1 l16)
 (∃ n6 : Int,
 (∃ n7 : Int,
 ((Says C 24 [(D.agg [(dI x0), (dI x1), (dI x2), (dI x3), (dI x4), (dI x5), D.nil, (dI x7), (dI x8), (dI x9), (dI x10)]), (D.agg [(dI x13), (dI x14), (dI x15), (Dw n16 1 l16)])] [(dI n6), (dI n7)]) ∧
 (bcase (n2 != n7)
 (k kF)
 (bcase (n1 != n6)
 (k kF)
 (∃ n8 : Int,
 ((Says C 25 [(D.agg [(dI x0), (dI x1), (dI x2), (dI x3), (dI x4), (dI x5), D.nil, (dI x7), (dI x8), (dI x9), (dI x10)]), (D.agg [(D.val (Value.string (s11))), D.nil])] [(dI n8)]) ∧
 (bcase (n8 == 0)
 (bcase (n7 != 0)
 (bcase (n4 == n7)
 (bcase ((↑n3 : Int) == 0)
 (k kF)
 (k kF))
 (k kF))
 (bcase (dL n16 1 l16)
 ((((Says C 26 [(D.agg [(dI x0), (dI x1), (dI x2), (dI x3), (dI x4), (dI x5), D.nil, (dI x7), (dI x8), (dI x9), (dI x10)]), (D.agg [(D.val (Value.string (s11))), D.nil]), (D.agg [(dI x13), (dI x14), (dI x15), (Dw n16 1 l16)])] [D.nil, (D.val (Value.bool true))]) ∧
 (bcase (n4 == 0)
 (bcase (dL n3 2 cs1)
 (((Says C 16 [(Dw n3 2 cs1), D.nil] kT) ∧
 (k kT)) ∨
 ((Says C 16 [(Dw n3 2 cs1), D.nil] kF) ∧
 (k kF)))
 False)
 (k kF))) ∨
 ((Says C 26 [(D.agg [(dI x0), (dI x1), (dI x2), (dI x3), (dI x4), (dI x5), D.nil, (dI x7), (dI x8), (dI x9), (dI x10)]), (D.agg [(D.val (Value.string (s11))), D.nil]), (D.agg [(dI x13), (dI x14), (dI x15), (Dw n16 1 l16)])] [D.nil, (D.val (Value.bool false))]) ∧
 (bcase (n4 == 0)
 (bcase (dL n3 2 cs1)
 (((Says C 16 [(Dw n3 2 cs1), D.nil] kT) ∧
 (k kF)) ∨
 ((Says C 16 [(Dw n3 2 cs1), D.nil] kF) ∧
 (k kF)))
 False)
 (k kF)))) ∨
 (∃ n9 : Nat,
 (∃ cs2 : List Go.Value,
 (((Says C 26 [(D.agg [(dI x0), (dI x1), (dI x2), (dI x3), (dI x4), (dI x5), D.nil, (dI x7), (dI x8), (dI x9), (dI x10)]), (D.agg [(D.val (Value.string (s11))), D.nil]), (D.agg [(dI x13), (dI x14), (dI x15), (Dw n16 1 l16)])] [(D.sl (n9) 2 (cs2)), (D.val (Value.bool true))]) ∧
 (bcase (n4 == 0)
 (bcase (dL n3 2 cs1)
 (bcase (dL n9 2 cs2)
 (((Says C 16 [(Dw n3 2 cs1), (Dw n9 2 cs2)] kT) ∧
 (k kT)) ∨
 ((Says C 16 [(Dw n3 2 cs1), (Dw n9 2 cs2)] kF) ∧
 (k kF)))
 False)
 False)
 (k kF))) ∨
 ((Says C 26 [(D.agg [(dI x0), (dI x1), (dI x2), (dI x3), (dI x4), (dI x5), D.nil, (dI x7), (dI x8), (dI x9), (dI x10)]), (D.agg [(D.val (Value.string (s11))), D.nil]), (D.agg [(dI x13), (dI x14), (dI x15), (Dw n16 1 l16)])] [(D.sl (n9) 2 (cs2)), (D.val (Value.bool false))]) ∧
 (bcase (n4 == 0)
 (bcase (dL n3 2 cs1)
 (bcase (dL n9 2 cs2)
 (((Says C 16 [(Dw n3 2 cs1), (Dw n9 2 cs2)] kT) ∧
 (k kF)) ∨
 ((Says C 16 [(Dw n3 2 cs1), (Dw n9 2 cs2)] kF) ∧
 (k kF)))
 False)
 False)
 (k kF)))))))
 False))
 (bcase (n8 != 0)
 (bcase (n4 == n8)
 (bcase ((↑n3 : Int) == 0)
 (k kF)
 (k kF))
 (k kF))
 (bcase (dL n16 1 l16)
 ((((Says C 26 [(D.agg [(dI x0), (dI x1), (dI x2), (dI x3), (dI x4), (dI x5), D.nil, (dI x7), (dI x8), (dI x9), (dI x10)]), (D.agg [(D.val (Value.string (s11))), D.nil]), (D.agg [(dI x13), (dI x14), (dI x15), (Dw n16 1 l16)])] [D.nil, (D.val (Value.bool true))]) ∧
 (bcase (n4 == 0)
 (bcase (dL n3 2 cs1)
 (((Says C 16 [(Dw n3 2 cs1), D.nil] kT) ∧
 (k kT)) ∨
 ((Says C 16 [(Dw n3 2 cs1), D.nil] kF) ∧
 (k kF)))
 False)
 (k kF))) ∨
 ((Says C 26 [(D.agg [(dI x0), (dI x1), (dI x2), (dI x3), (dI x4), (dI x5), D.nil, (dI x7), (dI x8), (dI x9), (dI x10)]), (D.agg [(D.val (Value.string (s11))), D.nil]), (D.agg [(dI x13), (dI x14), (dI x15), (Dw n16 1 l16)])] [D.nil, (D.val (Value.bool false))]) ∧
 (bcase (n4 == 0)
 (bcase (dL n3 2 cs1)
 (((Says C 16 [(Dw n3 2 cs1), D.nil] kT) ∧
 (k kF)) ∨
 ((Says C 16 [(Dw n3 2 cs1), D.nil] kF) ∧
 (k kF)))
 False)
 (k kF)))) ∨
 (∃ n9 : Nat,
 (∃ cs2 : List Go.Value,
 (((Says C 26 [(D.agg [(dI x0), (dI x1), (dI x2), (dI x3), (dI x4), (dI x5), D.nil, (dI x7), (dI x8), (dI x9), (dI x10)]), (D.agg [(D.val (Value.string (s11))), D.nil]), (D.agg [(dI x13), (dI x14), (dI x15), (Dw n16 1 l16)])] [(D.sl (n9) 2 (cs2)), (D.val (Value.bool true))]) ∧
 (bcase (n4 == 0)
 (bcase (dL n3 2 cs1)
 (bcase (dL n9 2 cs2)
 (((Says C 16 [(Dw n3 2 cs1), (Dw n9 2 cs2)] kT) ∧
 (k kT)) ∨
 ((Says C 16 [(Dw n3 2 cs1), (Dw n9 2 cs2)] kF) ∧
 (k kF)))
 False)
 False)
 (k kF))) ∨
 ((Says C 26 [(D.agg [(dI x0), (dI x1), (dI x2), (dI x3), (dI x4), (dI x5), D.nil, (dI x7), (dI x8), (dI x9), (dI x10)]), (D.agg [(D.val (Value.string (s11))), D.nil]), (D.agg [(dI x13), (dI x14), (dI x15), (Dw n16 1 l16)])] [(D.sl (n9) 2 (cs2)), (D.val (Value.bool false))]) ∧
 (bcase (n4 == 0)
 (bcase (dL n3 2 cs1)
 (bcase (dL n9 2 cs2)
 (((Says C 16 [(Dw n3 2 cs1), (Dw n9 2 cs2)] kT) ∧
 (k kF)) ∨
 ((Says C 16 [(Dw n3 2 cs1), (Dw n9 2 cs2)] kF) ∧
 (k kF)))
 False)
 False)
 (k kF)))))))
 False))))))))))
 False)))))))))) ∨
 (∃ n4 : Int,
 ((Says C 22 [(D.agg [(dI x0), (dI x1), (dI x2), (dI x3), (dI x4), (dI x5), (D.sl 0 5 []), (dI x7), (dI x8), (dI x9), (dI x10)]), (D.agg [(D.val (Value.string (s11))), (D.sl 0 1 [])]), (D.agg [(dI x13), (dI x14), (dI x15), (Dw n16 1 (Tk n16 1 l16))])] [(D.sl (n3) 2 (cs1)), (D.val (Value.bool false)), (dI n4)]) ∧
 (((Qv (vI n4)) ∧
 (Qf ∧
 ((Qv (Sl 1010 (n3) (n3))) ∧
 ((Qv (Value.tuple [(Sl 1010 (n3) (n3)), (Value.bool false), (vI n4)].toArray)) ∧
 True)))) ∧
 (((Qv (vI n4)) ∧
 (Qf ∧
 True)) ∧
 (((Qv (vI n4)) ∧
 True) ∧
 (True ∧
 (∃ n5 : Int,
 ((Says C 23 [(D.agg [(dI x0), (dI x1), (dI x2), (dI x3), (dI x4), (dI x5), D.nil, (dI x7), (dI x8), (dI x9), (dI x10)])] [(dI n5)]) ∧
 (bcase (n5 != 0)
 (bcase (n2 == n5)
 (bcase (n4 == n5)
 (bcase (n1 == 0)
 (bcase ((↑n3 : Int) == 0)
 (k kT)
 (k kF))
 (k kF))
 (k kF))
 (k kF))
 (bcase (dL n16 1 l16)
 (∃ n6 : Int,
 (∃ n7 : Int,
 ((Says C 24 [(D.agg [(dI x0), (dI x1), (dI x2), (dI x3), (dI x4), (dI x5), D.nil, (dI x7), (dI x8), (dI x9), (dI x10)]), (D.agg [(dI x13), (dI x14), (dI x15), (Dw n16 1 l16)])] [(dI n6), (dI n7)]) ∧
 (bcase (n2 != n7)
 (k kF)
 (bcase (n1 != n6)
 (k kF)
 (∃ n8 : Int,
 ((Says C 25 [(D.agg [(dI x0), (dI x1), (dI x2), (dI x3), (dI x4), (dI x5), D.nil, (dI x7), (dI x8), (dI x9), (dI x10)]), (D.agg [(D.val (Value.string (s11))), D.nil])] [(dI n8)]) ∧
 (bcase (n8 == 0)
 (bcase (n7 != 0)
 (bcase (n4 == n7)
 (bcase ((↑n3 : Int) == 0)
 (k kT)
 (k kF))
 (k kF))
 (bcase (dL n16 1 l16)
 ((((Says C 26 [(D.agg [(dI x0), (dI x1), (dI x2), (dI x3), (dI x4), (dI x5), D.nil, (dI x7), (dI x8), (dI x9), (dI x10)]), (D.agg [(D.val (Value.string (s11))), D.nil]), (D.agg [(dI x13), (dI x14), (dI x15), (Dw n16 1 l16)])] [D.nil, (D.val (Value.bool true))]) ∧
 (bcase (n4 == 0)
 (bcase (dL n3 2 cs1)
 (((Says C 16 [(Dw n3 2 cs1), D.nil] kT) ∧
 (k kF)) ∨
 ((Says C 16 [(Dw n3 2 cs1), D.nil] kF) ∧
 (k kF)))
 False)
 (k kF))) ∨
 ((Says C 26 [(D.agg [(dI x0), (dI x1), (dI x2), (dI x3), (dI x4), (dI x5), D.nil, (dI x7), (dI x8), (dI x9), (dI x10)]), (D.agg [(D.val (Value.string (s11))), D.nil]), (D.agg [(dI x13), (dI x14), (dI x15), (Dw n16 1 l16)])] [D.nil, (D.val (Value.bool false))]) ∧
 (bcase (n4 == 0)
 (bcase (dL n3 2 cs1)
 (((Says C 16 [(Dw n3 2 cs1), D.nil] kT) ∧
 (k kT)) ∨
 ((Says C 16 [(Dw n3 2 cs1), D.nil] kF) ∧
 (k kF)))
 False)
 (k kF)))) ∨
 (∃ n9 : Nat,
 (∃ cs2 : List Go.Value,
 (((Says C 26 [(D.agg [(dI x0), (dI x1), (dI x2), (dI x3), (dI x4), (dI x5), D.nil, (dI x7), (dI x8), (dI x9), (dI x10)]), (D.agg [(D.val (Value.string (s11))), D.nil]), (D.agg [(dI x13), (dI x14), (dI x15), (Dw n16 1 l16)])] [(D.sl (n9) 2 (cs2)), (D.val (Value.bool true))]) ∧
 (bcase (n4 == 0)
 (bcase (dL n3 2 cs1)
 (bcase (dL n9 2 cs2)
 (((Says C 16 [(Dw n3 2 cs1), (Dw n9 2 cs2)] kT) ∧
 (k kF)) ∨
 ((Says C 16 [(Dw n3 2 cs1), (Dw n9 2 cs2)] kF) ∧
 (k kF)))
 False)
 False)
 (k kF))) ∨
 ((Says C 26 [(D.agg [(dI x0), (dI x1), (dI x2), (dI x3), (dI x4), (dI x5), D.nil, (dI x7), (dI x8), (dI x9), (dI x10)]), (D.agg [(D.val (Value.string (s11))), D.nil]), (D.agg [(dI x13), (dI x14), (dI x15), (Dw n16 1 l16)])] [(D.sl (n9) 2 (cs2)), (D.val (Value.bool false))]) ∧
 (bcase (n4 == 0)
 (bcase (dL n3 2 cs1)
 (bcase (dL n9 2 cs2)
 (((Says C 16 [(Dw n3 2 cs1), (Dw n9 2 cs2)] kT) ∧
 (k kT)) ∨
 ((Says C 16 [(Dw n3 2 cs1), (Dw n9 2 cs2)] kF) ∧
 (k kF)))
 False)
 False)
 (k kF)))))))
 False))
 (bcase (n8 != 0)
 (bcase (n4 == n8)
 (bcase ((↑n3 : Int) == 0)
 (k kT)
 (k kF))
 (k kF))
 (bcase (dL n16 1 l16)
 ((((Says C 26 [(D.agg [(dI x0), (dI x1), (dI x2), (dI x3), (dI x4), (dI x5), D.nil, (dI x7), (dI x8), (dI x9), (dI x10)]), (D.agg [(D.val (Value.string (s11))), D.nil]), (D.agg [(dI x13), (dI x14), (dI x15), (Dw n16 1 l16)])] [D.nil, (D.val (Value.bool true))]) ∧
 (bcase (n4 == 0)
 (bcase (dL n3 2 cs1)
 (((Says C 16 [(Dw n3 2 cs1), D.nil] kT) ∧
 (k kF)) ∨
 ((Says C 16 [(Dw n3 2 cs1), D.nil] kF) ∧
 (k kF)))
 False)
 (k kF))) ∨
 ((Says C 26 [(D.agg [(dI x0), (dI x1), (dI x2), (dI x3), (dI x4), (dI x5), D.nil, (dI x7), (dI x8), (dI x9), (dI x10)]), (D.agg [(D.val (Value.string (s11))), D.nil]), (D.agg [(dI x13), (dI x14), (dI x15), (Dw n16 1 l16)])] [D.nil, (D.val (Value.bool false))]) ∧
 (bcase (n4 == 0)
 (bcase (dL n3 2 cs1)
 (((Says C 16 [(Dw n3 2 cs1), D.nil] kT) ∧
 (k kT)) ∨
 ((Says C 16 [(Dw n3 2 cs1), D.nil] kF) ∧
 (k kF)))
 False)
 (k kF)))) ∨
 (∃ n9 : Nat,
 (∃ cs2 : List Go.Value,
 (((Says C 26 [(D.agg [(dI x0), (dI x1), (dI x2), (dI x3), (dI x4), (dI x5), D.nil, (dI x7), (dI x8), (dI x9), (dI x10)]), (D.agg [(D.val (Value.string (s11))), D.nil]), (D.agg [(dI x13), (dI x14), (dI x15), (Dw n16 1 l16)])] [(D.sl (n9) 2 (cs2)), (D.val (Value.bool true))]) ∧
 (bcase (n4 == 0)
 (bcase (dL n3 2 cs1)
 (bcase (dL n9 2 cs2)
 (((Says C 16 [(Dw n3 2 cs1), (Dw n9 2 cs2)] kT) ∧
 (k kF)) ∨
 ((Says C 16 [(Dw n3 2 cs1), (Dw n9 2 cs2)] kF) ∧
 (k kF)))
 False)
 False)
 (k kF))) ∨
 ((Says C 26 [(D.agg [(dI x0), (dI x1), (dI x2), (dI x3), (dI x4), (dI x5), D.nil, (dI x7), (dI x8), (dI x9), (dI x10)]), (D.agg [(D.val (Value.string (s11))), D.nil]), (D.agg [(dI x13), (dI x14), (dI x15), (Dw n16 1 l16)])] [(D.sl (n9) 2 (cs2)), (D.val (Value.bool false))]) ∧
 (bcase (n4 == 0)
 (bcase (dL n3 2 cs1)
 (bcase (dL n9 2 cs2)
 (((Says C 16 [(Dw n3 2 cs1), (Dw n9 2 cs2)] kT) ∧
 (k kT)) ∨
 ((Says C 16 [(Dw n3 2 cs1), (Dw n9 2 cs2)] kF) ∧
 (k kF)))
 False)
 False)
 (k kF)))))))
 False))))))))))
 False))))))))))))))
 False)))
 False))))))))))))
 False)))
 False)))))
 (k kT))) ∨
 ((Says C 6 [] kF) ∧
 (k kF))) := by kernel_rfl
def gM7 (C : Ct) (L : AtLoop) (x0 : Int) (x1 : Int) (x2 : Int) (x3 : Int) (x4 : Int) (x5 : Int) (x7 : Int) (x8 : Int) (x9 : Int) (x10 : Int) (s11 : ByteArray) (x13 : Int) (x14 : Int) (x15 : Int) (k : List D → Prop) : Prop := wpFn Try.prog (hQ C) L 0 4 #[.agg #[.int .i64 x0, .int .i64 x1, .int .i64 x2, .int .i64 x3, .int .i64 x4, .int .i64 x5, .slice none 0 0, .int .i64 x7, .int .i64 x8, .int .i64 x9, .int .i64 x10], .agg #[.string s11, .slice none 0 0], .agg #[.int .i64 x13, .int .i64 x14, .int .i64 x15, .slice none 0 0]] (heapOf []) (dataK k)
theorem gM7_text (C : Ct) (L : AtLoop) (x0 : Int) (x1 : Int) (x2 : Int) (x3 : Int) (x4 : Int) (x5 : Int) (x7 : Int) (x8 : Int) (x9 : Int) (x10 : Int) (s11 : ByteArray) (x13 : Int) (x14 : Int) (x15 : Int) (k : List D → Prop) : gM7 C L x0 x1 x2 x3 x4 x5 x7 x8 x9 x10 s11 x13 x14 x15 k =
 (((Says C 6 [] kT) ∧
 (bcase (decide ((↑(ByteArray.size s11) : Int) ≤ 30))
 (((Qv (Value.agg [(vI x13), (vI x14), (vI x15), (Value.slice none 0 0)].toArray)) ∧
 ((Qv (Value.agg [(vI x0), (vI x1), (vI x2), (vI x3), (vI x4), (vI x5), (Value.slice none 0 0), (vI x7), (vI x8), (vI x9), (vI x10)].toArray)) ∧
 True)) ∧
 ((Says C 9 [(D.agg [(dI x0), (dI x1), (dI x2), (dI x3), (dI x4), (dI x5), D.nil, (dI x7), (dI x8), (dI x9), (dI x10)])] [(D.agg [(dI x0), (dI x1), (dI x2), (dI x3), (dI x4), (dI x5), (D.sl 0 5 []), (dI x7), (dI x8), (dI x9), (dI x10)])]) ∧
 (((Qv (Value.agg [(vI x13), (vI x14), (vI x15), (Value.slice none 0 0)].toArray)) ∧
 True) ∧
 ((Says C 21 [(D.agg [(dI x13), (dI x14), (dI x15), D.nil])] [(D.agg [(dI x13), (dI x14), (dI x15), (D.sl 0 1 [])])]) ∧
 (True ∧
 (∃ n1 : Int,
 (∃ n2 : Int,
 ((Says C 20 [(D.agg [(dI x0), (dI x1), (dI x2), (dI x3), (dI x4), (dI x5), (D.sl 0 5 []), (dI x7), (dI x8), (dI x9), (dI x10)]), (D.agg [(dI x13), (dI x14), (dI x15), (D.sl 0 1 [])])] [(dI n1), (dI n2)]) ∧
 (((Qv (vI n2)) ∧
 ((Qv (vI n1)) ∧
 ((Qv (Value.tuple [(vI n1), (vI n2)].toArray)) ∧
 True))) ∧
 (((Qv (vI n2)) ∧
 True) ∧
 (True ∧
 (((Qv (Value.agg [(vI x13), (vI x14), (vI x15), (Value.slice none 0 0)].toArray)) ∧
 ((Qv (Value.agg [(Value.string (s11)), (Value.slice none 0 0)].toArray)) ∧
 ((Qv (Value.agg [(vI x0), (vI x1), (vI x2), (vI x3), (vI x4), (vI x5), (Value.slice none 0 0), (vI x7), (vI x8), (vI x9), (vI x10)].toArray)) ∧
 True))) ∧
 ((Says C 9 [(D.agg [(dI x0), (dI x1), (dI x2), (dI x3), (dI x4), (dI x5), D.nil, (dI x7), (dI x8), (dI x9), (dI x10)])] [(D.agg [(dI x0), (dI x1), (dI x2), (dI x3), (dI x4), (dI x5), (D.sl 0 5 []), (dI x7), (dI x8), (dI x9), (dI x10)])]) ∧
 (((Qv (Value.agg [(vI x13), (vI x14), (vI x15), (Value.slice none 0 0)].toArray)) ∧
 ((Qv (Value.agg [(Value.string (s11)), (Value.slice none 0 0)].toArray)) ∧
 True)) ∧
 ((Says C 11 [(D.agg [(D.val (Value.string (s11))), D.nil])] [(D.agg [(D.val (Value.string (s11))), (D.sl 0 1 [])])]) ∧
 (((Qv (Value.agg [(vI x13), (vI x14), (vI x15), (Value.slice none 0 0)].toArray)) ∧
 True) ∧
 ((Says C 21 [(D.agg [(dI x13), (dI x14), (dI x15), D.nil])] [(D.agg [(dI x13), (dI x14), (dI x15), (D.sl 0 1 [])])]) ∧
 (True ∧
 (((∃ n3 : Int,
 ((Says C 22 [(D.agg [(dI x0), (dI x1), (dI x2), (dI x3), (dI x4), (dI x5), (D.sl 0 5 []), (dI x7), (dI x8), (dI x9), (dI x10)]), (D.agg [(D.val (Value.string (s11))), (D.sl 0 1 [])]), (D.agg [(dI x13), (dI x14), (dI x15), (D.sl 0 1 [])])] [D.nil, (D.val (Value.bool true)), (dI n3)]) ∧
 (((Qv (vI n3)) ∧
 (Qb ∧
 ((Qv (Value.slice none 0 0)) ∧
 ((Qv (Value.tuple [(Value.slice none 0 0), (Value.bool true), (vI n3)].toArray)) ∧
 True)))) ∧
 (((Qv (vI n3)) ∧
 (Qb ∧
 True)) ∧
 (((Qv (vI n3)) ∧
 True) ∧
 (True ∧
 (∃ n4 : Int,
 ((Says C 23 [(D.agg [(dI x0), (dI x1), (dI x2), (dI x3), (dI x4), (dI x5), D.nil, (dI x7), (dI x8), (dI x9), (dI x10)])] [(dI n4)]) ∧
 (bcase (n4 != 0)
 (bcase (n2 == n4)
 (bcase (n3 == n4)
 (bcase (n1 == 0)
 (k kF)
 (k kF))
 (k kF))
 (k kF))
 (∃ n5 : Int,
 (∃ n6 : Int,
 ((Says C 24 [(D.agg [(dI x0), (dI x1), (dI x2), (dI x3), (dI x4), (dI x5), D.nil, (dI x7), (dI x8), (dI x9), (dI x10)]), (D.agg [(dI x13), (dI x14), (dI x15), D.nil])] [(dI n5), (dI n6)]) ∧
 (bcase (n2 != n6)
 (k kF)
 (bcase (n1 != n5)
 (k kF)
 (∃ n7 : Int,
 ((Says C 25 [(D.agg [(dI x0), (dI x1), (dI x2), (dI x3), (dI x4), (dI x5), D.nil, (dI x7), (dI x8), (dI x9), (dI x10)]), (D.agg [(D.val (Value.string (s11))), D.nil])] [(dI n7)]) ∧
 (bcase (n7 == 0)
 (bcase (n6 != 0)
 (bcase (n3 == n6)
 (k kF)
 (k kF))
 ((((Says C 26 [(D.agg [(dI x0), (dI x1), (dI x2), (dI x3), (dI x4), (dI x5), D.nil, (dI x7), (dI x8), (dI x9), (dI x10)]), (D.agg [(D.val (Value.string (s11))), D.nil]), (D.agg [(dI x13), (dI x14), (dI x15), D.nil])] [D.nil, (D.val (Value.bool true))]) ∧
 (bcase (n3 == 0)
 (((Says C 16 [D.nil, D.nil] kT) ∧
 (k kT)) ∨
 ((Says C 16 [D.nil, D.nil] kF) ∧
 (k kF)))
 (k kF))) ∨
 ((Says C 26 [(D.agg [(dI x0), (dI x1), (dI x2), (dI x3), (dI x4), (dI x5), D.nil, (dI x7), (dI x8), (dI x9), (dI x10)]), (D.agg [(D.val (Value.string (s11))), D.nil]), (D.agg [(dI x13), (dI x14), (dI x15), D.nil])] [D.nil, (D.val (Value.bool false))]) ∧
 (bcase (n3 == 0)
 (((Says C 16 [D.nil, D.nil] kT) ∧
 (k kF)) ∨
 ((Says C 16 [D.nil, D.nil] kF) ∧
 (k kF)))
 (k kF)))) ∨
 (∃ n8 : Nat,
 (∃ cs1 : List Go.Value,
 (((Says C 26 [(D.agg [(dI x0), (dI x1), (dI x2), (dI x3), (dI x4), (dI x5), D.nil, (dI x7), (dI x8), (dI x9), (dI x10)]), (D.agg [(D.val (Value.string (s11))), D.nil]), (D.agg [(dI x13), (dI x14), (dI x15), D.nil])] [(D.sl (n8) 2 (cs1)), (D.val (Value.bool true))]) ∧
 (bcase (n3 == 0)
 (bcase (dL n8 2 cs1)
 (((Says C 16 [D.nil, (Dw n8 2 cs1)] kT) ∧
 (k kT)) ∨
 ((Says C 16 [D.nil, (Dw n8 2 cs1)] kF) ∧
 (k kF)))
 False)
 (k kF))) ∨
 ((Says C 26 [(D.agg [(dI x0), (dI x1), (dI x2), (dI x3), (dI x4), (dI x5), D.nil, (dI x7), (dI x8), (dI x9), (dI x10)]), (D.agg [(D.val (Value.string (s11))), D.nil]), (D.agg [(dI x13), (dI x14), (dI x15), D.nil])] [(D.sl (n8) 2 (cs1)), (D.val (Value.bool false))]) ∧
 (bcase (n3 == 0)
 (bcase (dL n8 2 cs1)
 (((Says C 16 [D.nil, (Dw n8 2 cs1)] kT) ∧
 (k kF)) ∨
 ((Says C 16 [D.nil, (Dw n8 2 cs1)] kF) ∧
 (k kF)))
 False)
 (k kF))))))))
 (bcase (n7 != 0)
 (bcase (n3 == n7)
 (k kF)
 (k kF))
 ((((Says C 26 [(D.agg [(dI x0), (dI x1), (dI x2), (dI x3), (dI x4), (dI x5), D.nil, (dI x7), (dI x8), (dI x9), (dI x10)]), (D.agg [(D.val (Value.string (s11))), D.nil]), (D.agg [(dI x13), (dI x14), (dI x15), D.nil])] [D.nil, (D.val (Value.bool true))]) ∧
 (bcase (n3 == 0)
 (((Says C 16 [D.nil, D.nil] kT) ∧
 (k kT)) ∨
 ((Says C 16 [D.nil, D.nil] kF) ∧
 (k kF)))
 (k kF))) ∨
 ((Says C 26 [(D.agg [(dI x0), (dI x1), (dI x2), (dI x3), (dI x4), (dI x5), D.nil, (dI x7), (dI x8), (dI x9), (dI x10)]), (D.agg [(D.val (Value.string (s11))), D.nil]), (D.agg [(dI x13), (dI x14), (dI x15), D.nil])] [D.nil, (D.val (Value.bool false))]) ∧
 (bcase (n3 == 0)
 (((Says C 16 [D.nil, D.nil] kT) ∧
 (k kF)) ∨
 ((Says C 16 [D.nil, D.nil] kF) ∧
 (k kF)))
 (k kF)))) ∨
 (∃ n8 : Nat,
 (∃ cs1 : List Go.Value,
 (((Says C 26 [(D.agg [(dI x0), (dI x1), (dI x2), (dI x3), (dI x4), (dI x5), D.nil, (dI x7), (dI x8), (dI x9), (dI x10)]), (D.agg [(D.val (Value.string (s11))), D.nil]), (D.agg [(dI x13), (dI x14), (dI x15), D.nil])] [(D.sl (n8) 2 (cs1)), (D.val (Value.bool true))]) ∧
 (bcase (n3 == 0)
 (bcase (dL n8 2 cs1)
 (((Says C 16 [D.nil, (Dw n8 2 cs1)] kT) ∧
 (k kT)) ∨
 ((Says C 16 [D.nil, (Dw n8 2 cs1)] kF) ∧
 (k kF)))
 False)
 (k kF))) ∨
 ((Says C 26 [(D.agg [(dI x0), (dI x1), (dI x2), (dI x3), (dI x4), (dI x5), D.nil, (dI x7), (dI x8), (dI x9), (dI x10)]), (D.agg [(D.val (Value.string (s11))), D.nil]), (D.agg [(dI x13), (dI x14), (dI x15), D.nil])] [(D.sl (n8) 2 (cs1)), (D.val (Value.bool false))]) ∧
 (bcase (n3 == 0)
 (bcase (dL n8 2 cs1)
 (((Says C 16 [D.nil, (Dw n8 2 cs1)] kT) ∧
 (k kF)) ∨
 ((Says C 16 [D.nil, (Dw n8 2 cs1)] kF) ∧
 (k kF)))
 False)
 (k kF))))))))))))))))))))))))) ∨
 (∃ n3 : Int,
 ((Says C 22 [(D.agg [(dI x0), (dI x1), (dI x2), (dI x3), (dI x4), (dI x5), (D.sl 0 5 []), (dI x7), (dI x8), (dI x9), (dI x10)]), (D.agg [(D.val (Value.string (s11))), (D.sl 0 1 [])]), (D.agg [(dI x13), (dI x14), (dI x15), (D.sl 0 1 [])])] [D.nil, (D.val (Value.bool false)), (dI n3)]) ∧
 (((Qv (vI n3)) ∧
 (Qf ∧
 ((Qv (Value.slice none 0 0)) ∧
 ((Qv (Value.tuple [(Value.slice none 0 0), (Value.bool false), (vI n3)].toArray)) ∧
 True)))) ∧
 (((Qv (vI n3)) ∧
 (Qf ∧
 True)) ∧
 (((Qv (vI n3)) ∧
 True) ∧
 (True ∧
 (∃ n4 : Int,
 ((Says C 23 [(D.agg [(dI x0), (dI x1), (dI x2), (dI x3), (dI x4), (dI x5), D.nil, (dI x7), (dI x8), (dI x9), (dI x10)])] [(dI n4)]) ∧
 (bcase (n4 != 0)
 (bcase (n2 == n4)
 (bcase (n3 == n4)
 (bcase (n1 == 0)
 (k kT)
 (k kF))
 (k kF))
 (k kF))
 (∃ n5 : Int,
 (∃ n6 : Int,
 ((Says C 24 [(D.agg [(dI x0), (dI x1), (dI x2), (dI x3), (dI x4), (dI x5), D.nil, (dI x7), (dI x8), (dI x9), (dI x10)]), (D.agg [(dI x13), (dI x14), (dI x15), D.nil])] [(dI n5), (dI n6)]) ∧
 (bcase (n2 != n6)
 (k kF)
 (bcase (n1 != n5)
 (k kF)
 (∃ n7 : Int,
 ((Says C 25 [(D.agg [(dI x0), (dI x1), (dI x2), (dI x3), (dI x4), (dI x5), D.nil, (dI x7), (dI x8), (dI x9), (dI x10)]), (D.agg [(D.val (Value.string (s11))), D.nil])] [(dI n7)]) ∧
 (bcase (n7 == 0)
 (bcase (n6 != 0)
 (bcase (n3 == n6)
 (k kT)
 (k kF))
 ((((Says C 26 [(D.agg [(dI x0), (dI x1), (dI x2), (dI x3), (dI x4), (dI x5), D.nil, (dI x7), (dI x8), (dI x9), (dI x10)]), (D.agg [(D.val (Value.string (s11))), D.nil]), (D.agg [(dI x13), (dI x14), (dI x15), D.nil])] [D.nil, (D.val (Value.bool true))]) ∧
 (bcase (n3 == 0)
 (((Says C 16 [D.nil, D.nil] kT) ∧
 (k kF)) ∨
 ((Says C 16 [D.nil, D.nil] kF) ∧
 (k kF)))
 (k kF))) ∨
 ((Says C 26 [(D.agg [(dI x0), (dI x1), (dI x2), (dI x3), (dI x4), (dI x5), D.nil, (dI x7), (dI x8), (dI x9), (dI x10)]), (D.agg [(D.val (Value.string (s11))), D.nil]), (D.agg [(dI x13), (dI x14), (dI x15), D.nil])] [D.nil, (D.val (Value.bool false))]) ∧
 (bcase (n3 == 0)
 (((Says C 16 [D.nil, D.nil] kT) ∧
 (k kT)) ∨
 ((Says C 16 [D.nil, D.nil] kF) ∧
 (k kF)))
 (k kF)))) ∨
 (∃ n8 : Nat,
 (∃ cs1 : List Go.Value,
 (((Says C 26 [(D.agg [(dI x0), (dI x1), (dI x2), (dI x3), (dI x4), (dI x5), D.nil, (dI x7), (dI x8), (dI x9), (dI x10)]), (D.agg [(D.val (Value.string (s11))), D.nil]), (D.agg [(dI x13), (dI x14), (dI x15), D.nil])] [(D.sl (n8) 2 (cs1)), (D.val (Value.bool true))]) ∧
 (bcase (n3 == 0)
 (bcase (dL n8 2 cs1)
 (((Says C 16 [D.nil, (Dw n8 2 cs1)] kT) ∧
 (k kF)) ∨
 ((Says C 16 [D.nil, (Dw n8 2 cs1)] kF) ∧
 (k kF)))
 False)
 (k kF))) ∨
 ((Says C 26 [(D.agg [(dI x0), (dI x1), (dI x2), (dI x3), (dI x4), (dI x5), D.nil, (dI x7), (dI x8), (dI x9), (dI x10)]), (D.agg [(D.val (Value.string (s11))), D.nil]), (D.agg [(dI x13), (dI x14), (dI x15), D.nil])] [(D.sl (n8) 2 (cs1)), (D.val (Value.bool false))]) ∧
 (bcase (n3 == 0)
 (bcase (dL n8 2 cs1)
 (((Says C 16 [D.nil, (Dw n8 2 cs1)] kT) ∧
 (k kT)) ∨
 ((Says C 16 [D.nil, (Dw n8 2 cs1)] kF) ∧
 (k kF)))
 False)
 (k kF))))))))
 (bcase (n7 != 0)
 (bcase (n3 == n7)
 (k kT)
 (k kF))
 ((((Says C 26 [(D.agg [(dI x0), (dI x1), (dI x2), (dI x3), (dI x4), (dI x5), D.nil, (dI x7), (dI x8), (dI x9), (dI x10)]), (D.agg [(D.val (Value.string (s11))), D.nil]), (D.agg [(dI x13), (dI x14), (dI x15), D.nil])] [D.nil, (D.val (Value.bool true))]) ∧
 (bcase (n3 == 0)
 (((Says C 16 [D.nil, D.nil] kT) ∧
 (k kF)) ∨
 ((Says C 16 [D.nil, D.nil] kF) ∧
 (k kF)))
 (k kF))) ∨
 ((Says C 26 [(D.agg [(dI x0), (dI x1), (dI x2), (dI x3), (dI x4), (dI x5), D.nil, (dI x7), (dI x8), (dI x9), (dI x10)]), (D.agg [(D.val (Value.string (s11))), D.nil]), (D.agg [(dI x13), (dI x14), (dI x15), D.nil])] [D.nil, (D.val (Value.bool false))]) ∧
 (bcase (n3 == 0)
 (((Says C 16 [D.nil, D.nil] kT) ∧
 (k kT)) ∨
 ((Says C 16 [D.nil, D.nil] kF) ∧
 (k kF)))
 (k kF)))) ∨
 (∃ n8 : Nat,
 (∃ cs1 : List Go.Value,
 (((Says C 26 [(D.agg [(dI x0), (dI x1), (dI x2), (dI x3), (dI x4), (dI x5), D.nil, (dI x7), (dI x8), (dI x9), (dI x10)]), (D.agg [(D.val (Value.string (s11))), D.nil]), (D.agg [(dI x13), (dI x14), (dI x15), D.nil])] [(D.sl (n8) 2 (cs1)), (D.val (Value.bool true))]) ∧
 (bcase (n3 == 0)
 (bcase (dL n8 2 cs1)
 (((Says C 16 [D.nil, (Dw n8 2 cs1)] kT) ∧
 (k kF)) ∨
 ((Says C 16 [D.nil, (Dw n8 2 cs1)] kF) ∧
 (k kF)))
 False)
 (k kF))) ∨
 ((Says C 26 [(D.agg [(dI x0), (dI x1), (dI x2), (dI x3), (dI x4), (dI x5), D.nil, (dI x7), (dI x8), (dI x9), (dI x10)]), (D.agg [(D.val (Value.string (s11))), D.nil]), (D.agg [(dI x13), (dI x14), (dI x15), D.nil])] [(D.sl (n8) 2 (cs1)), (D.val (Value.bool false))]) ∧
 (bcase (n3 == 0)
 (bcase (dL n8 2 cs1)
 (((Says C 16 [D.nil, (Dw n8 2 cs1)] kT) ∧
 (k kT)) ∨
 ((Says C 16 [D.nil, (Dw n8 2 cs1)] kF) ∧
 (k kF)))
 False)
 (k kF)))))))))))))))))))))))))) ∨
 (∃ n3 : Nat,
 (∃ cs1 : List Go.Value,
 ((∃ n4 : Int,
 ((Says C 22 [(D.agg [(dI x0), (dI x1), (dI x2), (dI x3), (dI x4), (dI x5), (D.sl 0 5 []), (dI x7), (dI x8), (dI x9), (dI x10)]), (D.agg [(D.val (Value.string (s11))), (D.sl 0 1 [])]), (D.agg [(dI x13), (dI x14), (dI x15), (D.sl 0 1 [])])] [(D.sl (n3) 2 (cs1)), (D.val (Value.bool true)), (dI n4)]) ∧
 (((Qv (vI n4)) ∧
 (Qb ∧
 ((Qv (Sl 1010 (n3) (n3))) ∧
 ((Qv (Value.tuple [(Sl 1010 (n3) (n3)), (Value.bool true), (vI n4)].toArray)) ∧
 True)))) ∧
 (((Qv (vI n4)) ∧
 (Qb ∧
 True)) ∧
 (((Qv (vI n4)) ∧
 True) ∧
 (True ∧
 (∃ n5 : Int,
 ((Says C 23 [(D.agg [(dI x0), (dI x1), (dI x2), (dI x3), (dI x4), (dI x5), D.nil, (dI x7), (dI x8), (dI x9), (dI x10)])] [(dI n5)]) ∧
 (bcase (n5 != 0)
 (bcase (n2 == n5)
 (bcase (n4 == n5)
 (bcase (n1 == 0)
 (bcase ((↑n3 : Int) == 0)
 (k kF)
 (k kF))
 (k kF))
 (k kF))
 (k kF))
 (∃ n6 : Int,
 (∃ n7 : Int,
 ((Says C 24 [(D.agg [(dI x0), (dI x1), (dI x2), (dI x3), (dI x4), (dI x5), D.nil, (dI x7), (dI x8), (dI x9), (dI x10)]), (D.agg [(dI x13), (dI x14), (dI x15), D.nil])] [(dI n6), (dI n7)]) ∧
 (bcase (n2 != n7)
 (k kF)
 (bcase (n1 != n6)
 (k kF)
 (∃ n8 : Int,
 ((Says C 25 [(D.agg [(dI x0), (dI x1), (dI x2), (dI x3), (dI x4), (dI x5), D.nil, (dI x7), (dI x8), (dI x9), (dI x10)]), (D.agg [(D.val (Value.string (s11))), D.nil])] [(dI n8)]) ∧
 (bcase (n8 == 0)
 (bcase (n7 != 0)
 (bcase (n4 == n7)
 (bcase ((↑n3 : Int) == 0)
 (k kF)
 (k kF))
 (k kF))
 ((((Says C 26 [(D.agg [(dI x0), (dI x1), (dI x2), (dI x3), (dI x4), (dI x5), D.nil, (dI x7), (dI x8), (dI x9), (dI x10)]), (D.agg [(D.val (Value.string (s11))), D.nil]), (D.agg [(dI x13), (dI x14), (dI x15), D.nil])] [D.nil, (D.val (Value.bool true))]) ∧
 (bcase (n4 == 0)
 (bcase (dL n3 2 cs1)
 (((Says C 16 [(Dw n3 2 cs1), D.nil] kT) ∧
 (k kT)) ∨
 ((Says C 16 [(Dw n3 2 cs1), D.nil] kF) ∧
 (k kF)))
 False)
 (k kF))) ∨
 ((Says C 26 [(D.agg [(dI x0), (dI x1), (dI x2), (dI x3), (dI x4), (dI x5), D.nil, (dI x7), (dI x8), (dI x9), (dI x10)]), (D.agg [(D.val (Value.string (s11))), D.nil]), (D.agg [(dI x13), (dI x14), (dI x15), D.nil])] [D.nil, (D.val (Value.bool false))]) ∧
 (bcase (n4 == 0)
 (bcase (dL n3 2 cs1)
 (((Says C 16 [(Dw n3 2 cs1), D.nil] kT) ∧
 (k kF)) ∨
 ((Says C 16 [(Dw n3 2 cs1), D.nil] kF) ∧
 (k kF)))
 False)
 (k kF)))) ∨
 (∃ n9 : Nat,
 (∃ cs2 : List Go.Value,
 (((Says C 26 [(D.agg [(dI x0), (dI x1), (dI x2), (dI x3), (dI x4), (dI x5), D.nil, (dI x7), (dI x8), (dI x9), (dI x10)]), (D.agg [(D.val (Value.string (s11))), D.nil]), (D.agg [(dI x13), (dI x14), (dI x15), D.nil])] [(D.sl (n9) 2 (cs2)), (D.val (Value.bool true))]) ∧
 (bcase (n4 == 0)
 (bcase (dL n3 2 cs1)
 (bcase (dL n9 2 cs2)
 (((Says C 16 [(Dw n3 2 cs1), (Dw n9 2 cs2)] kT) ∧
 (k kT)) ∨
 ((Says C 16 [(Dw n3 2 cs1), (Dw n9 2 cs2)] kF) ∧
 (k kF)))
 False)
 False)
 (k kF))) ∨
 ((Says C 26 [(D.agg [(dI x0), (dI x1), (dI x2), (dI x3), (dI x4), (dI x5), D.nil, (dI x7), (dI x8), (dI x9), (dI x10)]), (D.agg [(D.val (Value.string (s11))), D.nil]), (D.agg [(dI x13), (dI x14), (dI x15), D.nil])] [(D.sl (n9) 2 (cs2)), (D.val (Value.bool false))]) ∧
 (bcase (n4 == 0)
 (bcase (dL n3 2 cs1)
 (bcase (dL n9 2 cs2)
 (((Says C 16 [(Dw n3 2 cs1), (Dw n9 2 cs2)] kT) ∧
 (k kF)) ∨
 ((Says C 16 [(Dw n3 2 cs1), (Dw n9 2 cs2)] kF) ∧
 (k kF)))
 False)
 False)
 (k kF))))))))
 (bcase (n8 != 0)
 (bcase (n4 == n8)
 (bcase ((↑n3 : Int) == 0)
 (k kF)
 (k kF))
 (k kF))
 ((((Says C 26 [(D.agg [(dI x0), (dI x1), (dI x2), (dI x3), (dI x4), (dI x5), D.nil, (dI x7), (dI x8), (dI x9), (dI x10)]), (D.agg [(D.val (Value.string (s11))), D.nil]), (D.agg [(dI x13), (dI x14), (dI x15), D.nil])] [D.nil, (D.val (Value.bool true))]) ∧
 (bcase (n4 == 0)
 (bcase (dL n3 2 cs1)
 (((Says C 16 [(Dw n3 2 cs1), D.nil] kT) ∧
 (k kT)) ∨
 ((Says C 16 [(Dw n3 2 cs1), D.nil] kF) ∧
 (k kF)))
 False)
 (k kF))) ∨
 ((Says C 26 [(D.agg [(dI x0), (dI x1), (dI x2), (dI x3), (dI x4), (dI x5), D.nil, (dI x7), (dI x8), (dI x9), (dI x10)]), (D.agg [(D.val (Value.string (s11))), D.nil]), (D.agg [(dI x13), (dI x14), (dI x15), D.nil])] [D.nil, (D.val (Value.bool false))]) ∧
 (bcase (n4 == 0)
 (bcase (dL n3 2 cs1)
 (((Says C 16 [(Dw n3 2 cs1), D.nil] kT) ∧
 (k kF)) ∨
 ((Says C 16 [(Dw n3 2 cs1), D.nil] kF) ∧
 (k kF)))
 False)
 (k kF)))) ∨
 (∃ n9 : Nat,
 (∃ cs2 : List Go.Value,
 (((Says C 26 [(D.agg [(dI x0), (dI x1), (dI x2), (dI x3), (dI x4), (dI x5), D.nil, (dI x7), (dI x8), (dI x9), (dI x10)]), (D.agg [(D.val (Value.string (s11))), D.nil]), (D.agg [(dI x13), (dI x14), (dI x15), D.nil])] [(D.sl (n9) 2 (cs2)), (D.val (Value.bool true))]) ∧
 (bcase (n4 == 0)
 (bcase (dL n3 2 cs1)
 (bcase (dL n9 2 cs2)
 (((Says C 16 [(Dw n3 2 cs1), (Dw n9 2 cs2)] kT) ∧
 (k kT)) ∨
 ((Says C 16 [(Dw n3 2 cs1), (Dw n9 2 cs2)] kF) ∧
 (k kF)))
 False)
 False)
 (k kF))) ∨
 ((Says C 26 [(D.agg [(dI x0), (dI x1), (dI x2), (dI x3), (dI x4), (dI x5), D.nil, (dI x7), (dI x8), (dI x9), (dI x10)]), (D.agg [(D.val (Value.string (s11))), D.nil]), (D.agg [(dI x13), (dI x14), (dI x15), D.nil])] [(D.sl (n9) 2 (cs2)), (D.val (Value.bool false))]) ∧
 (bcase (n4 == 0)
 (bcase (dL n3 2 cs1)
 (bcase (dL n9 2 cs2)
 (((Says C 16 [(Dw n3 2 cs1), (Dw n9 2 cs2)] kT) ∧
 (k kF)) ∨
 ((Says C 16 [(Dw n3 2 cs1), (Dw n9 2 cs2)] kF) ∧
 (k kF)))
 False)
 False)
 (k kF))))))))))))))))))))))))) ∨
 (∃ n4 : Int,
 ((Says C 22 [(D.agg [(dI x0), (dI x1), (dI x2), (dI x3), (dI x4), (dI x5), (D.sl 0 5 []), (dI x7), (dI x8), (dI x9), (dI x10)]), (D.agg [(D.val (Value.string (s11))), (D.sl 0 1 [])]), (D.agg [(dI x13), (dI x14), (dI x15), (D.sl 0 1 [])])] [(D.sl (n3) 2 (cs1)), (D.val (Value.bool false)), (dI n4)]) ∧
 (((Qv (vI n4)) ∧
 (Qf ∧
 ((Qv (Sl 1010 (n3) (n3))) ∧
 ((Qv (Value.tuple [(Sl 1010 (n3) (n3)), (Value.bool false), (vI n4)].toArray)) ∧
 True)))) ∧
 (((Qv (vI n4)) ∧
 (Qf ∧
 True)) ∧
 (((Qv (vI n4)) ∧
 True) ∧
 (True ∧
 (∃ n5 : Int,
 ((Says C 23 [(D.agg [(dI x0), (dI x1), (dI x2), (dI x3), (dI x4), (dI x5), D.nil, (dI x7), (dI x8), (dI x9), (dI x10)])] [(dI n5)]) ∧
 (bcase (n5 != 0)
 (bcase (n2 == n5)
 (bcase (n4 == n5)
 (bcase (n1 == 0)
 (bcase ((↑n3 : Int) == 0)
 (k kT)
 (k kF))
 (k kF))
 (k kF))
 (k kF))
 (∃ n6 : Int,
 (∃ n7 : Int,
 ((Says C 24 [(D.agg [(dI x0), (dI x1), (dI x2), (dI x3), (dI x4), (dI x5), D.nil, (dI x7), (dI x8), (dI x9), (dI x10)]), (D.agg [(dI x13), (dI x14), (dI x15), D.nil])] [(dI n6), (dI n7)]) ∧
 (bcase (n2 != n7)
 (k kF)
 (bcase (n1 != n6)
 (k kF)
 (∃ n8 : Int,
 ((Says C 25 [(D.agg [(dI x0), (dI x1), (dI x2), (dI x3), (dI x4), (dI x5), D.nil, (dI x7), (dI x8), (dI x9), (dI x10)]), (D.agg [(D.val (Value.string (s11))), D.nil])] [(dI n8)]) ∧
 (bcase (n8 == 0)
 (bcase (n7 != 0)
 (bcase (n4 == n7)
 (bcase ((↑n3 : Int) == 0)
 (k kT)
 (k kF))
 (k kF))
 ((((Says C 26 [(D.agg [(dI x0), (dI x1), (dI x2), (dI x3), (dI x4), (dI x5), D.nil, (dI x7), (dI x8), (dI x9), (dI x10)]), (D.agg [(D.val (Value.string (s11))), D.nil]), (D.agg [(dI x13), (dI x14), (dI x15), D.nil])] [D.nil, (D.val (Value.bool true))]) ∧
 (bcase (n4 == 0)
 (bcase (dL n3 2 cs1)
 (((Says C 16 [(Dw n3 2 cs1), D.nil] kT) ∧
 (k kF)) ∨
 ((Says C 16 [(Dw n3 2 cs1), D.nil] kF) ∧
 (k kF)))
 False)
 (k kF))) ∨
 ((Says C 26 [(D.agg [(dI x0), (dI x1), (dI x2), (dI x3), (dI x4), (dI x5), D.nil, (dI x7), (dI x8), (dI x9), (dI x10)]), (D.agg [(D.val (Value.string (s11))), D.nil]), (D.agg [(dI x13), (dI x14), (dI x15), D.nil])] [D.nil, (D.val (Value.bool false))]) ∧
 (bcase (n4 == 0)
 (bcase (dL n3 2 cs1)
 (((Says C 16 [(Dw n3 2 cs1), D.nil] kT) ∧
 (k kT)) ∨
 ((Says C 16 [(Dw n3 2 cs1), D.nil] kF) ∧
 (k kF)))
 False)
 (k kF)))) ∨
 (∃ n9 : Nat,
 (∃ cs2 : List Go.Value,
 (((Says C 26 [(D.agg [(dI x0), (dI x1), (dI x2), (dI x3), (dI x4), (dI x5), D.nil, (dI x7), (dI x8), (dI x9), (dI x10)]), (D.agg [(D.val (Value.string (s11))), D.nil]), (D.agg [(dI x13), (dI x14), (dI x15), D.nil])] [(D.sl (n9) 2 (cs2)), (D.val (Value.bool true))]) ∧
 (bcase (n4 == 0)
 (bcase (dL n3 2 cs1)
 (bcase (dL n9 2 cs2)
 (((Says C 16 [(Dw n3 2 cs1), (Dw n9 2 cs2)] kT) ∧
 (k kF)) ∨
 ((Says C 16 [(Dw n3 2 cs1), (Dw n9 2 cs2)] kF) ∧
 (k kF)))
 False)
 False)
 (k kF))) ∨
 ((Says C 26 [(D.agg [(dI x0), (dI x1), (dI x2), (dI x3), (dI x4), (dI x5), D.nil, (dI x7), (dI x8), (dI x9), (dI x10)]), (D.agg [(D.val (Value.string (s11))), D.nil]), (D.agg [(dI x13), (dI x14), (dI x15), D.nil])] [(D.sl (n9) 2 (cs2)), (D.val (Value.bool false))]) ∧
 (bcase (n4 == 0)
 (bcase (dL n3 2 cs1)
 (bcase (dL n9 2 cs2)
 (((Says C 16 [(Dw n3 2 cs1), (Dw n9 2 cs2)] kT) ∧
 (k kT)) ∨
 ((Says C 16 [(Dw n3 2 cs1), (Dw n9 2 cs2)] kF) ∧
 (k kF)))
 False)
 False)
 (k kF))))))))
 (bcase (n8 != 0)
 (bcase (n4 == n8)
 (bcase ((↑n3 : Int) == 0)
 (k kT)
 (k kF))
 (k kF))
 ((((Says C 26 [(D.agg [(dI x0), (dI x1), (dI x2), (dI x3), (dI x4), (dI x5), D.nil, (dI x7), (dI x8), (dI x9), (dI x10)]), (D.agg [(D.val (Value.string (s11))), D.nil]), (D.agg [(dI x13), (dI x14), (dI x15), D.nil])] [D.nil, (D.val (Value.bool true))]) ∧
 (bcase (n4 == 0)
 (bcase (dL n3 2 cs1)
 (((Says C 16 [(Dw n3 2 cs1), D.nil] kT) ∧
 (k kF)) ∨
 ((Says C 16 [(Dw n3 2 cs1), D.nil] kF) ∧
 (k kF)))
 False)
 (k kF))) ∨
 ((Says C 26 [(D.agg [(dI x0), (dI x1), (dI x2), (dI x3), (dI x4), (dI x5), D.nil, (dI x7), (dI x8), (dI x9), (dI x10)]), (D.agg [(D.val (Value.string (s11))), D.nil]), (D.agg [(dI x13), (dI x14), (dI x15), D.nil])] [D.nil, (D.val (Value.bool false))]) ∧
 (bcase (n4 == 0)
 (bcase (dL n3 2 cs1)
 (((Says C 16 [(Dw n3 2 cs1), D.nil] kT) ∧
 (k kT)) ∨
 ((Says C 16 [(Dw n3 2 cs1), D.nil] kF) ∧
 (k kF)))
 False)
 (k kF)))) ∨
 (∃ n9 : Nat,
 (∃ cs2 : List Go.Value,
 (((Says C 26 [(D.agg [(dI x0), (dI x1), (dI x2), (dI x3), (dI x4), (dI x5), D.nil, (dI x7), (dI x8), (dI x9), (dI x10)]), (D.agg [(D.val (Value.string (s11))), D.nil]), (D.agg [(dI x13), (dI x14), (dI x15), D.nil])] [(D.sl (n9) 2 (cs2)), (D.val (Value.bool true))]) ∧
 (bcase (n4 == 0)
 (bcase (dL n3 2 cs1)
 (bcase (dL n9 2 cs2)
 (((Says C 16 [(Dw n3 2 cs1), (Dw n9 2 cs2)] kT) ∧
 (k kF)) ∨
 ((Says C 16 [(Dw n3 2 cs1), (Dw n9 2 cs2)] kF) ∧
 (k kF)))
 False)
 False)
 (k kF))) ∨
 ((Says C 26 [(D.agg [(dI x0), (dI x1), (dI x2), (dI x3), (dI x4), (dI x5), D.nil, (dI x7), (dI x8), (dI x9), (dI x10)]), (D.agg [(D.val (Value.string (s11))), D.nil]), (D.agg [(dI x13), (dI x14), (dI x15), D.nil])] [(D.sl (n9) 2 (cs2)), (D.val (Value.bool false))]) ∧
 (bcase (n4 == 0)
 (bcase (dL n3 2 cs1)
 (bcase (dL n9 2 cs2)
 (((Says C 16 [(Dw n3 2 cs1), (Dw n9 2 cs2)] kT) ∧
 (k kT)) ∨
 ((Says C 16 [(Dw n3 2 cs1), (Dw n9 2 cs2)] kF) ∧
 (k kF)))
 False)
 False)
 (k kF)))))))))))))))))))))))))))))))))))))))))))))))
 (k kT))) ∨
 ((Says C 6 [] kF) ∧
 (k kF))) := by kernel_rfl
def gcM (C : Ct) (L : AtLoop) (x0 : Int) (x1 : Int) (x2 : Int) (n3 : Nat) (c3 : Nat) (l3 : List Value) (k : List D → Prop) : Prop := wpFn Try.prog (hE C) L 0 21 #[.agg #[.int .i64 x0, .int .i64 x1, .int .i64 x2, .slice (some ⟨500, 0, none⟩) n3 c3]] (heapOf [(500, .sym l3 false 1)]) (dataK k)
theorem gcM_text (C : Ct) (L : AtLoop) (x0 : Int) (x1 : Int) (x2 : Int) (n3 : Nat) (c3 : Nat) (l3 : List Go.Value) (k : List D → Prop) : gcM C L x0 x1 x2 n3 c3 l3 k =
 (bcase (dL n3 1 l3)
 (bcase (n3 == 0)
 (((0 = 0) ∧
 (0 = 0)) ∧
 (k [(D.agg [(dI x0), (dI x1), (dI x2), (D.sl 0 1 [])])]))
 (bcase (decide (0 < 0 + n3))
 (bcase (decide ((2 * (0 + n3) + 768) * 8 ≤ 281474976710656))
 (bcase (decide (0 + n3 ≤ 1099511627776))
 (((Qv (0 + n3)) ∧
 ((List.length (List.take 0 (List.drop 0 []) ++ List.take (n3 * 1) (List.drop 0 l3))) = ((0 + n3) * 1))) ∧
 (k [(D.agg [(dI x0), (dI x1), (dI x2), (D.sl (0 + n3) 1 ([] ++ (Tk n3 1 l3)))])]))
 False)
 False)
 False))
 False) := by kernel_rfl
def gcMn (C : Ct) (L : AtLoop) (x0 : Int) (x1 : Int) (x2 : Int) (k : List D → Prop) : Prop := wpFn Try.prog (hE C) L 0 21 #[.agg #[.int .i64 x0, .int .i64 x1, .int .i64 x2, .slice none 0 0]] (heapOf []) (dataK k)
theorem gcMn_text (C : Ct) (L : AtLoop) (x0 : Int) (x1 : Int) (x2 : Int) (k : List D → Prop) : gcMn C L x0 x1 x2 k =
 (((0 = 0) ∧
 (0 = 0)) ∧
 (k [(D.agg [(dI x0), (dI x1), (dI x2), (D.sl 0 1 [])])])) := by kernel_rfl
end Go.Proofs.G5p
