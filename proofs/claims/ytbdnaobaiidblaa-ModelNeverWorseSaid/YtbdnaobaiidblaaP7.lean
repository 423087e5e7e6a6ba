/- Texts of the proof, put together: GlMN1, GlMN, GlMNK. -/
import Derived.Test.YtbdnaobaiidblaaGlMT
import Derived.Test.YtbdnaobaiidblaaP6
/- What is left to show of each function, written out; the kernel reckons it. -/
namespace Go.Proofs.G5l
open Go Go.Abs Go.Proofs
set_option maxRecDepth 100000
set_option linter.unusedVariables false
def gNw1 (C : Ct) (L : AtLoop) (n0 : Nat) (c0 : Nat) (l0 : List Value) (x1 : Int) (x2 : Int) (x3 : Int) (x4 : Int) (x5 : Int) (x6 : Int) (x7 : Int) (s8 : ByteArray) (k : List D → Prop) : Prop := wpFn Try.prog (hM C) L 0 4 #[.agg #[.slice (some ⟨500, 0, none⟩) n0 c0, .int .i64 x1, .int .i64 x2, .int .i64 x3, .int .i64 x4, .int .i64 x5], .agg #[.int .i64 x6, .int .i64 x7], .agg #[.string s8, .slice none 0 0]] (heapOf [(500, .sym l0 false 2)]) (dataK k)
theorem gNw1_text (C : Ct) (L : AtLoop) (n0 : Nat) (c0 : Nat) (l0 : List Go.Value) (x1 : Int) (x2 : Int) (x3 : Int) (x4 : Int) (x5 : Int) (x6 : Int) (x7 : Int) (s8 : ByteArray) (k : List D → Prop) : gNw1 C L n0 c0 l0 x1 x2 x3 x4 x5 x6 x7 s8 k =
 (((Says C 5 [] kT) ∧
 (bcase (decide ((↑n0 : Int) ≤ 14))
 (bcase (decide ((↑(ByteArray.size s8) : Int) ≤ 30))
 (bcase (dL n0 2 l0)
 (∃ n1 : Int,
 ((Says C 14 [(D.agg [(Dw n0 2 l0), (dI x1), (dI x2), (dI x3), (dI x4), (dI x5)])] [(dI n1)]) ∧
 (bcase (n1 != 0)
 (k kT)
 (bcase (decide (x5 > 30))
 (k kT)
 (bcase (dL n0 2 l0)
 (∃ n2 : Int,
 ((Says C 17 [(D.agg [(Dw n0 2 l0), (dI x1), (dI x2), (dI x3), (dI x4), (dI x5)]), (D.agg [(dI x6), (dI x7)])] [(dI n2)]) ∧
 (bcase (n2 != 0)
 (k kT)
 (∃ n3 : Int,
 ((Says C 20 [(D.agg [(D.val (Value.string (s8))), D.nil])] [(dI n3)]) ∧
 (bcase (n3 != 0)
 (k kT)
 (bcase (decide (x6 > 999900))
 (k kT)
 ((((Qv (Pt 1005 0)) ∧
 (Qv (some (AObj.cells [(vI 0), (vI 0)] 28 false 2)))) ∧
 ((Qv (Value.agg [(Value.string (s8)), (Value.slice none 0 0)].toArray)) ∧
 ((Qv (Value.agg [(Sl 500 (n0) (c0)), (vI x1), (vI x2), (vI x3), (vI x4), (vI x5)].toArray)) ∧
 True))) ∧
 (bcase (dL n0 2 l0)
 ((Says C 9 [(D.agg [(Dw n0 2 l0), (dI x1), (dI x2), (dI x3), (dI x4), (dI x5)])] [(D.agg [(Dw n0 2 l0), (dI x1), (dI x2), (dI x3), (dI x4), (dI x5)])]) ∧
 ((((Qv (Pt 1005 0)) ∧
 (Qv (some (AObj.cells [(vI 0), (vI 0)] 28 false 2)))) ∧
 ((Qv (Value.agg [(Value.string (s8)), (Value.slice none 0 0)].toArray)) ∧
 True)) ∧
 ((Says C 10 [(D.agg [(D.val (Value.string (s8))), D.nil])] [(D.agg [(D.val (Value.string (s8))), (D.sl 0 2 [])])]) ∧
 ((((Qv (Pt 1005 0)) ∧
 (Qv (some (AObj.cells [(vI 0), (vI 0)] 28 false 2)))) ∧
 True) ∧
 (bcase (dL n0 2 (Tk n0 2 l0))
 (∃ n4 : Int,
 (∃ n5 : Int,
 (∃ n6 : Int,
 ((Says C 13 [(D.agg [(Dw n0 2 (Tk n0 2 l0)), (dI x1), (dI x2), (dI x3), (dI x4), (dI x5)]), (D.agg [(D.val (Value.string (s8))), (D.sl 0 2 [])])] [(D.agg [(dI n4), (dI n5)]), (dI n6)]) ∧
 (((Qv (vI n6)) ∧
 ((Qv (Value.agg [(vI n4), (vI n5)].toArray)) ∧
 ((Qv (Value.tuple [(Value.agg [(vI n4), (vI n5)].toArray), (vI n6)].toArray)) ∧
 (((Qv (Pt 1005 0)) ∧
 (Qv (some (AObj.cells [(vI 0), (vI 0)] 28 false 2)))) ∧
 True)))) ∧
 (((Qv (vI n6)) ∧
 True) ∧
 (True ∧
 ((((Qv (Pt 1008 0)) ∧
 (Qv (some (AObj.cells [(vI 0), (vI 0)] 24 false 2)))) ∧
 ((Qv (Value.agg [(Value.string (s8)), (Value.slice none 0 0)].toArray)) ∧
 ((Qv (Value.agg [(vI n4), (vI n5)].toArray)) ∧
 ((Qv (Value.agg [(Sl 500 (n0) (c0)), (vI x1), (vI x2), (vI x3), (vI x4), (vI x5)].toArray)) ∧
 True)))) ∧
 (bcase (dL n0 2 l0)
 ((Says C 9 [(D.agg [(Dw n0 2 l0), (dI x1), (dI x2), (dI x3), (dI x4), (dI x5)])] [(D.agg [(Dw n0 2 l0), (dI x1), (dI x2), (dI x3), (dI x4), (dI x5)])]) ∧
 ((((Qv (Pt 1008 0)) ∧
 (Qv (some (AObj.cells [(vI 0), (vI 0)] 24 false 2)))) ∧
 ((Qv (Value.agg [(Value.string (s8)), (Value.slice none 0 0)].toArray)) ∧
 ((Qv (Value.agg [(vI n4), (vI n5)].toArray)) ∧
 True))) ∧
 ((Says C 10 [(D.agg [(D.val (Value.string (s8))), D.nil])] [(D.agg [(D.val (Value.string (s8))), (D.sl 0 2 [])])]) ∧
 ((((Qv (Pt 1008 0)) ∧
 (Qv (some (AObj.cells [(vI 0), (vI 0)] 24 false 2)))) ∧
 ((Qv (Value.agg [(vI n4), (vI n5)].toArray)) ∧
 True)) ∧
 (bcase (dL n0 2 (Tk n0 2 l0))
 (∃ n7 : Int,
 (∃ n8 : Int,
 (∃ n9 : Int,
 ((Says C 11 [(D.agg [(Dw n0 2 (Tk n0 2 l0)), (dI x1), (dI x2), (dI x3), (dI x4), (dI x5)]), (D.agg [(dI n4), (dI n5)]), (D.agg [(D.val (Value.string (s8))), (D.sl 0 2 [])])] [(D.agg [(dI n7), (dI n8)]), (dI n9)]) ∧
 (((Qv (vI n9)) ∧
 ((Qv (Value.agg [(vI n7), (vI n8)].toArray)) ∧
 ((Qv (Value.tuple [(Value.agg [(vI n7), (vI n8)].toArray), (vI n9)].toArray)) ∧
 (((Qv (Pt 1008 0)) ∧
 (Qv (some (AObj.cells [(vI 0), (vI 0)] 24 false 2)))) ∧
 True)))) ∧
 (((Qv (vI n9)) ∧
 True) ∧
 (True ∧
 ((((Qv (Pt 1011 0)) ∧
 (Qv (some (AObj.cells [(vI 0), (vI 0)] 24 false 2)))) ∧
 ((Qv (Value.agg [(Value.string (s8)), (Value.slice none 0 0)].toArray)) ∧
 ((Qv (Value.agg [(vI x6), (vI x7)].toArray)) ∧
 ((Qv (Value.agg [(Sl 500 (n0) (c0)), (vI x1), (vI x2), (vI x3), (vI x4), (vI x5)].toArray)) ∧
 True)))) ∧
 (bcase (dL n0 2 l0)
 ((Says C 9 [(D.agg [(Dw n0 2 l0), (dI x1), (dI x2), (dI x3), (dI x4), (dI x5)])] [(D.agg [(Dw n0 2 l0), (dI x1), (dI x2), (dI x3), (dI x4), (dI x5)])]) ∧
 ((((Qv (Pt 1011 0)) ∧
 (Qv (some (AObj.cells [(vI 0), (vI 0)] 24 false 2)))) ∧
 ((Qv (Value.agg [(Value.string (s8)), (Value.slice none 0 0)].toArray)) ∧
 ((Qv (Value.agg [(vI x6), (vI x7)].toArray)) ∧
 True))) ∧
 ((Says C 10 [(D.agg [(D.val (Value.string (s8))), D.nil])] [(D.agg [(D.val (Value.string (s8))), (D.sl 0 2 [])])]) ∧
 ((((Qv (Pt 1011 0)) ∧
 (Qv (some (AObj.cells [(vI 0), (vI 0)] 24 false 2)))) ∧
 ((Qv (Value.agg [(vI x6), (vI x7)].toArray)) ∧
 True)) ∧
 (bcase (dL n0 2 (Tk n0 2 l0))
 (∃ n10 : Int,
 (∃ n11 : Int,
 (∃ n12 : Int,
 ((Says C 11 [(D.agg [(Dw n0 2 (Tk n0 2 l0)), (dI x1), (dI x2), (dI x3), (dI x4), (dI x5)]), (D.agg [(dI x6), (dI x7)]), (D.agg [(D.val (Value.string (s8))), (D.sl 0 2 [])])] [(D.agg [(dI n10), (dI n11)]), (dI n12)]) ∧
 (((Qv (vI n12)) ∧
 ((Qv (Value.agg [(vI n10), (vI n11)].toArray)) ∧
 ((Qv (Value.tuple [(Value.agg [(vI n10), (vI n11)].toArray), (vI n12)].toArray)) ∧
 (((Qv (Pt 1011 0)) ∧
 (Qv (some (AObj.cells [(vI 0), (vI 0)] 24 false 2)))) ∧
 True)))) ∧
 (((Qv (vI n12)) ∧
 True) ∧
 (True ∧
 (bcase (n6 != 0)
 (k kF)
 (bcase (n9 != 0)
 (bcase (n9 != 8)
 (k kF)
 (bcase (n12 != 0)
 (bcase (n12 != 8)
 (k kF)
 (bcase (n9 == 0)
 (bcase (n12 == 0)
 (L 0 [(Prod.mk 3 (Pt 1000 0)), (Prod.mk 5 (Pt 1001 0)), (Prod.mk 9 (Pt 1002 0)), (Prod.mk 11 (Pt 1003 0)), (Prod.mk 13 (Value.bool true)), (Prod.mk 14 (Pt 1004 0)), (Prod.mk 15 (vI 0))] [(Prod.mk 1000 (AObj.cells [(Sl 500 (n0) (c0)), (vI x1), (vI x2), (vI x3), (vI x4), (vI x5)] 26 false 1)), (Prod.mk 1001 (AObj.cells [(Value.string (s8)), (Value.slice none 0 0)] 31 false 1)), (Prod.mk 1002 (AObj.cells [(vI n7), (vI n8)] 24 false 2)), (Prod.mk 1003 (AObj.cells [(vI n10), (vI n11)] 24 false 2)), (Prod.mk 1004 (AObj.cells [(vI x6), (vI x7)] 28 false 2)), (Prod.mk 500 (AObj.sym (l0) false 2))])
 (L 0 [(Prod.mk 3 (Pt 1000 0)), (Prod.mk 5 (Pt 1001 0)), (Prod.mk 9 (Pt 1002 0)), (Prod.mk 11 (Pt 1003 0)), (Prod.mk 13 (Value.bool false)), (Prod.mk 14 (Pt 1004 0)), (Prod.mk 15 (vI 0))] [(Prod.mk 1000 (AObj.cells [(Sl 500 (n0) (c0)), (vI x1), (vI x2), (vI x3), (vI x4), (vI x5)] 26 false 1)), (Prod.mk 1001 (AObj.cells [(Value.string (s8)), (Value.slice none 0 0)] 31 false 1)), (Prod.mk 1002 (AObj.cells [(vI n7), (vI n8)] 24 false 2)), (Prod.mk 1003 (AObj.cells [(vI n10), (vI n11)] 24 false 2)), (Prod.mk 1004 (AObj.cells [(vI x6), (vI x7)] 28 false 2)), (Prod.mk 500 (AObj.sym (l0) false 2))]))
 (L 0 [(Prod.mk 3 (Pt 1000 0)), (Prod.mk 5 (Pt 1001 0)), (Prod.mk 9 (Pt 1002 0)), (Prod.mk 11 (Pt 1003 0)), (Prod.mk 13 (Value.bool false)), (Prod.mk 14 (Pt 1004 0)), (Prod.mk 15 (vI 0))] [(Prod.mk 1000 (AObj.cells [(Sl 500 (n0) (c0)), (vI x1), (vI x2), (vI x3), (vI x4), (vI x5)] 26 false 1)), (Prod.mk 1001 (AObj.cells [(Value.string (s8)), (Value.slice none 0 0)] 31 false 1)), (Prod.mk 1002 (AObj.cells [(vI n7), (vI n8)] 24 false 2)), (Prod.mk 1003 (AObj.cells [(vI n10), (vI n11)] 24 false 2)), (Prod.mk 1004 (AObj.cells [(vI x6), (vI x7)] 28 false 2)), (Prod.mk 500 (AObj.sym (l0) false 2))])))
 (bcase (n9 == 0)
 (bcase (n12 == 0)
 (L 0 [(Prod.mk 3 (Pt 1000 0)), (Prod.mk 5 (Pt 1001 0)), (Prod.mk 9 (Pt 1002 0)), (Prod.mk 11 (Pt 1003 0)), (Prod.mk 13 (Value.bool true)), (Prod.mk 14 (Pt 1004 0)), (Prod.mk 15 (vI 0))] [(Prod.mk 1000 (AObj.cells [(Sl 500 (n0) (c0)), (vI x1), (vI x2), (vI x3), (vI x4), (vI x5)] 26 false 1)), (Prod.mk 1001 (AObj.cells [(Value.string (s8)), (Value.slice none 0 0)] 31 false 1)), (Prod.mk 1002 (AObj.cells [(vI n7), (vI n8)] 24 false 2)), (Prod.mk 1003 (AObj.cells [(vI n10), (vI n11)] 24 false 2)), (Prod.mk 1004 (AObj.cells [(vI x6), (vI x7)] 28 false 2)), (Prod.mk 500 (AObj.sym (l0) false 2))])
 (L 0 [(Prod.mk 3 (Pt 1000 0)), (Prod.mk 5 (Pt 1001 0)), (Prod.mk 9 (Pt 1002 0)), (Prod.mk 11 (Pt 1003 0)), (Prod.mk 13 (Value.bool false)), (Prod.mk 14 (Pt 1004 0)), (Prod.mk 15 (vI 0))] [(Prod.mk 1000 (AObj.cells [(Sl 500 (n0) (c0)), (vI x1), (vI x2), (vI x3), (vI x4), (vI x5)] 26 false 1)), (Prod.mk 1001 (AObj.cells [(Value.string (s8)), (Value.slice none 0 0)] 31 false 1)), (Prod.mk 1002 (AObj.cells [(vI n7), (vI n8)] 24 false 2)), (Prod.mk 1003 (AObj.cells [(vI n10), (vI n11)] 24 false 2)), (Prod.mk 1004 (AObj.cells [(vI x6), (vI x7)] 28 false 2)), (Prod.mk 500 (AObj.sym (l0) false 2))]))
 (L 0 [(Prod.mk 3 (Pt 1000 0)), (Prod.mk 5 (Pt 1001 0)), (Prod.mk 9 (Pt 1002 0)), (Prod.mk 11 (Pt 1003 0)), (Prod.mk 13 (Value.bool false)), (Prod.mk 14 (Pt 1004 0)), (Prod.mk 15 (vI 0))] [(Prod.mk 1000 (AObj.cells [(Sl 500 (n0) (c0)), (vI x1), (vI x2), (vI x3), (vI x4), (vI x5)] 26 false 1)), (Prod.mk 1001 (AObj.cells [(Value.string (s8)), (Value.slice none 0 0)] 31 false 1)), (Prod.mk 1002 (AObj.cells [(vI n7), (vI n8)] 24 false 2)), (Prod.mk 1003 (AObj.cells [(vI n10), (vI n11)] 24 false 2)), (Prod.mk 1004 (AObj.cells [(vI x6), (vI x7)] 28 false 2)), (Prod.mk 500 (AObj.sym (l0) false 2))]))))
 (bcase (n12 != 0)
 (bcase (n12 != 8)
 (k kF)
 (bcase (n9 == 0)
 (bcase (n12 == 0)
 (L 0 [(Prod.mk 3 (Pt 1000 0)), (Prod.mk 5 (Pt 1001 0)), (Prod.mk 9 (Pt 1002 0)), (Prod.mk 11 (Pt 1003 0)), (Prod.mk 13 (Value.bool true)), (Prod.mk 14 (Pt 1004 0)), (Prod.mk 15 (vI 0))] [(Prod.mk 1000 (AObj.cells [(Sl 500 (n0) (c0)), (vI x1), (vI x2), (vI x3), (vI x4), (vI x5)] 26 false 1)), (Prod.mk 1001 (AObj.cells [(Value.string (s8)), (Value.slice none 0 0)] 31 false 1)), (Prod.mk 1002 (AObj.cells [(vI n7), (vI n8)] 24 false 2)), (Prod.mk 1003 (AObj.cells [(vI n10), (vI n11)] 24 false 2)), (Prod.mk 1004 (AObj.cells [(vI x6), (vI x7)] 28 false 2)), (Prod.mk 500 (AObj.sym (l0) false 2))])
 (L 0 [(Prod.mk 3 (Pt 1000 0)), (Prod.mk 5 (Pt 1001 0)), (Prod.mk 9 (Pt 1002 0)), (Prod.mk 11 (Pt 1003 0)), (Prod.mk 13 (Value.bool false)), (Prod.mk 14 (Pt 1004 0)), (Prod.mk 15 (vI 0))] [(Prod.mk 1000 (AObj.cells [(Sl 500 (n0) (c0)), (vI x1), (vI x2), (vI x3), (vI x4), (vI x5)] 26 false 1)), (Prod.mk 1001 (AObj.cells [(Value.string (s8)), (Value.slice none 0 0)] 31 false 1)), (Prod.mk 1002 (AObj.cells [(vI n7), (vI n8)] 24 false 2)), (Prod.mk 1003 (AObj.cells [(vI n10), (vI n11)] 24 false 2)), (Prod.mk 1004 (AObj.cells [(vI x6), (vI x7)] 28 false 2)), (Prod.mk 500 (AObj.sym (l0) false 2))]))
 (L 0 [(Prod.mk 3 (Pt 1000 0)), (Prod.mk 5 (Pt 1001 0)), (Prod.mk 9 (Pt 1002 0)), (Prod.mk 11 (Pt 1003 0)), (Prod.mk 13 (Value.bool false)), (Prod.mk 14 (Pt 1004 0)), (Prod.mk 15 (vI 0))] [(Prod.mk 1000 (AObj.cells [(Sl 500 (n0) (c0)), (vI x1), (vI x2), (vI x3), (vI x4), (vI x5)] 26 false 1)), (Prod.mk 1001 (AObj.cells [(Value.string (s8)), (Value.slice none 0 0)] 31 false 1)), (Prod.mk 1002 (AObj.cells [(vI n7), (vI n8)] 24 false 2)), (Prod.mk 1003 (AObj.cells [(vI n10), (vI n11)] 24 false 2)), (Prod.mk 1004 (AObj.cells [(vI x6), (vI x7)] 28 false 2)), (Prod.mk 500 (AObj.sym (l0) false 2))])))
 (bcase (n9 == 0)
 (bcase (n12 == 0)
 (L 0 [(Prod.mk 3 (Pt 1000 0)), (Prod.mk 5 (Pt 1001 0)), (Prod.mk 9 (Pt 1002 0)), (Prod.mk 11 (Pt 1003 0)), (Prod.mk 13 (Value.bool true)), (Prod.mk 14 (Pt 1004 0)), (Prod.mk 15 (vI 0))] [(Prod.mk 1000 (AObj.cells [(Sl 500 (n0) (c0)), (vI x1), (vI x2), (vI x3), (vI x4), (vI x5)] 26 false 1)), (Prod.mk 1001 (AObj.cells [(Value.string (s8)), (Value.slice none 0 0)] 31 false 1)), (Prod.mk 1002 (AObj.cells [(vI n7), (vI n8)] 24 false 2)), (Prod.mk 1003 (AObj.cells [(vI n10), (vI n11)] 24 false 2)), (Prod.mk 1004 (AObj.cells [(vI x6), (vI x7)] 28 false 2)), (Prod.mk 500 (AObj.sym (l0) false 2))])
 (L 0 [(Prod.mk 3 (Pt 1000 0)), (Prod.mk 5 (Pt 1001 0)), (Prod.mk 9 (Pt 1002 0)), (Prod.mk 11 (Pt 1003 0)), (Prod.mk 13 (Value.bool false)), (Prod.mk 14 (Pt 1004 0)), (Prod.mk 15 (vI 0))] [(Prod.mk 1000 (AObj.cells [(Sl 500 (n0) (c0)), (vI x1), (vI x2), (vI x3), (vI x4), (vI x5)] 26 false 1)), (Prod.mk 1001 (AObj.cells [(Value.string (s8)), (Value.slice none 0 0)] 31 false 1)), (Prod.mk 1002 (AObj.cells [(vI n7), (vI n8)] 24 false 2)), (Prod.mk 1003 (AObj.cells [(vI n10), (vI n11)] 24 false 2)), (Prod.mk 1004 (AObj.cells [(vI x6), (vI x7)] 28 false 2)), (Prod.mk 500 (AObj.sym (l0) false 2))]))
 (L 0 [(Prod.mk 3 (Pt 1000 0)), (Prod.mk 5 (Pt 1001 0)), (Prod.mk 9 (Pt 1002 0)), (Prod.mk 11 (Pt 1003 0)), (Prod.mk 13 (Value.bool false)), (Prod.mk 14 (Pt 1004 0)), (Prod.mk 15 (vI 0))] [(Prod.mk 1000 (AObj.cells [(Sl 500 (n0) (c0)), (vI x1), (vI x2), (vI x3), (vI x4), (vI x5)] 26 false 1)), (Prod.mk 1001 (AObj.cells [(Value.string (s8)), (Value.slice none 0 0)] 31 false 1)), (Prod.mk 1002 (AObj.cells [(vI n7), (vI n8)] 24 false 2)), (Prod.mk 1003 (AObj.cells [(vI n10), (vI n11)] 24 false 2)), (Prod.mk 1004 (AObj.cells [(vI x6), (vI x7)] 28 false 2)), (Prod.mk 500 (AObj.sym (l0) false 2))]))))))))))))
 False)))))
 False)))))))))
 False)))))
 False)))))))))
 False)))))
 False)))))))))
 False)))))
 False)
 (k kT))
 (k kT))) ∨
 ((Says C 5 [] kF) ∧
 (k kF))) := by kernel_rfl
def gNw2 (C : Ct) (L : AtLoop) (x1 : Int) (x2 : Int) (x3 : Int) (x4 : Int) (x5 : Int) (x6 : Int) (x7 : Int) (s8 : ByteArray) (n9 : Nat) (c9 : Nat) (l9 : List Value) (k : List D → Prop) : Prop := wpFn Try.prog (hM C) L 0 4 #[.agg #[.slice none 0 0, .int .i64 x1, .int .i64 x2, .int .i64 x3, .int .i64 x4, .int .i64 x5], .agg #[.int .i64 x6, .int .i64 x7], .agg #[.string s8, .slice (some ⟨500, 0, none⟩) n9 c9]] (heapOf [(500, .sym l9 false 2)]) (dataK k)
theorem gNw2_text (C : Ct) (L : AtLoop) (x1 : Int) (x2 : Int) (x3 : Int) (x4 : Int) (x5 : Int) (x6 : Int) (x7 : Int) (s8 : ByteArray) (n9 : Nat) (c9 : Nat) (l9 : List Go.Value) (k : List D → Prop) : gNw2 C L x1 x2 x3 x4 x5 x6 x7 s8 n9 c9 l9 k =
 (((Says C 5 [] kT) ∧
 (bcase (decide ((↑n9 : Int) ≤ 14))
 (bcase (decide ((↑(ByteArray.size s8) : Int) ≤ 30))
 (∃ n1 : Int,
 ((Says C 14 [(D.agg [D.nil, (dI x1), (dI x2), (dI x3), (dI x4), (dI x5)])] [(dI n1)]) ∧
 (bcase (n1 != 0)
 (k kT)
 (bcase (decide (x5 > 30))
 (k kT)
 (∃ n2 : Int,
 ((Says C 17 [(D.agg [D.nil, (dI x1), (dI x2), (dI x3), (dI x4), (dI x5)]), (D.agg [(dI x6), (dI x7)])] [(dI n2)]) ∧
 (bcase (n2 != 0)
 (k kT)
 (bcase (dL n9 2 l9)
 (∃ n3 : Int,
 ((Says C 20 [(D.agg [(D.val (Value.string (s8))), (Dw n9 2 l9)])] [(dI n3)]) ∧
 (bcase (n3 != 0)
 (k kT)
 (bcase (decide (x6 > 999900))
 (k kT)
 ((((Qv (Pt 1005 0)) ∧
 (Qv (some (AObj.cells [(vI 0), (vI 0)] 28 false 2)))) ∧
 ((Qv (Value.agg [(Value.string (s8)), (Sl 500 (n9) (c9))].toArray)) ∧
 ((Qv (Value.agg [(Value.slice none 0 0), (vI x1), (vI x2), (vI x3), (vI x4), (vI x5)].toArray)) ∧
 True))) ∧
 ((Says C 9 [(D.agg [D.nil, (dI x1), (dI x2), (dI x3), (dI x4), (dI x5)])] [(D.agg [(D.sl 0 2 []), (dI x1), (dI x2), (dI x3), (dI x4), (dI x5)])]) ∧
 ((((Qv (Pt 1005 0)) ∧
 (Qv (some (AObj.cells [(vI 0), (vI 0)] 28 false 2)))) ∧
 ((Qv (Value.agg [(Value.string (s8)), (Sl 500 (n9) (c9))].toArray)) ∧
 True)) ∧
 (bcase (dL n9 2 l9)
 ((Says C 10 [(D.agg [(D.val (Value.string (s8))), (Dw n9 2 l9)])] [(D.agg [(D.val (Value.string (s8))), (Dw n9 2 l9)])]) ∧
 ((((Qv (Pt 1005 0)) ∧
 (Qv (some (AObj.cells [(vI 0), (vI 0)] 28 false 2)))) ∧
 True) ∧
 (bcase (dL n9 2 (Tk n9 2 l9))
 (∃ n4 : Int,
 (∃ n5 : Int,
 (∃ n6 : Int,
 ((Says C 13 [(D.agg [(D.sl 0 2 []), (dI x1), (dI x2), (dI x3), (dI x4), (dI x5)]), (D.agg [(D.val (Value.string (s8))), (Dw n9 2 (Tk n9 2 l9))])] [(D.agg [(dI n4), (dI n5)]), (dI n6)]) ∧
 (((Qv (vI n6)) ∧
 ((Qv (Value.agg [(vI n4), (vI n5)].toArray)) ∧
 ((Qv (Value.tuple [(Value.agg [(vI n4), (vI n5)].toArray), (vI n6)].toArray)) ∧
 (((Qv (Pt 1005 0)) ∧
 (Qv (some (AObj.cells [(vI 0), (vI 0)] 28 false 2)))) ∧
 True)))) ∧
 (((Qv (vI n6)) ∧
 True) ∧
 (True ∧
 ((((Qv (Pt 1008 0)) ∧
 (Qv (some (AObj.cells [(vI 0), (vI 0)] 24 false 2)))) ∧
 ((Qv (Value.agg [(Value.string (s8)), (Sl 500 (n9) (c9))].toArray)) ∧
 ((Qv (Value.agg [(vI n4), (vI n5)].toArray)) ∧
 ((Qv (Value.agg [(Value.slice none 0 0), (vI x1), (vI x2), (vI x3), (vI x4), (vI x5)].toArray)) ∧
 True)))) ∧
 ((Says C 9 [(D.agg [D.nil, (dI x1), (dI x2), (dI x3), (dI x4), (dI x5)])] [(D.agg [(D.sl 0 2 []), (dI x1), (dI x2), (dI x3), (dI x4), (dI x5)])]) ∧
 ((((Qv (Pt 1008 0)) ∧
 (Qv (some (AObj.cells [(vI 0), (vI 0)] 24 false 2)))) ∧
 ((Qv (Value.agg [(Value.string (s8)), (Sl 500 (n9) (c9))].toArray)) ∧
 ((Qv (Value.agg [(vI n4), (vI n5)].toArray)) ∧
 True))) ∧
 (bcase (dL n9 2 l9)
 ((Says C 10 [(D.agg [(D.val (Value.string (s8))), (Dw n9 2 l9)])] [(D.agg [(D.val (Value.string (s8))), (Dw n9 2 l9)])]) ∧
 ((((Qv (Pt 1008 0)) ∧
 (Qv (some (AObj.cells [(vI 0), (vI 0)] 24 false 2)))) ∧
 ((Qv (Value.agg [(vI n4), (vI n5)].toArray)) ∧
 True)) ∧
 (bcase (dL n9 2 (Tk n9 2 l9))
 (∃ n7 : Int,
 (∃ n8 : Int,
 (∃ n10 : Int,
 ((Says C 11 [(D.agg [(D.sl 0 2 []), (dI x1), (dI x2), (dI x3), (dI x4), (dI x5)]), (D.agg [(dI n4), (dI n5)]), (D.agg [(D.val (Value.string (s8))), (Dw n9 2 (Tk n9 2 l9))])] [(D.agg [(dI n7), (dI n8)]), (dI n10)]) ∧
 (((Qv (vI n10)) ∧
 ((Qv (Value.agg [(vI n7), (vI n8)].toArray)) ∧
 ((Qv (Value.tuple [(Value.agg [(vI n7), (vI n8)].toArray), (vI n10)].toArray)) ∧
 (((Qv (Pt 1008 0)) ∧
 (Qv (some (AObj.cells [(vI 0), (vI 0)] 24 false 2)))) ∧
 True)))) ∧
 (((Qv (vI n10)) ∧
 True) ∧
 (True ∧
 ((((Qv (Pt 1011 0)) ∧
 (Qv (some (AObj.cells [(vI 0), (vI 0)] 24 false 2)))) ∧
 ((Qv (Value.agg [(Value.string (s8)), (Sl 500 (n9) (c9))].toArray)) ∧
 ((Qv (Value.agg [(vI x6), (vI x7)].toArray)) ∧
 ((Qv (Value.agg [(Value.slice none 0 0), (vI x1), (vI x2), (vI x3), (vI x4), (vI x5)].toArray)) ∧
 True)))) ∧
 ((Says C 9 [(D.agg [D.nil, (dI x1), (dI x2), (dI x3), (dI x4), (dI x5)])] [(D.agg [(D.sl 0 2 []), (dI x1), (dI x2), (dI x3), (dI x4), (dI x5)])]) ∧
 ((((Qv (Pt 1011 0)) ∧
 (Qv (some (AObj.cells [(vI 0), (vI 0)] 24 false 2)))) ∧
 ((Qv (Value.agg [(Value.string (s8)), (Sl 500 (n9) (c9))].toArray)) ∧
 ((Qv (Value.agg [(vI x6), (vI x7)].toArray)) ∧
 True))) ∧
 (bcase (dL n9 2 l9)
 ((Says C 10 [(D.agg [(D.val (Value.string (s8))), (Dw n9 2 l9)])] [(D.agg [(D.val (Value.string (s8))), (Dw n9 2 l9)])]) ∧
 ((((Qv (Pt 1011 0)) ∧
 (Qv (some (AObj.cells [(vI 0), (vI 0)] 24 false 2)))) ∧
 ((Qv (Value.agg [(vI x6), (vI x7)].toArray)) ∧
 True)) ∧
 (bcase (dL n9 2 (Tk n9 2 l9))
 (∃ n11 : Int,
 (∃ n12 : Int,
 (∃ n13 : Int,
 ((Says C 11 [(D.agg [(D.sl 0 2 []), (dI x1), (dI x2), (dI x3), (dI x4), (dI x5)]), (D.agg [(dI x6), (dI x7)]), (D.agg [(D.val (Value.string (s8))), (Dw n9 2 (Tk n9 2 l9))])] [(D.agg [(dI n11), (dI n12)]), (dI n13)]) ∧
 (((Qv (vI n13)) ∧
 ((Qv (Value.agg [(vI n11), (vI n12)].toArray)) ∧
 ((Qv (Value.tuple [(Value.agg [(vI n11), (vI n12)].toArray), (vI n13)].toArray)) ∧
 (((Qv (Pt 1011 0)) ∧
 (Qv (some (AObj.cells [(vI 0), (vI 0)] 24 false 2)))) ∧
 True)))) ∧
 (((Qv (vI n13)) ∧
 True) ∧
 (True ∧
 (bcase (n6 != 0)
 (k kF)
 (bcase (n10 != 0)
 (bcase (n10 != 8)
 (k kF)
 (bcase (n13 != 0)
 (bcase (n13 != 8)
 (k kF)
 (bcase (n10 == 0)
 (bcase (n13 == 0)
 (L 0 [(Prod.mk 3 (Pt 1000 0)), (Prod.mk 5 (Pt 1001 0)), (Prod.mk 9 (Pt 1002 0)), (Prod.mk 11 (Pt 1003 0)), (Prod.mk 13 (Value.bool true)), (Prod.mk 14 (Pt 1004 0)), (Prod.mk 15 (vI 0))] [(Prod.mk 1000 (AObj.cells [(Value.slice none 0 0), (vI x1), (vI x2), (vI x3), (vI x4), (vI x5)] 26 false 1)), (Prod.mk 1001 (AObj.cells [(Value.string (s8)), (Sl 500 (n9) (c9))] 31 false 1)), (Prod.mk 1002 (AObj.cells [(vI n7), (vI n8)] 24 false 2)), (Prod.mk 1003 (AObj.cells [(vI n11), (vI n12)] 24 false 2)), (Prod.mk 1004 (AObj.cells [(vI x6), (vI x7)] 28 false 2)), (Prod.mk 500 (AObj.sym (l9) false 2))])
 (L 0 [(Prod.mk 3 (Pt 1000 0)), (Prod.mk 5 (Pt 1001 0)), (Prod.mk 9 (Pt 1002 0)), (Prod.mk 11 (Pt 1003 0)), (Prod.mk 13 (Value.bool false)), (Prod.mk 14 (Pt 1004 0)), (Prod.mk 15 (vI 0))] [(Prod.mk 1000 (AObj.cells [(Value.slice none 0 0), (vI x1), (vI x2), (vI x3), (vI x4), (vI x5)] 26 false 1)), (Prod.mk 1001 (AObj.cells [(Value.string (s8)), (Sl 500 (n9) (c9))] 31 false 1)), (Prod.mk 1002 (AObj.cells [(vI n7), (vI n8)] 24 false 2)), (Prod.mk 1003 (AObj.cells [(vI n11), (vI n12)] 24 false 2)), (Prod.mk 1004 (AObj.cells [(vI x6), (vI x7)] 28 false 2)), (Prod.mk 500 (AObj.sym (l9) false 2))]))
 (L 0 [(Prod.mk 3 (Pt 1000 0)), (Prod.mk 5 (Pt 1001 0)), (Prod.mk 9 (Pt 1002 0)), (Prod.mk 11 (Pt 1003 0)), (Prod.mk 13 (Value.bool false)), (Prod.mk 14 (Pt 1004 0)), (Prod.mk 15 (vI 0))] [(Prod.mk 1000 (AObj.cells [(Value.slice none 0 0), (vI x1), (vI x2), (vI x3), (vI x4), (vI x5)] 26 false 1)), (Prod.mk 1001 (AObj.cells [(Value.string (s8)), (Sl 500 (n9) (c9))] 31 false 1)), (Prod.mk 1002 (AObj.cells [(vI n7), (vI n8)] 24 false 2)), (Prod.mk 1003 (AObj.cells [(vI n11), (vI n12)] 24 false 2)), (Prod.mk 1004 (AObj.cells [(vI x6), (vI x7)] 28 false 2)), (Prod.mk 500 (AObj.sym (l9) false 2))])))
 (bcase (n10 == 0)
 (bcase (n13 == 0)
 (L 0 [(Prod.mk 3 (Pt 1000 0)), (Prod.mk 5 (Pt 1001 0)), (Prod.mk 9 (Pt 1002 0)), (Prod.mk 11 (Pt 1003 0)), (Prod.mk 13 (Value.bool true)), (Prod.mk 14 (Pt 1004 0)), (Prod.mk 15 (vI 0))] [(Prod.mk 1000 (AObj.cells [(Value.slice none 0 0), (vI x1), (vI x2), (vI x3), (vI x4), (vI x5)] 26 false 1)), (Prod.mk 1001 (AObj.cells [(Value.string (s8)), (Sl 500 (n9) (c9))] 31 false 1)), (Prod.mk 1002 (AObj.cells [(vI n7), (vI n8)] 24 false 2)), (Prod.mk 1003 (AObj.cells [(vI n11), (vI n12)] 24 false 2)), (Prod.mk 1004 (AObj.cells [(vI x6), (vI x7)] 28 false 2)), (Prod.mk 500 (AObj.sym (l9) false 2))])
 (L 0 [(Prod.mk 3 (Pt 1000 0)), (Prod.mk 5 (Pt 1001 0)), (Prod.mk 9 (Pt 1002 0)), (Prod.mk 11 (Pt 1003 0)), (Prod.mk 13 (Value.bool false)), (Prod.mk 14 (Pt 1004 0)), (Prod.mk 15 (vI 0))] [(Prod.mk 1000 (AObj.cells [(Value.slice none 0 0), (vI x1), (vI x2), (vI x3), (vI x4), (vI x5)] 26 false 1)), (Prod.mk 1001 (AObj.cells [(Value.string (s8)), (Sl 500 (n9) (c9))] 31 false 1)), (Prod.mk 1002 (AObj.cells [(vI n7), (vI n8)] 24 false 2)), (Prod.mk 1003 (AObj.cells [(vI n11), (vI n12)] 24 false 2)), (Prod.mk 1004 (AObj.cells [(vI x6), (vI x7)] 28 false 2)), (Prod.mk 500 (AObj.sym (l9) false 2))]))
 (L 0 [(Prod.mk 3 (Pt 1000 0)), (Prod.mk 5 (Pt 1001 0)), (Prod.mk 9 (Pt 1002 0)), (Prod.mk 11 (Pt 1003 0)), (Prod.mk 13 (Value.bool false)), (Prod.mk 14 (Pt 1004 0)), (Prod.mk 15 (vI 0))] [(Prod.mk 1000 (AObj.cells [(Value.slice none 0 0), (vI x1), (vI x2), (vI x3), (vI x4), (vI x5)] 26 false 1)), (Prod.mk 1001 (AObj.cells [(Value.string (s8)), (Sl 500 (n9) (c9))] 31 false 1)), (Prod.mk 1002 (AObj.cells [(vI n7), (vI n8)] 24 false 2)), (Prod.mk 1003 (AObj.cells [(vI n11), (vI n12)] 24 false 2)), (Prod.mk 1004 (AObj.cells [(vI x6), (vI x7)] 28 false 2)), (Prod.mk 500 (AObj.sym (l9) false 2))]))))
 (bcase (n13 != 0)
 (bcase (n13 != 8)
 (k kF)
 (bcase (n10 == 0)
 (bcase (n13 == 0)
 (L 0 [(Prod.mk 3 (Pt 1000 0)), (Prod.mk 5 (Pt 1001 0)), (Prod.mk 9 (Pt 1002 0)), (Prod.mk 11 (Pt 1003 0)), (Prod.mk 13 (Value.bool true)), (Prod.mk 14 (Pt 1004 0)), (Prod.mk 15 (vI 0))] [(Prod.mk 1000 (AObj.cells [(Value.slice none 0 0), (vI x1), (vI x2), (vI x3), (vI x4), (vI x5)] 26 false 1)), (Prod.mk 1001 (AObj.cells [(Value.string (s8)), (Sl 500 (n9) (c9))] 31 false 1)), (Prod.mk 1002 (AObj.cells [(vI n7), (vI n8)] 24 false 2)), (Prod.mk 1003 (AObj.cells [(vI n11), (vI n12)] 24 false 2)), (Prod.mk 1004 (AObj.cells [(vI x6), (vI x7)] 28 false 2)), (Prod.mk 500 (AObj.sym (l9) false 2))])
 (L 0 [(Prod.mk 3 (Pt 1000 0)), (Prod.mk 5 (Pt 1001 0)), (Prod.mk 9 (Pt 1002 0)), (Prod.mk 11 (Pt 1003 0)), (Prod.mk 13 (Value.bool false)), (Prod.mk 14 (Pt 1004 0)), (Prod.mk 15 (vI 0))] [(Prod.mk 1000 (AObj.cells [(Value.slice none 0 0), (vI x1), (vI x2), (vI x3), (vI x4), (vI x5)] 26 false 1)), (Prod.mk 1001 (AObj.cells [(Value.string (s8)), (Sl 500 (n9) (c9))] 31 false 1)), (Prod.mk 1002 (AObj.cells [(vI n7), (vI n8)] 24 false 2)), (Prod.mk 1003 (AObj.cells [(vI n11), (vI n12)] 24 false 2)), (Prod.mk 1004 (AObj.cells [(vI x6), (vI x7)] 28 false 2)), (Prod.mk 500 (AObj.sym (l9) false 2))]))
 (L 0 [(Prod.mk 3 (Pt 1000 0)), (Prod.mk 5 (Pt 1001 0)), (Prod.mk 9 (Pt 1002 0)), (Prod.mk 11 (Pt 1003 0)), (Prod.mk 13 (Value.bool false)), (Prod.mk 14 (Pt 1004 0)), (Prod.mk 15 (vI 0))] [(Prod.mk 1000 (AObj.cells [(Value.slice none 0 0), (vI x1), (vI x2), (vI x3), (vI x4), (vI x5)] 26 false 1)), (Prod.mk 1001 (AObj.cells [(Value.string (s8)), (Sl 500 (n9) (c9))] 31 false 1)), (Prod.mk 1002 (AObj.cells [(vI n7), (vI n8)] 24 false 2)), (Prod.mk 1003 (AObj.cells [(vI n11), (vI n12)] 24 false 2)), (Prod.mk 1004 (AObj.cells [(vI x6), (vI x7)] 28 false 2)), (Prod.mk 500 (AObj.sym (l9) false 2))])))
 (bcase (n10 == 0)
 (bcase (n13 == 0)
 (L 0 [(Prod.mk 3 (Pt 1000 0)), (Prod.mk 5 (Pt 1001 0)), (Prod.mk 9 (Pt 1002 0)), (Prod.mk 11 (Pt 1003 0)), (Prod.mk 13 (Value.bool true)), (Prod.mk 14 (Pt 1004 0)), (Prod.mk 15 (vI 0))] [(Prod.mk 1000 (AObj.cells [(Value.slice none 0 0), (vI x1), (vI x2), (vI x3), (vI x4), (vI x5)] 26 false 1)), (Prod.mk 1001 (AObj.cells [(Value.string (s8)), (Sl 500 (n9) (c9))] 31 false 1)), (Prod.mk 1002 (AObj.cells [(vI n7), (vI n8)] 24 false 2)), (Prod.mk 1003 (AObj.cells [(vI n11), (vI n12)] 24 false 2)), (Prod.mk 1004 (AObj.cells [(vI x6), (vI x7)] 28 false 2)), (Prod.mk 500 (AObj.sym (l9) false 2))])
 (L 0 [(Prod.mk 3 (Pt 1000 0)), (Prod.mk 5 (Pt 1001 0)), (Prod.mk 9 (Pt 1002 0)), (Prod.mk 11 (Pt 1003 0)), (Prod.mk 13 (Value.bool false)), (Prod.mk 14 (Pt 1004 0)), (Prod.mk 15 (vI 0))] [(Prod.mk 1000 (AObj.cells [(Value.slice none 0 0), (vI x1), (vI x2), (vI x3), (vI x4), (vI x5)] 26 false 1)), (Prod.mk 1001 (AObj.cells [(Value.string (s8)), (Sl 500 (n9) (c9))] 31 false 1)), (Prod.mk 1002 (AObj.cells [(vI n7), (vI n8)] 24 false 2)), (Prod.mk 1003 (AObj.cells [(vI n11), (vI n12)] 24 false 2)), (Prod.mk 1004 (AObj.cells [(vI x6), (vI x7)] 28 false 2)), (Prod.mk 500 (AObj.sym (l9) false 2))]))
 (L 0 [(Prod.mk 3 (Pt 1000 0)), (Prod.mk 5 (Pt 1001 0)), (Prod.mk 9 (Pt 1002 0)), (Prod.mk 11 (Pt 1003 0)), (Prod.mk 13 (Value.bool false)), (Prod.mk 14 (Pt 1004 0)), (Prod.mk 15 (vI 0))] [(Prod.mk 1000 (AObj.cells [(Value.slice none 0 0), (vI x1), (vI x2), (vI x3), (vI x4), (vI x5)] 26 false 1)), (Prod.mk 1001 (AObj.cells [(Value.string (s8)), (Sl 500 (n9) (c9))] 31 false 1)), (Prod.mk 1002 (AObj.cells [(vI n7), (vI n8)] 24 false 2)), (Prod.mk 1003 (AObj.cells [(vI n11), (vI n12)] 24 false 2)), (Prod.mk 1004 (AObj.cells [(vI x6), (vI x7)] 28 false 2)), (Prod.mk 500 (AObj.sym (l9) false 2))]))))))))))))
 False)))
 False)))))))))))
 False)))
 False)))))))))))
 False)))
 False))))))))
 False))))))))
 (k kT))
 (k kT))) ∨
 ((Says C 5 [] kF) ∧
 (k kF))) := by kernel_rfl
def gNw3 (C : Ct) (L : AtLoop) (x1 : Int) (x2 : Int) (x3 : Int) (x4 : Int) (x5 : Int) (x6 : Int) (x7 : Int) (s8 : ByteArray) (k : List D → Prop) : Prop := wpFn Try.prog (hM C) L 0 4 #[.agg #[.slice none 0 0, .int .i64 x1, .int .i64 x2, .int .i64 x3, .int .i64 x4, .int .i64 x5], .agg #[.int .i64 x6, .int .i64 x7], .agg #[.string s8, .slice none 0 0]] (heapOf []) (dataK k)
theorem gNw3_text (C : Ct) (L : AtLoop) (x1 : Int) (x2 : Int) (x3 : Int) (x4 : Int) (x5 : Int) (x6 : Int) (x7 : Int) (s8 : ByteArray) (k : List D → Prop) : gNw3 C L x1 x2 x3 x4 x5 x6 x7 s8 k =
 (((Says C 5 [] kT) ∧
 (bcase (decide ((↑(ByteArray.size s8) : Int) ≤ 30))
 (∃ n1 : Int,
 ((Says C 14 [(D.agg [D.nil, (dI x1), (dI x2), (dI x3), (dI x4), (dI x5)])] [(dI n1)]) ∧
 (bcase (n1 != 0)
 (k kT)
 (bcase (decide (x5 > 30))
 (k kT)
 (∃ n2 : Int,
 ((Says C 17 [(D.agg [D.nil, (dI x1), (dI x2), (dI x3), (dI x4), (dI x5)]), (D.agg [(dI x6), (dI x7)])] [(dI n2)]) ∧
 (bcase (n2 != 0)
 (k kT)
 (∃ n3 : Int,
 ((Says C 20 [(D.agg [(D.val (Value.string (s8))), D.nil])] [(dI n3)]) ∧
 (bcase (n3 != 0)
 (k kT)
 (bcase (decide (x6 > 999900))
 (k kT)
 ((((Qv (Pt 1005 0)) ∧
 (Qv (some (AObj.cells [(vI 0), (vI 0)] 28 false 2)))) ∧
 ((Qv (Value.agg [(Value.string (s8)), (Value.slice none 0 0)].toArray)) ∧
 ((Qv (Value.agg [(Value.slice none 0 0), (vI x1), (vI x2), (vI x3), (vI x4), (vI x5)].toArray)) ∧
 True))) ∧
 ((Says C 9 [(D.agg [D.nil, (dI x1), (dI x2), (dI x3), (dI x4), (dI x5)])] [(D.agg [(D.sl 0 2 []), (dI x1), (dI x2), (dI x3), (dI x4), (dI x5)])]) ∧
 ((((Qv (Pt 1005 0)) ∧
 (Qv (some (AObj.cells [(vI 0), (vI 0)] 28 false 2)))) ∧
 ((Qv (Value.agg [(Value.string (s8)), (Value.slice none 0 0)].toArray)) ∧
 True)) ∧
 ((Says C 10 [(D.agg [(D.val (Value.string (s8))), D.nil])] [(D.agg [(D.val (Value.string (s8))), (D.sl 0 2 [])])]) ∧
 ((((Qv (Pt 1005 0)) ∧
 (Qv (some (AObj.cells [(vI 0), (vI 0)] 28 false 2)))) ∧
 True) ∧
 (∃ n4 : Int,
 (∃ n5 : Int,
 (∃ n6 : Int,
 ((Says C 13 [(D.agg [(D.sl 0 2 []), (dI x1), (dI x2), (dI x3), (dI x4), (dI x5)]), (D.agg [(D.val (Value.string (s8))), (D.sl 0 2 [])])] [(D.agg [(dI n4), (dI n5)]), (dI n6)]) ∧
 (((Qv (vI n6)) ∧
 ((Qv (Value.agg [(vI n4), (vI n5)].toArray)) ∧
 ((Qv (Value.tuple [(Value.agg [(vI n4), (vI n5)].toArray), (vI n6)].toArray)) ∧
 (((Qv (Pt 1005 0)) ∧
 (Qv (some (AObj.cells [(vI 0), (vI 0)] 28 false 2)))) ∧
 True)))) ∧
 (((Qv (vI n6)) ∧
 True) ∧
 (True ∧
 ((((Qv (Pt 1008 0)) ∧
 (Qv (some (AObj.cells [(vI 0), (vI 0)] 24 false 2)))) ∧
 ((Qv (Value.agg [(Value.string (s8)), (Value.slice none 0 0)].toArray)) ∧
 ((Qv (Value.agg [(vI n4), (vI n5)].toArray)) ∧
 ((Qv (Value.agg [(Value.slice none 0 0), (vI x1), (vI x2), (vI x3), (vI x4), (vI x5)].toArray)) ∧
 True)))) ∧
 ((Says C 9 [(D.agg [D.nil, (dI x1), (dI x2), (dI x3), (dI x4), (dI x5)])] [(D.agg [(D.sl 0 2 []), (dI x1), (dI x2), (dI x3), (dI x4), (dI x5)])]) ∧
 ((((Qv (Pt 1008 0)) ∧
 (Qv (some (AObj.cells [(vI 0), (vI 0)] 24 false 2)))) ∧
 ((Qv (Value.agg [(Value.string (s8)), (Value.slice none 0 0)].toArray)) ∧
 ((Qv (Value.agg [(vI n4), (vI n5)].toArray)) ∧
 True))) ∧
 ((Says C 10 [(D.agg [(D.val (Value.string (s8))), D.nil])] [(D.agg [(D.val (Value.string (s8))), (D.sl 0 2 [])])]) ∧
 ((((Qv (Pt 1008 0)) ∧
 (Qv (some (AObj.cells [(vI 0), (vI 0)] 24 false 2)))) ∧
 ((Qv (Value.agg [(vI n4), (vI n5)].toArray)) ∧
 True)) ∧
 (∃ n7 : Int,
 (∃ n8 : Int,
 (∃ n9 : Int,
 ((Says C 11 [(D.agg [(D.sl 0 2 []), (dI x1), (dI x2), (dI x3), (dI x4), (dI x5)]), (D.agg [(dI n4), (dI n5)]), (D.agg [(D.val (Value.string (s8))), (D.sl 0 2 [])])] [(D.agg [(dI n7), (dI n8)]), (dI n9)]) ∧
 (((Qv (vI n9)) ∧
 ((Qv (Value.agg [(vI n7), (vI n8)].toArray)) ∧
 ((Qv (Value.tuple [(Value.agg [(vI n7), (vI n8)].toArray), (vI n9)].toArray)) ∧
 (((Qv (Pt 1008 0)) ∧
 (Qv (some (AObj.cells [(vI 0), (vI 0)] 24 false 2)))) ∧
 True)))) ∧
 (((Qv (vI n9)) ∧
 True) ∧
 (True ∧
 ((((Qv (Pt 1011 0)) ∧
 (Qv (some (AObj.cells [(vI 0), (vI 0)] 24 false 2)))) ∧
 ((Qv (Value.agg [(Value.string (s8)), (Value.slice none 0 0)].toArray)) ∧
 ((Qv (Value.agg [(vI x6), (vI x7)].toArray)) ∧
 ((Qv (Value.agg [(Value.slice none 0 0), (vI x1), (vI x2), (vI x3), (vI x4), (vI x5)].toArray)) ∧
 True)))) ∧
 ((Says C 9 [(D.agg [D.nil, (dI x1), (dI x2), (dI x3), (dI x4), (dI x5)])] [(D.agg [(D.sl 0 2 []), (dI x1), (dI x2), (dI x3), (dI x4), (dI x5)])]) ∧
 ((((Qv (Pt 1011 0)) ∧
 (Qv (some (AObj.cells [(vI 0), (vI 0)] 24 false 2)))) ∧
 ((Qv (Value.agg [(Value.string (s8)), (Value.slice none 0 0)].toArray)) ∧
 ((Qv (Value.agg [(vI x6), (vI x7)].toArray)) ∧
 True))) ∧
 ((Says C 10 [(D.agg [(D.val (Value.string (s8))), D.nil])] [(D.agg [(D.val (Value.string (s8))), (D.sl 0 2 [])])]) ∧
 ((((Qv (Pt 1011 0)) ∧
 (Qv (some (AObj.cells [(vI 0), (vI 0)] 24 false 2)))) ∧
 ((Qv (Value.agg [(vI x6), (vI x7)].toArray)) ∧
 True)) ∧
 (∃ n10 : Int,
 (∃ n11 : Int,
 (∃ n12 : Int,
 ((Says C 11 [(D.agg [(D.sl 0 2 []), (dI x1), (dI x2), (dI x3), (dI x4), (dI x5)]), (D.agg [(dI x6), (dI x7)]), (D.agg [(D.val (Value.string (s8))), (D.sl 0 2 [])])] [(D.agg [(dI n10), (dI n11)]), (dI n12)]) ∧
 (((Qv (vI n12)) ∧
 ((Qv (Value.agg [(vI n10), (vI n11)].toArray)) ∧
 ((Qv (Value.tuple [(Value.agg [(vI n10), (vI n11)].toArray), (vI n12)].toArray)) ∧
 (((Qv (Pt 1011 0)) ∧
 (Qv (some (AObj.cells [(vI 0), (vI 0)] 24 false 2)))) ∧
 True)))) ∧
 (((Qv (vI n12)) ∧
 True) ∧
 (True ∧
 (bcase (n6 != 0)
 (k kF)
 (bcase (n9 != 0)
 (bcase (n9 != 8)
 (k kF)
 (bcase (n12 != 0)
 (bcase (n12 != 8)
 (k kF)
 (bcase (n9 == 0)
 (bcase (n12 == 0)
 (L 0 [(Prod.mk 3 (Pt 1000 0)), (Prod.mk 5 (Pt 1001 0)), (Prod.mk 9 (Pt 1002 0)), (Prod.mk 11 (Pt 1003 0)), (Prod.mk 13 (Value.bool true)), (Prod.mk 14 (Pt 1004 0)), (Prod.mk 15 (vI 0))] [(Prod.mk 1000 (AObj.cells [(Value.slice none 0 0), (vI x1), (vI x2), (vI x3), (vI x4), (vI x5)] 26 false 1)), (Prod.mk 1001 (AObj.cells [(Value.string (s8)), (Value.slice none 0 0)] 31 false 1)), (Prod.mk 1002 (AObj.cells [(vI n7), (vI n8)] 24 false 2)), (Prod.mk 1003 (AObj.cells [(vI n10), (vI n11)] 24 false 2)), (Prod.mk 1004 (AObj.cells [(vI x6), (vI x7)] 28 false 2))])
 (L 0 [(Prod.mk 3 (Pt 1000 0)), (Prod.mk 5 (Pt 1001 0)), (Prod.mk 9 (Pt 1002 0)), (Prod.mk 11 (Pt 1003 0)), (Prod.mk 13 (Value.bool false)), (Prod.mk 14 (Pt 1004 0)), (Prod.mk 15 (vI 0))] [(Prod.mk 1000 (AObj.cells [(Value.slice none 0 0), (vI x1), (vI x2), (vI x3), (vI x4), (vI x5)] 26 false 1)), (Prod.mk 1001 (AObj.cells [(Value.string (s8)), (Value.slice none 0 0)] 31 false 1)), (Prod.mk 1002 (AObj.cells [(vI n7), (vI n8)] 24 false 2)), (Prod.mk 1003 (AObj.cells [(vI n10), (vI n11)] 24 false 2)), (Prod.mk 1004 (AObj.cells [(vI x6), (vI x7)] 28 false 2))]))
 (L 0 [(Prod.mk 3 (Pt 1000 0)), (Prod.mk 5 (Pt 1001 0)), (Prod.mk 9 (Pt 1002 0)), (Prod.mk 11 (Pt 1003 0)), (Prod.mk 13 (Value.bool false)), (Prod.mk 14 (Pt 1004 0)), (Prod.mk 15 (vI 0))] [(Prod.mk 1000 (AObj.cells [(Value.slice none 0 0), (vI x1), (vI x2), (vI x3), (vI x4), (vI x5)] 26 false 1)), (Prod.mk 1001 (AObj.cells [(Value.string (s8)), (Value.slice none 0 0)] 31 false 1)), (Prod.mk 1002 (AObj.cells [(vI n7), (vI n8)] 24 false 2)), (Prod.mk 1003 (AObj.cells [(vI n10), (vI n11)] 24 false 2)), (Prod.mk 1004 (AObj.cells [(vI x6), (vI x7)] 28 false 2))])))
 (bcase (n9 == 0)
 (bcase (n12 == 0)
 (L 0 [(Prod.mk 3 (Pt 1000 0)), (Prod.mk 5 (Pt 1001 0)), (Prod.mk 9 (Pt 1002 0)), (Prod.mk 11 (Pt 1003 0)), (Prod.mk 13 (Value.bool true)), (Prod.mk 14 (Pt 1004 0)), (Prod.mk 15 (vI 0))] [(Prod.mk 1000 (AObj.cells [(Value.slice none 0 0), (vI x1), (vI x2), (vI x3), (vI x4), (vI x5)] 26 false 1)), (Prod.mk 1001 (AObj.cells [(Value.string (s8)), (Value.slice none 0 0)] 31 false 1)), (Prod.mk 1002 (AObj.cells [(vI n7), (vI n8)] 24 false 2)), (Prod.mk 1003 (AObj.cells [(vI n10), (vI n11)] 24 false 2)), (Prod.mk 1004 (AObj.cells [(vI x6), (vI x7)] 28 false 2))])
 (L 0 [(Prod.mk 3 (Pt 1000 0)), (Prod.mk 5 (Pt 1001 0)), (Prod.mk 9 (Pt 1002 0)), (Prod.mk 11 (Pt 1003 0)), (Prod.mk 13 (Value.bool false)), (Prod.mk 14 (Pt 1004 0)), (Prod.mk 15 (vI 0))] [(Prod.mk 1000 (AObj.cells [(Value.slice none 0 0), (vI x1), (vI x2), (vI x3), (vI x4), (vI x5)] 26 false 1)), (Prod.mk 1001 (AObj.cells [(Value.string (s8)), (Value.slice none 0 0)] 31 false 1)), (Prod.mk 1002 (AObj.cells [(vI n7), (vI n8)] 24 false 2)), (Prod.mk 1003 (AObj.cells [(vI n10), (vI n11)] 24 false 2)), (Prod.mk 1004 (AObj.cells [(vI x6), (vI x7)] 28 false 2))]))
 (L 0 [(Prod.mk 3 (Pt 1000 0)), (Prod.mk 5 (Pt 1001 0)), (Prod.mk 9 (Pt 1002 0)), (Prod.mk 11 (Pt 1003 0)), (Prod.mk 13 (Value.bool false)), (Prod.mk 14 (Pt 1004 0)), (Prod.mk 15 (vI 0))] [(Prod.mk 1000 (AObj.cells [(Value.slice none 0 0), (vI x1), (vI x2), (vI x3), (vI x4), (vI x5)] 26 false 1)), (Prod.mk 1001 (AObj.cells [(Value.string (s8)), (Value.slice none 0 0)] 31 false 1)), (Prod.mk 1002 (AObj.cells [(vI n7), (vI n8)] 24 false 2)), (Prod.mk 1003 (AObj.cells [(vI n10), (vI n11)] 24 false 2)), (Prod.mk 1004 (AObj.cells [(vI x6), (vI x7)] 28 false 2))]))))
 (bcase (n12 != 0)
 (bcase (n12 != 8)
 (k kF)
 (bcase (n9 == 0)
 (bcase (n12 == 0)
 (L 0 [(Prod.mk 3 (Pt 1000 0)), (Prod.mk 5 (Pt 1001 0)), (Prod.mk 9 (Pt 1002 0)), (Prod.mk 11 (Pt 1003 0)), (Prod.mk 13 (Value.bool true)), (Prod.mk 14 (Pt 1004 0)), (Prod.mk 15 (vI 0))] [(Prod.mk 1000 (AObj.cells [(Value.slice none 0 0), (vI x1), (vI x2), (vI x3), (vI x4), (vI x5)] 26 false 1)), (Prod.mk 1001 (AObj.cells [(Value.string (s8)), (Value.slice none 0 0)] 31 false 1)), (Prod.mk 1002 (AObj.cells [(vI n7), (vI n8)] 24 false 2)), (Prod.mk 1003 (AObj.cells [(vI n10), (vI n11)] 24 false 2)), (Prod.mk 1004 (AObj.cells [(vI x6), (vI x7)] 28 false 2))])
 (L 0 [(Prod.mk 3 (Pt 1000 0)), (Prod.mk 5 (Pt 1001 0)), (Prod.mk 9 (Pt 1002 0)), (Prod.mk 11 (Pt 1003 0)), (Prod.mk 13 (Value.bool false)), (Prod.mk 14 (Pt 1004 0)), (Prod.mk 15 (vI 0))] [(Prod.mk 1000 (AObj.cells [(Value.slice none 0 0), (vI x1), (vI x2), (vI x3), (vI x4), (vI x5)] 26 false 1)), (Prod.mk 1001 (AObj.cells [(Value.string (s8)), (Value.slice none 0 0)] 31 false 1)), (Prod.mk 1002 (AObj.cells [(vI n7), (vI n8)] 24 false 2)), (Prod.mk 1003 (AObj.cells [(vI n10), (vI n11)] 24 false 2)), (Prod.mk 1004 (AObj.cells [(vI x6), (vI x7)] 28 false 2))]))
 (L 0 [(Prod.mk 3 (Pt 1000 0)), (Prod.mk 5 (Pt 1001 0)), (Prod.mk 9 (Pt 1002 0)), (Prod.mk 11 (Pt 1003 0)), (Prod.mk 13 (Value.bool false)), (Prod.mk 14 (Pt 1004 0)), (Prod.mk 15 (vI 0))] [(Prod.mk 1000 (AObj.cells [(Value.slice none 0 0), (vI x1), (vI x2), (vI x3), (vI x4), (vI x5)] 26 false 1)), (Prod.mk 1001 (AObj.cells [(Value.string (s8)), (Value.slice none 0 0)] 31 false 1)), (Prod.mk 1002 (AObj.cells [(vI n7), (vI n8)] 24 false 2)), (Prod.mk 1003 (AObj.cells [(vI n10), (vI n11)] 24 false 2)), (Prod.mk 1004 (AObj.cells [(vI x6), (vI x7)] 28 false 2))])))
 (bcase (n9 == 0)
 (bcase (n12 == 0)
 (L 0 [(Prod.mk 3 (Pt 1000 0)), (Prod.mk 5 (Pt 1001 0)), (Prod.mk 9 (Pt 1002 0)), (Prod.mk 11 (Pt 1003 0)), (Prod.mk 13 (Value.bool true)), (Prod.mk 14 (Pt 1004 0)), (Prod.mk 15 (vI 0))] [(Prod.mk 1000 (AObj.cells [(Value.slice none 0 0), (vI x1), (vI x2), (vI x3), (vI x4), (vI x5)] 26 false 1)), (Prod.mk 1001 (AObj.cells [(Value.string (s8)), (Value.slice none 0 0)] 31 false 1)), (Prod.mk 1002 (AObj.cells [(vI n7), (vI n8)] 24 false 2)), (Prod.mk 1003 (AObj.cells [(vI n10), (vI n11)] 24 false 2)), (Prod.mk 1004 (AObj.cells [(vI x6), (vI x7)] 28 false 2))])
 (L 0 [(Prod.mk 3 (Pt 1000 0)), (Prod.mk 5 (Pt 1001 0)), (Prod.mk 9 (Pt 1002 0)), (Prod.mk 11 (Pt 1003 0)), (Prod.mk 13 (Value.bool false)), (Prod.mk 14 (Pt 1004 0)), (Prod.mk 15 (vI 0))] [(Prod.mk 1000 (AObj.cells [(Value.slice none 0 0), (vI x1), (vI x2), (vI x3), (vI x4), (vI x5)] 26 false 1)), (Prod.mk 1001 (AObj.cells [(Value.string (s8)), (Value.slice none 0 0)] 31 false 1)), (Prod.mk 1002 (AObj.cells [(vI n7), (vI n8)] 24 false 2)), (Prod.mk 1003 (AObj.cells [(vI n10), (vI n11)] 24 false 2)), (Prod.mk 1004 (AObj.cells [(vI x6), (vI x7)] 28 false 2))]))
 (L 0 [(Prod.mk 3 (Pt 1000 0)), (Prod.mk 5 (Pt 1001 0)), (Prod.mk 9 (Pt 1002 0)), (Prod.mk 11 (Pt 1003 0)), (Prod.mk 13 (Value.bool false)), (Prod.mk 14 (Pt 1004 0)), (Prod.mk 15 (vI 0))] [(Prod.mk 1000 (AObj.cells [(Value.slice none 0 0), (vI x1), (vI x2), (vI x3), (vI x4), (vI x5)] 26 false 1)), (Prod.mk 1001 (AObj.cells [(Value.string (s8)), (Value.slice none 0 0)] 31 false 1)), (Prod.mk 1002 (AObj.cells [(vI n7), (vI n8)] 24 false 2)), (Prod.mk 1003 (AObj.cells [(vI n10), (vI n11)] 24 false 2)), (Prod.mk 1004 (AObj.cells [(vI x6), (vI x7)] 28 false 2))]))))))))))))))))))))))))))))))))))))))))))))))))))))
 (k kT))) ∨
 ((Says C 5 [] kF) ∧
 (k kF))) := by kernel_rfl
end Go.Proofs.G5l

/- ModelNeverWorse in data: the loss never grows, and what is learned comes to the best. -/
namespace Go.Proofs.G5l
open Go Go.Abs Go.Proofs Go.Abs.MD Go.Str
set_option maxRecDepth 100000
theorem conLOk {T R : List (Int × Int)} {a b c d e : Int} (hn : Nums a b c d) (hr : (rulR T a b c d e).2 = 0) {nm : List UInt8} (hc : (coR nm R).2 = 0) {v t : Int} (hv : 0 ≤ v ∧ v ≤ 1000000) (ht : 0 ≤ t ∧ t ≤ e) :
    C5 11 [dRu T a b c d e, dCc v t, dCo nm R] [dF (fr (loss T a b c d R) (gD b d) t), dI (er (loss T a b c d R) (gD b d) t)] := by
  have hft := (tab_ok (rul_ok hr).1.tabz).few
  have hf := (co_ok hc).1.len
  have cLO := conLO T (by omega) e hn v t nm R (by omega)
  have g : grE T a b c d e v t = 0 := by
    rw [grE, if_neg (by omega), corE, if_pos ⟨hv, ht⟩]
  have q1 : loR T a b c d e v t nm R = [dF (fr (loss T a b c d R) (gD b d) t), dI (er (loss T a b c d R) (gD b d) t)] := by
    rw [loR, if_pos (by rw [g, hc]; rfl)]
    unfold fr er
    split <;> rfl
  rw [q1] at cLO
  exact cLO
theorem conLEk {T R : List (Int × Int)} {a b c d e : Int} (hn : Nums a b c d) (hr : (rulR T a b c d e).2 = 0) {nm : List UInt8} (hc : (coR nm R).2 = 0) {v t : Int} (hv : 0 ≤ v ∧ v ≤ 999999) (ht : 0 ≤ t ∧ t ≤ e) :
    C5 12 [dRu T a b c d e, dCc v t, dCo nm R] [dCc (v + 1) (lrn (loss T a b c d R) e t), dI 0] := by
  have hft := (tab_ok (rul_ok hr).1.tabz).few
  have hf := (co_ok hc).1.len
  have cLE := conLE T (by omega) e hn v t nm R (by omega)
  have g : grE T a b c d e v t = 0 := by
    rw [grE, if_neg (by omega), corE, if_pos ⟨by omega, ht⟩]
  have e1 : leE T a b c d e v t nm R = 0 := by
    rw [leE, g, hc, grow, w64 (by omega) (by omega), if_neg (by omega)]
    rfl
  rw [leR, if_pos e1] at cLE
  exact cLE
theorem conBFk {T R : List (Int × Int)} {a b c d e : Int} (hn : Nums a b c d) (hr : (rulR T a b c d e).2 = 0) {nm : List UInt8} (hc : (coR nm R).2 = 0) :
    C5 13 [dRu T a b c d e, dCo nm R] [dCc 0 (bst (loss T a b c d R) e), dI 0] := by
  have hft := (tab_ok (rul_ok hr).1.tabz).few
  have hf := (co_ok hc).1.len
  have cBF := conBF T (by omega) e hn nm R (by omega)
  rw [bfR, if_pos (by rw [kcE, if_pos hr]; exact hc)] at cBF
  exact cBF
theorem lawWM (T : List (Int × Int)) {a b c d : Int} (e : Int) (hn : Nums a b c d) (v t : Int) (nm : List UInt8) (R : List (Int × Int)) : C5 4 [dRu T a b c d e, dCc v t, dCo nm R] [.val (.bool true)] := by
  let f := loss T a b c d R
  let D := gD b d
  let B := bst f e
  let inv : Bool × Int × Int × Nat × Nat × Nat → Prop := fun x => (rulR T a b c d e).2 = 0 ∧ (coR nm R).2 = 0 ∧ e ≤ 30 ∧ (0 ≤ v ∧ v ≤ 999900) ∧ (0 ≤ x.2.1 ∧ x.2.1 ≤ e) ∧ x.2.2.1 = v + (x.2.2.2.1 : Int) ∧ (x.2.2.2.1 : Int) ≤ e + 1 ∧ (x.1 = true → sm (low (f B) D) ∧ sm (low (f x.2.1) D)) ∧ Prog f e x.2.1 x.2.2.2.1
  let st : Bool × Int × Int × Nat × Nat × Nat → Slots × Blocks := fun x => zNw1 x.1 (x.2.2.2.1 : Int) T.length x.2.2.2.2.1 a b c d e (bs nm) R.length x.2.2.2.2.2 (fr f D B).1 (fr f D B).2 (fr f D x.2.1).1 (fr f D x.2.1).2 x.2.2.1 x.2.1 (vp T) (vp R)
  refine con_of (L := fun _ s b => ∃ x, inv x ∧ st x = (s, b)) hokM mixed Try.func4 rfl (by show 2 ≤ 400; omega) rfl (ids := [0]) (by kernel_rfl) rfl (fun caps => ?_) (fun id hid => ?_)
  · show gNw _ _ T.length (caps 500) (vp T) a b c d e v t (bs nm) R.length (caps 501) (vp R) _
    rw [gNw_text]
    refine .inl ⟨⟨conA⟩, bc_dec (fun h12 => bc_dec (fun h10 => bc_dec (fun _ => ?_) (fun _ => rfl)) (fun _ => rfl)) (fun _ => rfl)⟩
    simp only [Qv, Dw, Tk, vp_whole, bc_t (v2le T), bc_t (v2le R), eq_self, true_and, and_true]
    refine ⟨_, ⟨conRE T (by omega) e hn⟩, bc_bne (fun _ => trivial) (fun hr => bc_dec (fun _ => trivial) (fun he => ⟨_, ⟨conCE T a b c d e v t⟩, bc_bne (fun _ => trivial) (fun hx => ⟨_, ⟨conCe nm R (by omega)⟩, bc_bne (fun _ => trivial) (fun hc => bc_dec (fun _ => trivial) (fun hv9 => ?_))⟩)⟩))⟩
    obtain ⟨hv, ht⟩ := cor_ok hx
    have ok := (rul_ok hr).1
    have hez := ok.ez
    have hB : 0 ≤ B ∧ B ≤ e := bst_in f hez.1
    have cYr := conYr T (by omega) a b c d e
    have cYc := conYc nm R (by omega)
    refine ⟨⟨cYr⟩, ⟨cYc⟩, _, _, _, ⟨conBFk hn hr hc⟩, ⟨cYr⟩, ⟨cYc⟩, _, _, _, ⟨conLOk hn hr hc (by omega) hB⟩, ⟨cYr⟩, ⟨cYc⟩, _, _, _, ⟨conLOk hn hr hc hv ht⟩, ?_⟩
    have hp := prog_init f ht
    have n8 : (8 : Int) ≠ 0 := by decide
    have fin : ∀ bb : Bool, (bb = true → sm (low (f B) D) ∧ sm (low (f t) D)) → ∃ x, inv x ∧ st x = zNw1 bb 0 T.length (caps 500) a b c d e (bs nm) R.length (caps 501) (fr f D B).1 (fr f D B).2 (fr f D t).1 (fr f D t).2 v t (vp T) (vp R) := fun bb hbb =>
      ⟨(bb, t, v, 0, caps 500, caps 501), ⟨hr, hc, by omega, by omega, ht, by show v = v + ((0 : Nat) : Int); omega, by show ((0 : Nat) : Int) ≤ e + 1; omega, hbb, hp⟩, rfl⟩
    rcases er_or f D B with ⟨e1, s1, _⟩ | ⟨e1, _⟩ <;> rcases er_or f D t with ⟨e2, s2, _⟩ | ⟨e2, _⟩
    all_goals
      rw [show er (loss T a b c d R) (gD b d) (bst (loss T a b c d R) e) = _ from e1, show er (loss T a b c d R) (gD b d) t = _ from e2]
      simp only [bc_nf, bc_n n8, bc_qt, bc_q n8]
      first
      | exact fin true (fun _ => ⟨s1, s2⟩)
      | exact fin false (fun h => by cases h)
  · obtain rfl := List.mem_singleton.1 hid
    refine ⟨_, st, inv, fun x => (e + 1).toNat - x.2.2.2.1, ⟨fun s b h => h, by kernel_rfl, ?_⟩⟩
    rintro ⟨b0, t', w, i, c0, c1⟩ ⟨hr, hc, he, hv, ht, hw, hi, hb, hp⟩
    simp only at ht hw hi hb hp
    show rNw1 _ _ b0 (i : Int) T.length c0 a b c d e (bs nm) R.length c1 (fr f D B).1 (fr f D B).2 (fr f D t').1 (fr f D t').2 w t' (vp T) (vp R) _ _ _
    rw [rNw1_text]
    have ok := (rul_ok hr).1
    have hez := ok.ez
    have hft := (tab_ok ok.tabz).few
    have hf := (co_ok hc).1.len
    have hD : 0 < D ∧ D ≤ 810000 := gD_bd ok
    have cYr := conYr T (by omega) a b c d e
    have cYc := conYc nm R (by omega)
    refine bc_dec (fun h => ?_) (fun h => ?_)
    · simp only [Qv, Dw, Tk, vp_whole, bc_t (v2le T), bc_t (v2le R), eq_self, true_and, and_true]
      obtain ⟨l1, l2, l3⟩ := lrn_in f ht
      have hp2 := prog_step ht hp
      have w1 : IntKind.wrap .i64 (w + 1) = w + 1 := w64 (by omega) (by omega)
      have w2 : IntKind.wrap .i64 (t' - 1) = t' - 1 := w64 (by omega) (by omega)
      have w3 : IntKind.wrap .i64 (t' + 1) = t' + 1 := w64 (by omega) (by omega)
      have w4 : IntKind.wrap .i64 ((i : Int) + 1) = ((i + 1 : Nat) : Int) := by rw [w64 (by omega) (by omega)]; omega
      refine ⟨⟨cYr⟩, ⟨cYc⟩, _, _, _, ⟨conLEk hn hr hc (by omega) ht⟩, ?_⟩
      simp only [w1, w2, w3, w4, bc_nf]
      refine sayB (conWi _ _ _) (fun _ => ?_) (fun hin => absurd (show _ ≤ lrn f e t' ∧ lrn f e t' ≤ _ by (repeat' split) <;> omega) hin)
      have hle : f (lrn f e t') ≤ f t' := by
        rcases l3 with h3 | h3
        · rw [h3]; exact Int.le_refl _
        · omega
      have hend : (i : Int) = e → lrn f e t' = t' := fun hie => prog_end ht (by have h9 := hp; rw [hie] at h9; exact h9)
      have hfr : (i : Int) = e → fr f D (lrn f e t') = fr f D B := fun hie => by
        have h9 : f t' = f B := fix_best (loss_conv T a b c d R) ht (hend hie)
        unfold fr
        rw [hend hie, h9]
      have fin : ∀ bb : Bool, (bb = true → sm (low (f B) D) ∧ sm (low (f (lrn f e t')) D)) → ∃ y, inv y ∧ (e + 1).toNat - y.2.2.2.1 < (e + 1).toNat - i ∧ st y = zNw1 bb ((i + 1 : Nat) : Int) T.length c0 a b c d e (bs nm) R.length c1 (fr f D B).1 (fr f D B).2 (fr f D (lrn f e t')).1 (fr f D (lrn f e t')).2 (w + 1) (lrn f e t') (vp T) (vp R) := fun bb hbb =>
        ⟨(bb, lrn f e t', w + 1, i + 1, c0, c1), ⟨hr, hc, he, hv, l1, by show w + 1 = v + ((i + 1 : Nat) : Int); omega, by show ((i + 1 : Nat) : Int) ≤ e + 1; omega, hbb, by
          show Prog f e (lrn f e t') ((i + 1 : Nat) : Int)
          rw [show ((i + 1 : Nat) : Int) = (i : Int) + 1 by omega]; exact hp2⟩, by show (e + 1).toNat - (i + 1) < (e + 1).toNat - i; omega, rfl⟩
      have ff := fin false (fun h => by cases h)
      refine ⟨⟨cYr⟩, ⟨cYc⟩, _, _, _, ⟨conLOk hn hr hc (by omega) l1⟩, ?_⟩
      have n8 : (8 : Int) ≠ 0 := by decide
      rcases er_or f D (lrn f e t') with ⟨e1, s1, f1⟩ | ⟨e1, _⟩
      · rw [show er (loss T a b c d R) (gD b d) (lrn (loss T a b c d R) e t') = 0 from e1]
        simp only [bc_nf, bc_qt]
        cases b0 with
        | false =>
          rw [bcF]
          exact bc_beq (fun hie => bc_bne (fun hne => absurd (hend hie) hne) (fun _ => ff)) (fun _ => ff)
        | true =>
          obtain ⟨sB, s2⟩ := hb rfl
          have f2 : fr f D t' = low (f t') D := if_pos s2
          have ft := fin true (fun _ => ⟨sB, s1⟩)
          rw [bcT]
          have d1 := low_den (n := f (lrn f e t')) hD.1
          have d2 := low_den (n := f t') hD.1
          have p1 : lowP (fr f D (lrn f e t')).1 (fr f D (lrn f e t')).2 := by rw [f1]; exact lowP_low hD.1
          have p2 : lowP (fr f D t').1 (fr f D t').2 := by rw [f2]; exact lowP_low hD.1
          have q1 : sm (fr f D (lrn f e t')) := by rw [f1]; exact s1
          have q2 : sm (fr f D t') := by rw [f2]; exact s2
          have hcmp : (fr f D (lrn f e t')).1 * (fr f D t').2 ≤ (fr f D t').1 * (fr f D (lrn f e t')).2 := by
            rw [f1, f2]
            exact (low_le hD.1 hD.1).2 (Int.mul_le_mul_of_nonneg_right hle (by omega))
          refine sayB (conIl _ _ (sm_I64 q1).1 (sm_I64 q1).2) (fun _ => ?_) (fun hh => absurd p1 hh)
          refine sayB (conIS (fr f D (lrn f e t')) (by rw [f1]; exact d1.1)) (fun _ => ?_) (fun hh => absurd q1 hh)
          refine sayB (conIl _ _ (sm_I64 q2).1 (sm_I64 q2).2) (fun _ => ?_) (fun hh => absurd p2 hh)
          refine sayB (conIS (fr f D t') (by rw [f2]; exact d2.1)) (fun _ => ?_) (fun hh => absurd q2 hh)
          have m1 := sm_mul q1 q2
          have m2 := sm_mul q2 q1
          refine bc_dec (fun _ => ?_) (fun _ => bc_dec (fun hgt => absurd hgt (by rw [show IntKind.wrap .i64 ((fr f D (lrn f e t')).1 * (fr f D t').2) = _ from m1, show IntKind.wrap .i64 ((fr f D t').1 * (fr f D (lrn f e t')).2) = _ from m2]; omega)) (fun _ => ?_))
          all_goals
            exact bc_beq (fun hie => bc_bne (fun hne => absurd (hend hie) hne) (fun _ => bc_false (by
              rw [show fr (loss T a b c d R) (gD b d) (lrn (loss T a b c d R) e t') = fr f D B from hfr hie]
              simp) ft)) (fun _ => ft)
      · rw [show er (loss T a b c d R) (gD b d) (lrn (loss T a b c d R) e t') = 8 from e1]
        simp only [bc_nf, bc_n n8, bc_q n8]
        cases b0 with
        | false =>
          rw [bcF]
          exact bc_beq (fun hie => bc_bne (fun hne => absurd (hend hie) hne) (fun _ => ff)) (fun _ => ff)
        | true =>
          rw [bcT]
          exact bc_beq (fun hie => bc_bne (fun hne => absurd (hend hie) hne) (fun _ => ff)) (fun _ => ff)
    · show (if 0 = 0 then _ else _)
      rw [if_pos rfl]
      show nNw2 _ _ _
      rw [nNw2_text]
theorem lawWN (T : List (Int × Int)) {a b c d : Int} (e : Int) (hn : Nums a b c d) (v t : Int) (nm : List UInt8) : C5 4 [dRu T a b c d e, dCc v t, dCn nm] [.val (.bool true)] := by
  refine con_of (L := fun _ _ _ => False) hokM mixed Try.func4 rfl (by show 1 ≤ 400; omega) rfl (ids := [0]) (by kernel_rfl) rfl (fun caps => ?_) (fun id hid => ?_)
  · show gNw1 _ _ T.length (caps 500) (vp T) a b c d e v t (bs nm) _
    rw [gNw1_text]
    refine .inl ⟨⟨conA⟩, bc_dec (fun h12 => bc_dec (fun _ => ?_) (fun _ => rfl)) (fun _ => rfl)⟩
    have hc := coR_nil_ne nm
    simp only [Qv, Dw, Tk, vp_whole, bc_t (v2le T), eq_self, true_and, and_true]
    refine ⟨_, ⟨conRE T (by omega) e hn⟩, bc_bne (fun _ => trivial) (fun hr => bc_dec (fun _ => trivial) (fun he => ⟨_, ⟨conCE T a b c d e v t⟩, bc_bne (fun _ => trivial) (fun hx => ⟨_, ⟨conCen nm⟩, bc_bne (fun _ => trivial) (fun hcc => absurd hcc hc)⟩)⟩))⟩
  · obtain rfl := List.mem_singleton.1 hid
    exact ⟨Empty, fun x => x.elim, fun _ => False, fun _ => 0, ⟨fun s b h => h.elim, by kernel_rfl, fun x => x.elim⟩⟩
theorem lawWNM (a b c d e v t : Int) (nm : List UInt8) (R : List (Int × Int)) : C5 4 [dRn a b c d e, dCc v t, dCo nm R] [.val (.bool true)] := by
  refine con_of (L := fun _ _ _ => False) hokM mixed Try.func4 rfl (by show 1 ≤ 400; omega) rfl (ids := [0]) (by kernel_rfl) rfl (fun caps => ?_) (fun id hid => ?_)
  · show gNw2 _ _ a b c d e v t (bs nm) R.length (caps 500) (vp R) _
    rw [gNw2_text]
    refine .inl ⟨⟨conA⟩, bc_dec (fun h10 => bc_dec (fun _ => ?_) (fun _ => rfl)) (fun _ => rfl)⟩
    exact ⟨_, ⟨conREn a b c d e⟩, bc_bne (fun _ => rfl) (fun h => absurd h (by decide))⟩
  · obtain rfl := List.mem_singleton.1 hid
    exact ⟨Empty, fun x => x.elim, fun _ => False, fun _ => 0, ⟨fun s b h => h.elim, by kernel_rfl, fun x => x.elim⟩⟩
theorem lawWNN (a b c d e v t : Int) (nm : List UInt8) : C5 4 [dRn a b c d e, dCc v t, dCn nm] [.val (.bool true)] := by
  refine con_of (L := fun _ _ _ => False) hokM mixed Try.func4 rfl (by show 0 ≤ 400; omega) rfl (ids := [0]) (by kernel_rfl) rfl (fun caps => ?_) (fun id hid => ?_)
  · show gNw3 _ _ a b c d e v t (bs nm) _
    rw [gNw3_text]
    refine .inl ⟨⟨conA⟩, bc_dec (fun _ => ?_) (fun _ => rfl)⟩
    exact ⟨_, ⟨conREn a b c d e⟩, bc_bne (fun _ => rfl) (fun h => absurd h (by decide))⟩
  · obtain rfl := List.mem_singleton.1 hid
    exact ⟨Empty, fun x => x.elim, fun _ => False, fun _ => 0, ⟨fun s b h => h.elim, by kernel_rfl, fun x => x.elim⟩⟩
end Go.Proofs.G5l

/- ModelNeverWorse: whatever the input, it returns true, and the input reads as it did. No condition. -/
namespace Go.Proofs.Ytbdnaobaiidblaa.K
open Go Go.Abs Go.RowKit Go.ChangeShapes Go.WideShapes Go.ChangeAt Go.Proofs Go.Flat Go.Proofs.G5l
set_option maxRecDepth 100000
namespace ModelNeverWorse
abbrev shs : List Sh := [.agg [22, 3, 3, 3, 3, 3], .agg [3, 3], .agg [9, 29]]
theorem shapes : Try.f4.params.toList.mapM (argSh Try.prog) = some shs := by kernel_rfl
theorem all (ds : List D) (h : ShDs Try.prog shs ds) : Con Try.prog 4 ds [.val (.bool true)] := by
  cases h with | cons h1 t => cases t with | cons h2 t => cases t with | cons h3 t =>
  cases t
  obtain ⟨d1, rfl, h1⟩ := h1
  obtain ⟨d2, rfl, h2⟩ := h2
  obtain ⟨d3, rfl, h3⟩ := h3
  cases h1 with | cons p1 t => cases t with | cons p2 t => cases t with | cons p3 t => cases t with | cons p4 t => cases t with | cons p5 t => cases t with | cons p6 t =>
  cases t
  cases h2 with | cons q1 t => cases t with | cons q2 t =>
  cases t
  cases h3 with | cons r1 t => cases t with | cons r2 t =>
  cases t
  obtain ⟨a, rfl, ha⟩ := leaf_int Try.underlying3 p2
  obtain ⟨b, rfl, hb⟩ := leaf_int Try.underlying3 p3
  obtain ⟨c, rfl, hc⟩ := leaf_int Try.underlying3 p4
  obtain ⟨d, rfl, hd⟩ := leaf_int Try.underlying3 p5
  obtain ⟨e, rfl, _⟩ := leaf_int Try.underlying3 p6
  obtain ⟨v, rfl, _⟩ := leaf_int Try.underlying3 q1
  obtain ⟨t, rfl, _⟩ := leaf_int Try.underlying3 q2
  obtain ⟨nm, rfl⟩ := leaf_str Try.underlying9 r1
  have hn : Nums a b c d := ⟨ha, hb, hc, hd⟩
  rcases leaf_prs Try.underlying22 (by kernel_rfl) p1 with rfl | ⟨T, rfl, _⟩
  · rcases leaf_prs Try.underlying29 (by kernel_rfl) r2 with rfl | ⟨R, rfl, _⟩
    · exact lawWNN a b c d e v t nm
    · exact lawWNM a b c d e v t nm R
  · rcases leaf_prs Try.underlying29 (by kernel_rfl) r2 with rfl | ⟨R, rfl, _⟩
    · exact lawWN T e hn v t nm
    · exact lawWM T e hn v t nm R
theorem lifted (os : Os) (started : os.Started) (H : Type) (enc : TypeId × Value → H) :
    ReturnsInHanded {} Try.checked os 4 .any (Rows.modelNeverWorseSpec.pre6 enc Try.prog Try.f4 Rows.modelNeverWorseRow.domain false) (Rows.modelNeverWorseSpec.post enc Try.prog Try.f4 false true false false) := by
  refine returnsInHanded_of_change (C := Try.checked) own started (by kernel_rfl) Try.func4
    (ChangeSpec.witness6 (enc := enc) (C := Try.checked) false ⟨#[], #[.agg #[.slice none 0 0, .int .i64 0, .int .i64 0, .int .i64 0, .int .i64 0, .int .i64 0], .agg #[.int .i64 0, .int .i64 0], .agg #[.string ⟨#[]⟩, .slice none 0 0]], []⟩ 8 (by kernel_rfl) (by kernel_rfl) (by kernel_rfl) (by kernel_rfl)) ?_
  intro W base args ds gs before hval hW _ _
  exact law_shapes (tb := 4) (s := Rows.modelNeverWorseSpec) shapes all laidP mapsP slicesP (tsP (by kernel_rfl)) rfl Try.underlying4 rfl (fun ds h => by
    match ds, h with
    | [_, _, _], _ => exact ⟨rfl, rfl, rfl⟩) hval hW (good0 W)
theorem holds : Rows.ModelNeverWorseSaid :=
  OpenClaim.holds_of_wide 4 Try.f4 rfl rfl rfl rfl rfl rfl rfl ⟨rfl, rfl, rfl, rfl, rfl⟩ rfl rfl rfl rfl rfl (by kernel_rfl) Try.func4 (by kernel_rfl)
    (of_decide_eq_true (by kernel_rfl)) (by unfold Func.isWrapper; first | (rw [if_pos (by decide +kernel)]; kernel_rfl) | (rw [if_neg (by decide +kernel)]; exact ⟨rfl, rfl⟩))
    (fun os started H enc _ => lifted os started H enc)
#print axioms holds
end ModelNeverWorse
end Go.Proofs.Ytbdnaobaiidblaa.K
