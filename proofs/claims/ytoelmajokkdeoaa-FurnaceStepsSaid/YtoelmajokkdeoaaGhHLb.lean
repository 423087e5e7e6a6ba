/- What is left to show of each function, written out; the kernel reckons it. -/
import Derived.Test.YtoelmajokkdeoaaP4
import Derived.Test.YtoelmajokkdeoaaP5
namespace Go.Proofs.G5h
open Go Go.Abs Go.Proofs
set_option maxRecDepth 100000
set_option linter.unusedVariables false
def gLsb (C : Ct) (L : AtLoop) (x1 : Int) (x2 : Int) (x3 : Int) (n4 : Nat) (c4 : Nat) (l4 : List Value) (x5 : Int) (x6 : Int) (x7 : Int) (k : List D → Prop) : Prop := wpFn Try.prog (hH C) L 0 3 #[.agg #[.slice none 0 0, .int .i64 x1, .int .i64 x2, .int .i64 x3], .agg #[.slice (some ⟨500, 0, none⟩) n4 c4, .int .i64 x5], .agg #[.int .i64 x6, .int .i64 x7]] (heapOf [(500, .sym l4 false 1)]) (dataK k)
theorem gLsb_text (C : Ct) (L : AtLoop) (x1 : Int) (x2 : Int) (x3 : Int) (n4 : Nat) (c4 : Nat) (l4 : List Go.Value) (x5 : Int) (x6 : Int) (x7 : Int) (k : List D → Prop) : gLsb C L x1 x2 x3 n4 c4 l4 x5 x6 x7 k =
 (((Says C 5 [] kT) ∧
 (bcase (decide ((↑n4 : Int) ≤ 10))
 ((((Qv (Pt 1006 0)) ∧
 (Qv (some (AObj.cells [(Value.slice none 0 0), (vI 0)] 31 false 2)))) ∧
 ((Qv (Value.agg [(vI x6), (vI x7)].toArray)) ∧
 ((Qv (Value.agg [(Sl 500 (n4) (c4)), (vI x5)].toArray)) ∧
 ((Qv (Value.agg [(Value.slice none 0 0), (vI x1), (vI x2), (vI x3)].toArray)) ∧
 True)))) ∧
 ((Says C 8 [(D.agg [D.nil, (dI x1), (dI x2), (dI x3)])] [(D.agg [(D.sl 0 2 []), (dI x1), (dI x2), (dI x3)])]) ∧
 ((((Qv (Pt 1006 0)) ∧
 (Qv (some (AObj.cells [(Value.slice none 0 0), (vI 0)] 31 false 2)))) ∧
 ((Qv (Value.agg [(vI x6), (vI x7)].toArray)) ∧
 ((Qv (Value.agg [(Sl 500 (n4) (c4)), (vI x5)].toArray)) ∧
 True))) ∧
 (bcase (dL n4 1 l4)
 ((Says C 9 [(D.agg [(Dw n4 1 l4), (dI x5)])] [(D.agg [(Dw n4 1 l4), (dI x5)])]) ∧
 ((((Qv (Pt 1006 0)) ∧
 (Qv (some (AObj.cells [(Value.slice none 0 0), (vI 0)] 31 false 2)))) ∧
 ((Qv (Value.agg [(vI x6), (vI x7)].toArray)) ∧
 True)) ∧
 (bcase (dL n4 1 (Tk n4 1 l4))
 ((∃ n1 : Int,
 (∃ n2 : Int,
 ((Says C 7 [(D.agg [(D.sl 0 2 []), (dI x1), (dI x2), (dI x3)]), (D.agg [(Dw n4 1 (Tk n4 1 l4)), (dI x5)]), (D.agg [(dI x6), (dI x7)])] [(D.agg [D.nil, (dI n1)]), (dI n2)]) ∧
 (((Qv (vI n2)) ∧
 ((Qv (Value.agg [(Value.slice none 0 0), (vI n1)].toArray)) ∧
 ((Qv (Value.tuple [(Value.agg [(Value.slice none 0 0), (vI n1)].toArray), (vI n2)].toArray)) ∧
 (((Qv (Pt 1006 0)) ∧
 (Qv (some (AObj.cells [(Value.slice none 0 0), (vI 0)] 31 false 2)))) ∧
 True)))) ∧
 (((Qv (vI n2)) ∧
 True) ∧
 (True ∧
 (bcase (dL n4 1 l4)
 ((Says C 9 [(D.agg [(Dw n4 1 l4), (dI x5)])] [(D.agg [(Dw n4 1 l4), (dI x5)])]) ∧
 (bcase (dL n4 1 (Tk n4 1 l4))
 (∃ n3 : Int,
 (∃ n5 : Int,
 (∃ n6 : Int,
 ((Says C 10 [(D.agg [(Dw n4 1 (Tk n4 1 l4)), (dI x5)])] [(D.agg [(dI n3), (dI n5)]), (dI n6)]) ∧
 (((Qv (Value.agg [(Value.slice none 0 0), (vI x1), (vI x2), (vI x3)].toArray)) ∧
 ((Qv (Value.agg [(Value.slice none 0 0), (vI x1), (vI x2), (vI x3)].toArray)) ∧
 True)) ∧
 ((Says C 8 [(D.agg [D.nil, (dI x1), (dI x2), (dI x3)])] [(D.agg [(D.sl 0 2 []), (dI x1), (dI x2), (dI x3)])]) ∧
 (((Qv (Value.agg [(Value.slice none 0 0), (vI x1), (vI x2), (vI x3)].toArray)) ∧
 True) ∧
 (∃ n7 : Int,
 ((Says C 11 [(D.agg [(D.sl 0 2 []), (dI x1), (dI x2), (dI x3)])] [(dI n7)]) ∧
 (((Qv (Value.agg [(Value.slice none 0 0), (vI x1), (vI x2), (vI x3)].toArray)) ∧
 True) ∧
 (∃ n8 : Int,
 ((Says C 12 [(D.agg [D.nil, (dI x1), (dI x2), (dI x3)])] [(dI n8)]) ∧
 (bcase (n7 != n8)
 ((Qu ∧
 (Qu ∧
 (Qb ∧
 ((bcase (n7 != n8)
 Qb
 Qft) ∧
 True)))) ∧
 ((Qu ∧
 ((bcase (n7 != n8)
 Qb
 Qft) ∧
 True)) ∧
 ((Qu ∧
 ((bcase (n7 != n8)
 Qb
 Qft) ∧
 True)) ∧
 ((Qb ∧
 (Qu ∧
 ((bcase (n7 != n8)
 Qb
 Qft) ∧
 True))) ∧
 (k kF)))))
 (((Qv (Value.agg [(Sl 500 (n4) (c4)), (vI x5)].toArray)) ∧
 ((Qv (Value.agg [(Sl 500 (n4) (c4)), (vI x5)].toArray)) ∧
 (Qf ∧
 ((bcase (n7 != n8)
 Qtf
 Qf) ∧
 True)))) ∧
 (bcase (dL n4 1 l4)
 ((Says C 9 [(D.agg [(Dw n4 1 l4), (dI x5)])] [(D.agg [(Dw n4 1 l4), (dI x5)])]) ∧
 (((Qv (Value.agg [(Sl 500 (n4) (c4)), (vI x5)].toArray)) ∧
 ((bcase (n7 != n8)
 Qtf
 Qf) ∧
 True)) ∧
 (bcase (dL n4 1 (Tk n4 1 l4))
 (∃ n9 : Int,
 ((Says C 13 [(D.agg [(Dw n4 1 (Tk n4 1 l4)), (dI x5)])] [(dI n9)]) ∧
 (((Qv (Value.agg [(Sl 500 (n4) (c4)), (vI x5)].toArray)) ∧
 ((bcase (n7 != n8)
 Qtf
 Qf) ∧
 True)) ∧
 (bcase (dL n4 1 l4)
 (∃ n10 : Int,
 ((Says C 14 [(D.agg [(Dw n4 1 l4), (dI x5)])] [(dI n10)]) ∧
 (bcase (n9 != n10)
 ((Qb ∧
 ((bcase (n9 != n10)
 Qb
 Qft) ∧
 ((bcase (n7 != n8)
 Qtf
 Qf) ∧
 True))) ∧
 (k kF))
 ((Qf ∧
 ((bcase (n9 != n10)
 Qtf
 Qf) ∧
 ((bcase (n7 != n8)
 Qtf
 Qf) ∧
 True))) ∧
 (bcase (dL n4 1 l4)
 (∃ n11 : Int,
 ((Says C 14 [(D.agg [(Dw n4 1 l4), (dI x5)])] [(dI n11)]) ∧
 (bcase (n11 != 0)
 (bcase (n6 != n11)
 ((Qu ∧
 (Qu ∧
 (Qu ∧
 (Qu ∧
 (Qu ∧
 (Qu ∧
 (Qu ∧
 (Qu ∧
 (Qb ∧
 (Qb ∧
 (Qb ∧
 (Qu ∧
 (Qu ∧
 (Qu ∧
 (Qb ∧
 ((bcase (n6 != n11)
 Qb
 Qft) ∧
 ((Qv (vI n11)) ∧
 ((Qv (vI n6)) ∧
 (Qb ∧
 ((bcase (n11 != 0)
 Qb
 Qft) ∧
 ((Qv (vI n11)) ∧
 True))))))))))))))))))))) ∧
 ((Qb ∧
 (Qu ∧
 (Qu ∧
 (Qu ∧
 (Qu ∧
 (Qu ∧
 (Qu ∧
 (Qu ∧
 (Qu ∧
 (Qu ∧
 (Qb ∧
 (Qb ∧
 (Qb ∧
 (Qu ∧
 (Qu ∧
 (Qu ∧
 (Qb ∧
 ((bcase (n6 != n11)
 Qb
 Qft) ∧
 ((Qv (vI n11)) ∧
 ((Qv (vI n6)) ∧
 (Qb ∧
 ((bcase (n11 != 0)
 Qb
 Qft) ∧
 ((Qv (vI n11)) ∧
 True))))))))))))))))))))))) ∧
 (k kF)))
 (bcase (if Bool.true = Bool.true then !(n3 == 0 && (n5 == 0 && Bool.true)) else n3 == 0 && (n5 == 0 && Bool.true))
 ((Qu ∧
 (Qu ∧
 (Qu ∧
 (Qu ∧
 (Qu ∧
 (Qu ∧
 (Qu ∧
 (Qu ∧
 (Qb ∧
 (Qb ∧
 (Qb ∧
 ((bcase (if Bool.true = Bool.true then !(n3 == 0 && (n5 == 0 && Bool.true)) else n3 == 0 && (n5 == 0 && Bool.true))
 Qb
 Qft) ∧
 ((Qv (Value.agg [(vI 0), (vI 0)].toArray)) ∧
 ((Qv (Value.agg [(vI n3), (vI n5)].toArray)) ∧
 (Qf ∧
 ((bcase (n6 != n11)
 Qtf
 Qf) ∧
 ((Qv (vI n11)) ∧
 ((Qv (vI n6)) ∧
 (Qb ∧
 ((bcase (n11 != 0)
 Qb
 Qft) ∧
 ((Qv (vI n11)) ∧
 True))))))))))))))))))))) ∧
 ((Qb ∧
 (Qu ∧
 (Qu ∧
 (Qu ∧
 (Qu ∧
 (Qu ∧
 (Qu ∧
 (Qu ∧
 (Qu ∧
 (Qu ∧
 (Qb ∧
 (Qb ∧
 (Qb ∧
 ((bcase (if Bool.true = Bool.true then !(n3 == 0 && (n5 == 0 && Bool.true)) else n3 == 0 && (n5 == 0 && Bool.true))
 Qb
 Qft) ∧
 ((Qv (Value.agg [(vI 0), (vI 0)].toArray)) ∧
 ((Qv (Value.agg [(vI n3), (vI n5)].toArray)) ∧
 (Qf ∧
 ((bcase (n6 != n11)
 Qtf
 Qf) ∧
 ((Qv (vI n11)) ∧
 ((Qv (vI n6)) ∧
 (Qb ∧
 ((bcase (n11 != 0)
 Qb
 Qft) ∧
 ((Qv (vI n11)) ∧
 True))))))))))))))))))))))) ∧
 (k kF)))
 (bcase (n11 == 0)
 (bcase (n6 != 0)
 ((Qu ∧
 (Qu ∧
 (Qb ∧
 ((bcase (n6 != 0)
 Qb
 Qft) ∧
 ((Qv (vI n6)) ∧
 (Qb ∧
 ((bcase (n11 == 0)
 Qb
 Qft) ∧
 ((Qv (vI n11)) ∧
 (Qf ∧
 (Qf ∧
 (Qf ∧
 ((bcase (if Bool.true = Bool.true then !(n3 == 0 && (n5 == 0 && Bool.true)) else n3 == 0 && (n5 == 0 && Bool.true))
 Qtf
 Qf) ∧
 ((Qv (Value.agg [(vI 0), (vI 0)].toArray)) ∧
 ((Qv (Value.agg [(vI n3), (vI n5)].toArray)) ∧
 (Qf ∧
 ((bcase (n6 != n11)
 Qtf
 Qf) ∧
 ((Qv (vI n11)) ∧
 ((Qv (vI n6)) ∧
 (Qb ∧
 ((bcase (n11 != 0)
 Qb
 Qft) ∧
 ((Qv (vI n11)) ∧
 True))))))))))))))))))))) ∧
 ((Qb ∧
 (Qb ∧
 (Qb ∧
 (Qu ∧
 (Qu ∧
 ((bcase (n6 != 0)
 Qb
 Qft) ∧
 ((Qv (vI n6)) ∧
 (Qb ∧
 ((bcase (n11 == 0)
 Qb
 Qft) ∧
 ((Qv (vI n11)) ∧
 (Qf ∧
 (Qf ∧
 (Qf ∧
 ((bcase (if Bool.true = Bool.true then !(n3 == 0 && (n5 == 0 && Bool.true)) else n3 == 0 && (n5 == 0 && Bool.true))
 Qtf
 Qf) ∧
 ((Qv (Value.agg [(vI 0), (vI 0)].toArray)) ∧
 ((Qv (Value.agg [(vI n3), (vI n5)].toArray)) ∧
 (Qf ∧
 ((bcase (n6 != n11)
 Qtf
 Qf) ∧
 ((Qv (vI n11)) ∧
 ((Qv (vI n6)) ∧
 (Qb ∧
 ((bcase (n11 != 0)
 Qb
 Qft) ∧
 ((Qv (vI n11)) ∧
 True))))))))))))))))))))))) ∧
 (k kF)))
 (((Qv (Value.agg [(Sl 500 (n4) (c4)), (vI x5)].toArray)) ∧
 ((Qv (Value.agg [(vI n3), (vI n5)].toArray)) ∧
 (Qf ∧
 ((bcase (n6 != 0)
 Qtf
 Qf) ∧
 ((Qv (vI n6)) ∧
 (Qb ∧
 ((bcase (n11 == 0)
 Qb
 Qft) ∧
 ((Qv (vI n11)) ∧
 (Qf ∧
 (Qf ∧
 (Qf ∧
 ((bcase (if Bool.true = Bool.true then !(n3 == 0 && (n5 == 0 && Bool.true)) else n3 == 0 && (n5 == 0 && Bool.true))
 Qtf
 Qf) ∧
 ((Qv (Value.agg [(vI 0), (vI 0)].toArray)) ∧
 ((Qv (Value.agg [(vI n3), (vI n5)].toArray)) ∧
 (Qf ∧
 ((bcase (n6 != n11)
 Qtf
 Qf) ∧
 ((Qv (vI n11)) ∧
 ((Qv (vI n6)) ∧
 (Qb ∧
 ((bcase (n11 != 0)
 Qb
 Qft) ∧
 ((Qv (vI n11)) ∧
 True))))))))))))))))))))) ∧
 (bcase (dL n4 1 l4)
 (∃ n12 : Int,
 (∃ n13 : Int,
 ((Says C 15 [(D.agg [(Dw n4 1 l4), (dI x5)])] [(D.agg [(dI n12), (dI n13)])]) ∧
 (bcase (if Bool.true = Bool.true then !(n3 == n12 && (n5 == n13 && Bool.true)) else n3 == n12 && (n5 == n13 && Bool.true))
 ((Qb ∧
 (Qb ∧
 (Qb ∧
 ((bcase (if Bool.true = Bool.true then !(n3 == n12 && (n5 == n13 && Bool.true)) else n3 == n12 && (n5 == n13 && Bool.true))
 Qb
 Qft) ∧
 ((Qv (Value.agg [(vI n3), (vI n5)].toArray)) ∧
 ((bcase (n6 != 0)
 Qtf
 Qf) ∧
 ((Qv (vI n6)) ∧
 (Qb ∧
 ((bcase (n11 == 0)
 Qb
 Qft) ∧
 ((Qv (vI n11)) ∧
 (Qf ∧
 (Qf ∧
 (Qf ∧
 ((bcase (if Bool.true = Bool.true then !(n3 == 0 && (n5 == 0 && Bool.true)) else n3 == 0 && (n5 == 0 && Bool.true))
 Qtf
 Qf) ∧
 ((Qv (Value.agg [(vI 0), (vI 0)].toArray)) ∧
 ((Qv (Value.agg [(vI n3), (vI n5)].toArray)) ∧
 (Qf ∧
 ((bcase (n6 != n11)
 Qtf
 Qf) ∧
 ((Qv (vI n11)) ∧
 ((Qv (vI n6)) ∧
 (Qb ∧
 ((bcase (n11 != 0)
 Qb
 Qft) ∧
 ((Qv (vI n11)) ∧
 True))))))))))))))))))))))) ∧
 (k kF))
 ((Qf ∧
 (Qf ∧
 (Qf ∧
 ((bcase (if Bool.true = Bool.true then !(n3 == n12 && (n5 == n13 && Bool.true)) else n3 == n12 && (n5 == n13 && Bool.true))
 Qtf
 Qf) ∧
 ((Qv (Value.agg [(vI n3), (vI n5)].toArray)) ∧
 ((bcase (n6 != 0)
 Qtf
 Qf) ∧
 ((Qv (vI n6)) ∧
 (Qb ∧
 ((bcase (n11 == 0)
 Qb
 Qft) ∧
 ((Qv (vI n11)) ∧
 (Qf ∧
 (Qf ∧
 (Qf ∧
 ((bcase (if Bool.true = Bool.true then !(n3 == 0 && (n5 == 0 && Bool.true)) else n3 == 0 && (n5 == 0 && Bool.true))
 Qtf
 Qf) ∧
 ((Qv (Value.agg [(vI 0), (vI 0)].toArray)) ∧
 ((Qv (Value.agg [(vI n3), (vI n5)].toArray)) ∧
 (Qf ∧
 ((bcase (n6 != n11)
 Qtf
 Qf) ∧
 ((Qv (vI n11)) ∧
 ((Qv (vI n6)) ∧
 (Qb ∧
 ((bcase (n11 != 0)
 Qb
 Qft) ∧
 ((Qv (vI n11)) ∧
 True))))))))))))))))))))))) ∧
 (bcase (dL n4 1 l4)
 (∃ n14 : Int,
 ((Says C 16 [(D.agg [D.nil, (dI x1), (dI x2), (dI x3)]), (D.agg [(Dw n4 1 l4), (dI x5)])] [(dI n14)]) ∧
 (bcase (n14 == 0)
 (∃ n15 : Int,
 ((Says C 17 [(dI x6)] [(dI n15)]) ∧
 (bcase (n15 == 0)
 (∃ n16 : Int,
 ((Says C 18 [(dI x7)] [(dI n16)]) ∧
 (bcase (n16 != 0)
 (bcase (n2 == n16)
 (((Says C 19 [(D.agg [D.nil, (dI n1)]), (D.agg [D.nil, (dI 0)])] kT) ∧
 (k kT)) ∨
 ((Says C 19 [(D.agg [D.nil, (dI n1)]), (D.agg [D.nil, (dI 0)])] kF) ∧
 (k kF)))
 (k kF))
 (bcase (n2 == 0)
 (((Qv (Value.agg [(vI x6), (vI x7)].toArray)) ∧
 ((Qv (Value.agg [(Sl 500 (n4) (c4)), (vI x5)].toArray)) ∧
 ((Qv (Value.agg [(Value.slice none 0 0), (vI x1), (vI x2), (vI x3)].toArray)) ∧
 ((Qv (Value.agg [(Value.slice none 0 0), (vI n1)].toArray)) ∧
 (Qb ∧
 ((bcase (n2 == 0)
 Qb
 Qft) ∧
 ((Qv (vI n2)) ∧
 True))))))) ∧
 (bcase (dL n4 1 l4)
 ((∃ n17 : Int,
 ((Says C 20 [(D.agg [D.nil, (dI x1), (dI x2), (dI x3)]), (D.agg [(Dw n4 1 l4), (dI x5)]), (D.agg [(dI x6), (dI x7)])] [(D.agg [D.nil, (dI n17)])]) ∧
 (((Qv (Value.agg [(Value.slice none 0 0), (vI n1)].toArray)) ∧
 ((bcase (n2 == 0)
 Qb
 Qft) ∧
 ((Qv (vI n2)) ∧
 True))) ∧
 (((Says C 19 [(D.agg [D.nil, (dI n1)]), (D.agg [D.nil, (dI n17)])] kT) ∧
 ((Qb ∧
 ((bcase (n2 == 0)
 Qb
 Qft) ∧
 ((Qv (vI n2)) ∧
 True))) ∧
 (True ∧
 (k kT)))) ∨
 ((Says C 19 [(D.agg [D.nil, (dI n1)]), (D.agg [D.nil, (dI n17)])] kF) ∧
 ((Qf ∧
 ((bcase (n2 == 0)
 Qb
 Qft) ∧
 ((Qv (vI n2)) ∧
 True))) ∧
 (True ∧
 (k kF)))))))) ∨
 (∃ n17 : Nat,
 (∃ cs1 : List Go.Value,
 (∃ n18 : Int,
 ((Says C 20 [(D.agg [D.nil, (dI x1), (dI x2), (dI x3)]), (D.agg [(Dw n4 1 l4), (dI x5)]), (D.agg [(dI x6), (dI x7)])] [(D.agg [(D.sl (n17) 1 (cs1)), (dI n18)])]) ∧
 (((Qv (Value.agg [(Value.slice none 0 0), (vI n1)].toArray)) ∧
 ((bcase (n2 == 0)
 Qb
 Qft) ∧
 ((Qv (vI n2)) ∧
 True))) ∧
 (bcase (dL n17 1 cs1)
 (((Says C 19 [(D.agg [D.nil, (dI n1)]), (D.agg [(Dw n17 1 cs1), (dI n18)])] kT) ∧
 ((Qb ∧
 ((bcase (n2 == 0)
 Qb
 Qft) ∧
 ((Qv (vI n2)) ∧
 True))) ∧
 (True ∧
 (k kT)))) ∨
 ((Says C 19 [(D.agg [D.nil, (dI n1)]), (D.agg [(Dw n17 1 cs1), (dI n18)])] kF) ∧
 ((Qf ∧
 ((bcase (n2 == 0)
 Qb
 Qft) ∧
 ((Qv (vI n2)) ∧
 True))) ∧
 (True ∧
 (k kF)))))
 False)))))))
 False))
 ((Qu ∧
 (Qu ∧
 (Qu ∧
 (Qu ∧
 (Qf ∧
 ((bcase (n2 == 0)
 Qtf
 Qf) ∧
 ((Qv (vI n2)) ∧
 True))))))) ∧
 ((Qu ∧
 ((bcase (n2 == 0)
 Qtf
 Qf) ∧
 ((Qv (vI n2)) ∧
 True))) ∧
 ((Qf ∧
 ((bcase (n2 == 0)
 Qtf
 Qf) ∧
 ((Qv (vI n2)) ∧
 True))) ∧
 (True ∧
 (k kF)))))))))
 (bcase (n15 != 0)
 (bcase (n2 == n15)
 (((Says C 19 [(D.agg [D.nil, (dI n1)]), (D.agg [D.nil, (dI 0)])] kT) ∧
 (k kT)) ∨
 ((Says C 19 [(D.agg [D.nil, (dI n1)]), (D.agg [D.nil, (dI 0)])] kF) ∧
 (k kF)))
 (k kF))
 (bcase (n2 == 0)
 (((Qv (Value.agg [(vI x6), (vI x7)].toArray)) ∧
 ((Qv (Value.agg [(Sl 500 (n4) (c4)), (vI x5)].toArray)) ∧
 ((Qv (Value.agg [(Value.slice none 0 0), (vI x1), (vI x2), (vI x3)].toArray)) ∧
 ((Qv (Value.agg [(Value.slice none 0 0), (vI n1)].toArray)) ∧
 (Qb ∧
 ((bcase (n2 == 0)
 Qb
 Qft) ∧
 ((Qv (vI n2)) ∧
 True))))))) ∧
 (bcase (dL n4 1 l4)
 ((∃ n16 : Int,
 ((Says C 20 [(D.agg [D.nil, (dI x1), (dI x2), (dI x3)]), (D.agg [(Dw n4 1 l4), (dI x5)]), (D.agg [(dI x6), (dI x7)])] [(D.agg [D.nil, (dI n16)])]) ∧
 (((Qv (Value.agg [(Value.slice none 0 0), (vI n1)].toArray)) ∧
 ((bcase (n2 == 0)
 Qb
 Qft) ∧
 ((Qv (vI n2)) ∧
 True))) ∧
 (((Says C 19 [(D.agg [D.nil, (dI n1)]), (D.agg [D.nil, (dI n16)])] kT) ∧
 ((Qb ∧
 ((bcase (n2 == 0)
 Qb
 Qft) ∧
 ((Qv (vI n2)) ∧
 True))) ∧
 (True ∧
 (k kT)))) ∨
 ((Says C 19 [(D.agg [D.nil, (dI n1)]), (D.agg [D.nil, (dI n16)])] kF) ∧
 ((Qf ∧
 ((bcase (n2 == 0)
 Qb
 Qft) ∧
 ((Qv (vI n2)) ∧
 True))) ∧
 (True ∧
 (k kF)))))))) ∨
 (∃ n16 : Nat,
 (∃ cs1 : List Go.Value,
 (∃ n17 : Int,
 ((Says C 20 [(D.agg [D.nil, (dI x1), (dI x2), (dI x3)]), (D.agg [(Dw n4 1 l4), (dI x5)]), (D.agg [(dI x6), (dI x7)])] [(D.agg [(D.sl (n16) 1 (cs1)), (dI n17)])]) ∧
 (((Qv (Value.agg [(Value.slice none 0 0), (vI n1)].toArray)) ∧
 ((bcase (n2 == 0)
 Qb
 Qft) ∧
 ((Qv (vI n2)) ∧
 True))) ∧
 (bcase (dL n16 1 cs1)
 (((Says C 19 [(D.agg [D.nil, (dI n1)]), (D.agg [(Dw n16 1 cs1), (dI n17)])] kT) ∧
 ((Qb ∧
 ((bcase (n2 == 0)
 Qb
 Qft) ∧
 ((Qv (vI n2)) ∧
 True))) ∧
 (True ∧
 (k kT)))) ∨
 ((Says C 19 [(D.agg [D.nil, (dI n1)]), (D.agg [(Dw n16 1 cs1), (dI n17)])] kF) ∧
 ((Qf ∧
 ((bcase (n2 == 0)
 Qb
 Qft) ∧
 ((Qv (vI n2)) ∧
 True))) ∧
 (True ∧
 (k kF)))))
 False)))))))
 False))
 ((Qu ∧
 (Qu ∧
 (Qu ∧
 (Qu ∧
 (Qf ∧
 ((bcase (n2 == 0)
 Qtf
 Qf) ∧
 ((Qv (vI n2)) ∧
 True))))))) ∧
 ((Qu ∧
 ((bcase (n2 == 0)
 Qtf
 Qf) ∧
 ((Qv (vI n2)) ∧
 True))) ∧
 ((Qf ∧
 ((bcase (n2 == 0)
 Qtf
 Qf) ∧
 ((Qv (vI n2)) ∧
 True))) ∧
 (True ∧
 (k kF))))))))))
 (bcase (n14 == 0)
 (∃ n15 : Int,
 ((Says C 18 [(dI x7)] [(dI n15)]) ∧
 (bcase (n15 != 0)
 (bcase (n2 == n15)
 (((Says C 19 [(D.agg [D.nil, (dI n1)]), (D.agg [D.nil, (dI 0)])] kT) ∧
 (k kT)) ∨
 ((Says C 19 [(D.agg [D.nil, (dI n1)]), (D.agg [D.nil, (dI 0)])] kF) ∧
 (k kF)))
 (k kF))
 (bcase (n2 == 0)
 (((Qv (Value.agg [(vI x6), (vI x7)].toArray)) ∧
 ((Qv (Value.agg [(Sl 500 (n4) (c4)), (vI x5)].toArray)) ∧
 ((Qv (Value.agg [(Value.slice none 0 0), (vI x1), (vI x2), (vI x3)].toArray)) ∧
 ((Qv (Value.agg [(Value.slice none 0 0), (vI n1)].toArray)) ∧
 (Qb ∧
 ((bcase (n2 == 0)
 Qb
 Qft) ∧
 ((Qv (vI n2)) ∧
 True))))))) ∧
 (bcase (dL n4 1 l4)
 ((∃ n16 : Int,
 ((Says C 20 [(D.agg [D.nil, (dI x1), (dI x2), (dI x3)]), (D.agg [(Dw n4 1 l4), (dI x5)]), (D.agg [(dI x6), (dI x7)])] [(D.agg [D.nil, (dI n16)])]) ∧
 (((Qv (Value.agg [(Value.slice none 0 0), (vI n1)].toArray)) ∧
 ((bcase (n2 == 0)
 Qb
 Qft) ∧
 ((Qv (vI n2)) ∧
 True))) ∧
 (((Says C 19 [(D.agg [D.nil, (dI n1)]), (D.agg [D.nil, (dI n16)])] kT) ∧
 ((Qb ∧
 ((bcase (n2 == 0)
 Qb
 Qft) ∧
 ((Qv (vI n2)) ∧
 True))) ∧
 (True ∧
 (k kT)))) ∨
 ((Says C 19 [(D.agg [D.nil, (dI n1)]), (D.agg [D.nil, (dI n16)])] kF) ∧
 ((Qf ∧
 ((bcase (n2 == 0)
 Qb
 Qft) ∧
 ((Qv (vI n2)) ∧
 True))) ∧
 (True ∧
 (k kF)))))))) ∨
 (∃ n16 : Nat,
 (∃ cs1 : List Go.Value,
 (∃ n17 : Int,
 ((Says C 20 [(D.agg [D.nil, (dI x1), (dI x2), (dI x3)]), (D.agg [(Dw n4 1 l4), (dI x5)]), (D.agg [(dI x6), (dI x7)])] [(D.agg [(D.sl (n16) 1 (cs1)), (dI n17)])]) ∧
 (((Qv (Value.agg [(Value.slice none 0 0), (vI n1)].toArray)) ∧
 ((bcase (n2 == 0)
 Qb
 Qft) ∧
 ((Qv (vI n2)) ∧
 True))) ∧
 (bcase (dL n16 1 cs1)
 (((Says C 19 [(D.agg [D.nil, (dI n1)]), (D.agg [(Dw n16 1 cs1), (dI n17)])] kT) ∧
 ((Qb ∧
 ((bcase (n2 == 0)
 Qb
 Qft) ∧
 ((Qv (vI n2)) ∧
 True))) ∧
 (True ∧
 (k kT)))) ∨
 ((Says C 19 [(D.agg [D.nil, (dI n1)]), (D.agg [(Dw n16 1 cs1), (dI n17)])] kF) ∧
 ((Qf ∧
 ((bcase (n2 == 0)
 Qb
 Qft) ∧
 ((Qv (vI n2)) ∧
 True))) ∧
 (True ∧
 (k kF)))))
 False)))))))
 False))
 ((Qu ∧
 (Qu ∧
 (Qu ∧
 (Qu ∧
 (Qf ∧
 ((bcase (n2 == 0)
 Qtf
 Qf) ∧
 ((Qv (vI n2)) ∧
 True))))))) ∧
 ((Qu ∧
 ((bcase (n2 == 0)
 Qtf
 Qf) ∧
 ((Qv (vI n2)) ∧
 True))) ∧
 ((Qf ∧
 ((bcase (n2 == 0)
 Qtf
 Qf) ∧
 ((Qv (vI n2)) ∧
 True))) ∧
 (True ∧
 (k kF)))))))))
 (bcase (n14 != 0)
 (bcase (n2 == n14)
 (((Says C 19 [(D.agg [D.nil, (dI n1)]), (D.agg [D.nil, (dI 0)])] kT) ∧
 (k kT)) ∨
 ((Says C 19 [(D.agg [D.nil, (dI n1)]), (D.agg [D.nil, (dI 0)])] kF) ∧
 (k kF)))
 (k kF))
 (bcase (n2 == 0)
 (((Qv (Value.agg [(vI x6), (vI x7)].toArray)) ∧
 ((Qv (Value.agg [(Sl 500 (n4) (c4)), (vI x5)].toArray)) ∧
 ((Qv (Value.agg [(Value.slice none 0 0), (vI x1), (vI x2), (vI x3)].toArray)) ∧
 ((Qv (Value.agg [(Value.slice none 0 0), (vI n1)].toArray)) ∧
 (Qb ∧
 ((bcase (n2 == 0)
 Qb
 Qft) ∧
 ((Qv (vI n2)) ∧
 True))))))) ∧
 (bcase (dL n4 1 l4)
 ((∃ n15 : Int,
 ((Says C 20 [(D.agg [D.nil, (dI x1), (dI x2), (dI x3)]), (D.agg [(Dw n4 1 l4), (dI x5)]), (D.agg [(dI x6), (dI x7)])] [(D.agg [D.nil, (dI n15)])]) ∧
 (((Qv (Value.agg [(Value.slice none 0 0), (vI n1)].toArray)) ∧
 ((bcase (n2 == 0)
 Qb
 Qft) ∧
 ((Qv (vI n2)) ∧
 True))) ∧
 (((Says C 19 [(D.agg [D.nil, (dI n1)]), (D.agg [D.nil, (dI n15)])] kT) ∧
 ((Qb ∧
 ((bcase (n2 == 0)
 Qb
 Qft) ∧
 ((Qv (vI n2)) ∧
 True))) ∧
 (True ∧
 (k kT)))) ∨
 ((Says C 19 [(D.agg [D.nil, (dI n1)]), (D.agg [D.nil, (dI n15)])] kF) ∧
 ((Qf ∧
 ((bcase (n2 == 0)
 Qb
 Qft) ∧
 ((Qv (vI n2)) ∧
 True))) ∧
 (True ∧
 (k kF)))))))) ∨
 (∃ n15 : Nat,
 (∃ cs1 : List Go.Value,
 (∃ n16 : Int,
 ((Says C 20 [(D.agg [D.nil, (dI x1), (dI x2), (dI x3)]), (D.agg [(Dw n4 1 l4), (dI x5)]), (D.agg [(dI x6), (dI x7)])] [(D.agg [(D.sl (n15) 1 (cs1)), (dI n16)])]) ∧
 (((Qv (Value.agg [(Value.slice none 0 0), (vI n1)].toArray)) ∧
 ((bcase (n2 == 0)
 Qb
 Qft) ∧
 ((Qv (vI n2)) ∧
 True))) ∧
 (bcase (dL n15 1 cs1)
 (((Says C 19 [(D.agg [D.nil, (dI n1)]), (D.agg [(Dw n15 1 cs1), (dI n16)])] kT) ∧
 ((Qb ∧
 ((bcase (n2 == 0)
 Qb
 Qft) ∧
 ((Qv (vI n2)) ∧
 True))) ∧
 (True ∧
 (k kT)))) ∨
 ((Says C 19 [(D.agg [D.nil, (dI n1)]), (D.agg [(Dw n15 1 cs1), (dI n16)])] kF) ∧
 ((Qf ∧
 ((bcase (n2 == 0)
 Qb
 Qft) ∧
 ((Qv (vI n2)) ∧
 True))) ∧
 (True ∧
 (k kF)))))
 False)))))))
 False))
 ((Qu ∧
 (Qu ∧
 (Qu ∧
 (Qu ∧
 (Qf ∧
 ((bcase (n2 == 0)
 Qtf
 Qf) ∧
 ((Qv (vI n2)) ∧
 True))))))) ∧
 ((Qu ∧
 ((bcase (n2 == 0)
 Qtf
 Qf) ∧
 ((Qv (vI n2)) ∧
 True))) ∧
 ((Qf ∧
 ((bcase (n2 == 0)
 Qtf
 Qf) ∧
 ((Qv (vI n2)) ∧
 True))) ∧
 (True ∧
 (k kF)))))))))))
 False))))))
 False)))
 ((Qu ∧
 (Qu ∧
 (Qu ∧
 (Qu ∧
 (Qu ∧
 (Qf ∧
 ((bcase (n11 == 0)
 Qtf
 Qf) ∧
 ((Qv (vI n11)) ∧
 (Qf ∧
 (Qf ∧
 (Qf ∧
 ((bcase (if Bool.true = Bool.true then !(n3 == 0 && (n5 == 0 && Bool.true)) else n3 == 0 && (n5 == 0 && Bool.true))
 Qtf
 Qf) ∧
 ((Qv (Value.agg [(vI 0), (vI 0)].toArray)) ∧
 ((Qv (Value.agg [(vI n3), (vI n5)].toArray)) ∧
 (Qf ∧
 ((bcase (n6 != n11)
 Qtf
 Qf) ∧
 ((Qv (vI n11)) ∧
 ((Qv (vI n6)) ∧
 (Qb ∧
 ((bcase (n11 != 0)
 Qb
 Qft) ∧
 ((Qv (vI n11)) ∧
 True))))))))))))))))))))) ∧
 ((Qf ∧
 (Qf ∧
 (Qu ∧
 (Qu ∧
 (Qu ∧
 (Qu ∧
 (Qu ∧
 (Qf ∧
 ((bcase (n11 == 0)
 Qtf
 Qf) ∧
 ((Qv (vI n11)) ∧
 (Qf ∧
 (Qf ∧
 (Qf ∧
 ((bcase (if Bool.true = Bool.true then !(n3 == 0 && (n5 == 0 && Bool.true)) else n3 == 0 && (n5 == 0 && Bool.true))
 Qtf
 Qf) ∧
 ((Qv (Value.agg [(vI 0), (vI 0)].toArray)) ∧
 ((Qv (Value.agg [(vI n3), (vI n5)].toArray)) ∧
 (Qf ∧
 ((bcase (n6 != n11)
 Qtf
 Qf) ∧
 ((Qv (vI n11)) ∧
 ((Qv (vI n6)) ∧
 (Qb ∧
 ((bcase (n11 != 0)
 Qb
 Qft) ∧
 ((Qv (vI n11)) ∧
 True))))))))))))))))))))))) ∧
 (bcase (dL n4 1 l4)
 (∃ n12 : Int,
 ((Says C 16 [(D.agg [D.nil, (dI x1), (dI x2), (dI x3)]), (D.agg [(Dw n4 1 l4), (dI x5)])] [(dI n12)]) ∧
 (bcase (n12 == 0)
 (∃ n13 : Int,
 ((Says C 17 [(dI x6)] [(dI n13)]) ∧
 (bcase (n13 == 0)
 (∃ n14 : Int,
 ((Says C 18 [(dI x7)] [(dI n14)]) ∧
 (bcase (n14 != 0)
 (bcase (n2 == n14)
 (((Says C 19 [(D.agg [D.nil, (dI n1)]), (D.agg [D.nil, (dI 0)])] kT) ∧
 (k kT)) ∨
 ((Says C 19 [(D.agg [D.nil, (dI n1)]), (D.agg [D.nil, (dI 0)])] kF) ∧
 (k kF)))
 (k kF))
 (bcase (n2 == 0)
 (((Qv (Value.agg [(vI x6), (vI x7)].toArray)) ∧
 ((Qv (Value.agg [(Sl 500 (n4) (c4)), (vI x5)].toArray)) ∧
 ((Qv (Value.agg [(Value.slice none 0 0), (vI x1), (vI x2), (vI x3)].toArray)) ∧
 ((Qv (Value.agg [(Value.slice none 0 0), (vI n1)].toArray)) ∧
 (Qb ∧
 ((bcase (n2 == 0)
 Qb
 Qft) ∧
 ((Qv (vI n2)) ∧
 True))))))) ∧
 (bcase (dL n4 1 l4)
 ((∃ n15 : Int,
 ((Says C 20 [(D.agg [D.nil, (dI x1), (dI x2), (dI x3)]), (D.agg [(Dw n4 1 l4), (dI x5)]), (D.agg [(dI x6), (dI x7)])] [(D.agg [D.nil, (dI n15)])]) ∧
 (((Qv (Value.agg [(Value.slice none 0 0), (vI n1)].toArray)) ∧
 ((bcase (n2 == 0)
 Qb
 Qft) ∧
 ((Qv (vI n2)) ∧
 True))) ∧
 (((Says C 19 [(D.agg [D.nil, (dI n1)]), (D.agg [D.nil, (dI n15)])] kT) ∧
 ((Qb ∧
 ((bcase (n2 == 0)
 Qb
 Qft) ∧
 ((Qv (vI n2)) ∧
 True))) ∧
 (True ∧
 (k kT)))) ∨
 ((Says C 19 [(D.agg [D.nil, (dI n1)]), (D.agg [D.nil, (dI n15)])] kF) ∧
 ((Qf ∧
 ((bcase (n2 == 0)
 Qb
 Qft) ∧
 ((Qv (vI n2)) ∧
 True))) ∧
 (True ∧
 (k kF)))))))) ∨
 (∃ n15 : Nat,
 (∃ cs1 : List Go.Value,
 (∃ n16 : Int,
 ((Says C 20 [(D.agg [D.nil, (dI x1), (dI x2), (dI x3)]), (D.agg [(Dw n4 1 l4), (dI x5)]), (D.agg [(dI x6), (dI x7)])] [(D.agg [(D.sl (n15) 1 (cs1)), (dI n16)])]) ∧
 (((Qv (Value.agg [(Value.slice none 0 0), (vI n1)].toArray)) ∧
 ((bcase (n2 == 0)
 Qb
 Qft) ∧
 ((Qv (vI n2)) ∧
 True))) ∧
 (bcase (dL n15 1 cs1)
 (((Says C 19 [(D.agg [D.nil, (dI n1)]), (D.agg [(Dw n15 1 cs1), (dI n16)])] kT) ∧
 ((Qb ∧
 ((bcase (n2 == 0)
 Qb
 Qft) ∧
 ((Qv (vI n2)) ∧
 True))) ∧
 (True ∧
 (k kT)))) ∨
 ((Says C 19 [(D.agg [D.nil, (dI n1)]), (D.agg [(Dw n15 1 cs1), (dI n16)])] kF) ∧
 ((Qf ∧
 ((bcase (n2 == 0)
 Qb
 Qft) ∧
 ((Qv (vI n2)) ∧
 True))) ∧
 (True ∧
 (k kF)))))
 False)))))))
 False))
 ((Qu ∧
 (Qu ∧
 (Qu ∧
 (Qu ∧
 (Qf ∧
 ((bcase (n2 == 0)
 Qtf
 Qf) ∧
 ((Qv (vI n2)) ∧
 True))))))) ∧
 ((Qu ∧
 ((bcase (n2 == 0)
 Qtf
 Qf) ∧
 ((Qv (vI n2)) ∧
 True))) ∧
 ((Qf ∧
 ((bcase (n2 == 0)
 Qtf
 Qf) ∧
 ((Qv (vI n2)) ∧
 True))) ∧
 (True ∧
 (k kF)))))))))
 (bcase (n13 != 0)
 (bcase (n2 == n13)
 (((Says C 19 [(D.agg [D.nil, (dI n1)]), (D.agg [D.nil, (dI 0)])] kT) ∧
 (k kT)) ∨
 ((Says C 19 [(D.agg [D.nil, (dI n1)]), (D.agg [D.nil, (dI 0)])] kF) ∧
 (k kF)))
 (k kF))
 (bcase (n2 == 0)
 (((Qv (Value.agg [(vI x6), (vI x7)].toArray)) ∧
 ((Qv (Value.agg [(Sl 500 (n4) (c4)), (vI x5)].toArray)) ∧
 ((Qv (Value.agg [(Value.slice none 0 0), (vI x1), (vI x2), (vI x3)].toArray)) ∧
 ((Qv (Value.agg [(Value.slice none 0 0), (vI n1)].toArray)) ∧
 (Qb ∧
 ((bcase (n2 == 0)
 Qb
 Qft) ∧
 ((Qv (vI n2)) ∧
 True))))))) ∧
 (bcase (dL n4 1 l4)
 ((∃ n14 : Int,
 ((Says C 20 [(D.agg [D.nil, (dI x1), (dI x2), (dI x3)]), (D.agg [(Dw n4 1 l4), (dI x5)]), (D.agg [(dI x6), (dI x7)])] [(D.agg [D.nil, (dI n14)])]) ∧
 (((Qv (Value.agg [(Value.slice none 0 0), (vI n1)].toArray)) ∧
 ((bcase (n2 == 0)
 Qb
 Qft) ∧
 ((Qv (vI n2)) ∧
 True))) ∧
 (((Says C 19 [(D.agg [D.nil, (dI n1)]), (D.agg [D.nil, (dI n14)])] kT) ∧
 ((Qb ∧
 ((bcase (n2 == 0)
 Qb
 Qft) ∧
 ((Qv (vI n2)) ∧
 True))) ∧
 (True ∧
 (k kT)))) ∨
 ((Says C 19 [(D.agg [D.nil, (dI n1)]), (D.agg [D.nil, (dI n14)])] kF) ∧
 ((Qf ∧
 ((bcase (n2 == 0)
 Qb
 Qft) ∧
 ((Qv (vI n2)) ∧
 True))) ∧
 (True ∧
 (k kF)))))))) ∨
 (∃ n14 : Nat,
 (∃ cs1 : List Go.Value,
 (∃ n15 : Int,
 ((Says C 20 [(D.agg [D.nil, (dI x1), (dI x2), (dI x3)]), (D.agg [(Dw n4 1 l4), (dI x5)]), (D.agg [(dI x6), (dI x7)])] [(D.agg [(D.sl (n14) 1 (cs1)), (dI n15)])]) ∧
 (((Qv (Value.agg [(Value.slice none 0 0), (vI n1)].toArray)) ∧
 ((bcase (n2 == 0)
 Qb
 Qft) ∧
 ((Qv (vI n2)) ∧
 True))) ∧
 (bcase (dL n14 1 cs1)
 (((Says C 19 [(D.agg [D.nil, (dI n1)]), (D.agg [(Dw n14 1 cs1), (dI n15)])] kT) ∧
 ((Qb ∧
 ((bcase (n2 == 0)
 Qb
 Qft) ∧
 ((Qv (vI n2)) ∧
 True))) ∧
 (True ∧
 (k kT)))) ∨
 ((Says C 19 [(D.agg [D.nil, (dI n1)]), (D.agg [(Dw n14 1 cs1), (dI n15)])] kF) ∧
 ((Qf ∧
 ((bcase (n2 == 0)
 Qb
 Qft) ∧
 ((Qv (vI n2)) ∧
 True))) ∧
 (True ∧
 (k kF)))))
 False)))))))
 False))
 ((Qu ∧
 (Qu ∧
 (Qu ∧
 (Qu ∧
 (Qf ∧
 ((bcase (n2 == 0)
 Qtf
 Qf) ∧
 ((Qv (vI n2)) ∧
 True))))))) ∧
 ((Qu ∧
 ((bcase (n2 == 0)
 Qtf
 Qf) ∧
 ((Qv (vI n2)) ∧
 True))) ∧
 ((Qf ∧
 ((bcase (n2 == 0)
 Qtf
 Qf) ∧
 ((Qv (vI n2)) ∧
 True))) ∧
 (True ∧
 (k kF))))))))))
 (bcase (n12 == 0)
 (∃ n13 : Int,
 ((Says C 18 [(dI x7)] [(dI n13)]) ∧
 (bcase (n13 != 0)
 (bcase (n2 == n13)
 (((Says C 19 [(D.agg [D.nil, (dI n1)]), (D.agg [D.nil, (dI 0)])] kT) ∧
 (k kT)) ∨
 ((Says C 19 [(D.agg [D.nil, (dI n1)]), (D.agg [D.nil, (dI 0)])] kF) ∧
 (k kF)))
 (k kF))
 (bcase (n2 == 0)
 (((Qv (Value.agg [(vI x6), (vI x7)].toArray)) ∧
 ((Qv (Value.agg [(Sl 500 (n4) (c4)), (vI x5)].toArray)) ∧
 ((Qv (Value.agg [(Value.slice none 0 0), (vI x1), (vI x2), (vI x3)].toArray)) ∧
 ((Qv (Value.agg [(Value.slice none 0 0), (vI n1)].toArray)) ∧
 (Qb ∧
 ((bcase (n2 == 0)
 Qb
 Qft) ∧
 ((Qv (vI n2)) ∧
 True))))))) ∧
 (bcase (dL n4 1 l4)
 ((∃ n14 : Int,
 ((Says C 20 [(D.agg [D.nil, (dI x1), (dI x2), (dI x3)]), (D.agg [(Dw n4 1 l4), (dI x5)]), (D.agg [(dI x6), (dI x7)])] [(D.agg [D.nil, (dI n14)])]) ∧
 (((Qv (Value.agg [(Value.slice none 0 0), (vI n1)].toArray)) ∧
 ((bcase (n2 == 0)
 Qb
 Qft) ∧
 ((Qv (vI n2)) ∧
 True))) ∧
 (((Says C 19 [(D.agg [D.nil, (dI n1)]), (D.agg [D.nil, (dI n14)])] kT) ∧
 ((Qb ∧
 ((bcase (n2 == 0)
 Qb
 Qft) ∧
 ((Qv (vI n2)) ∧
 True))) ∧
 (True ∧
 (k kT)))) ∨
 ((Says C 19 [(D.agg [D.nil, (dI n1)]), (D.agg [D.nil, (dI n14)])] kF) ∧
 ((Qf ∧
 ((bcase (n2 == 0)
 Qb
 Qft) ∧
 ((Qv (vI n2)) ∧
 True))) ∧
 (True ∧
 (k kF)))))))) ∨
 (∃ n14 : Nat,
 (∃ cs1 : List Go.Value,
 (∃ n15 : Int,
 ((Says C 20 [(D.agg [D.nil, (dI x1), (dI x2), (dI x3)]), (D.agg [(Dw n4 1 l4), (dI x5)]), (D.agg [(dI x6), (dI x7)])] [(D.agg [(D.sl (n14) 1 (cs1)), (dI n15)])]) ∧
 (((Qv (Value.agg [(Value.slice none 0 0), (vI n1)].toArray)) ∧
 ((bcase (n2 == 0)
 Qb
 Qft) ∧
 ((Qv (vI n2)) ∧
 True))) ∧
 (bcase (dL n14 1 cs1)
 (((Says C 19 [(D.agg [D.nil, (dI n1)]), (D.agg [(Dw n14 1 cs1), (dI n15)])] kT) ∧
 ((Qb ∧
 ((bcase (n2 == 0)
 Qb
 Qft) ∧
 ((Qv (vI n2)) ∧
 True))) ∧
 (True ∧
 (k kT)))) ∨
 ((Says C 19 [(D.agg [D.nil, (dI n1)]), (D.agg [(Dw n14 1 cs1), (dI n15)])] kF) ∧
 ((Qf ∧
 ((bcase (n2 == 0)
 Qb
 Qft) ∧
 ((Qv (vI n2)) ∧
 True))) ∧
 (True ∧
 (k kF)))))
 False)))))))
 False))
 ((Qu ∧
 (Qu ∧
 (Qu ∧
 (Qu ∧
 (Qf ∧
 ((bcase (n2 == 0)
 Qtf
 Qf) ∧
 ((Qv (vI n2)) ∧
 True))))))) ∧
 ((Qu ∧
 ((bcase (n2 == 0)
 Qtf
 Qf) ∧
 ((Qv (vI n2)) ∧
 True))) ∧
 ((Qf ∧
 ((bcase (n2 == 0)
 Qtf
 Qf) ∧
 ((Qv (vI n2)) ∧
 True))) ∧
 (True ∧
 (k kF)))))))))
 (bcase (n12 != 0)
 (bcase (n2 == n12)
 (((Says C 19 [(D.agg [D.nil, (dI n1)]), (D.agg [D.nil, (dI 0)])] kT) ∧
 (k kT)) ∨
 ((Says C 19 [(D.agg [D.nil, (dI n1)]), (D.agg [D.nil, (dI 0)])] kF) ∧
 (k kF)))
 (k kF))
 (bcase (n2 == 0)
 (((Qv (Value.agg [(vI x6), (vI x7)].toArray)) ∧
 ((Qv (Value.agg [(Sl 500 (n4) (c4)), (vI x5)].toArray)) ∧
 ((Qv (Value.agg [(Value.slice none 0 0), (vI x1), (vI x2), (vI x3)].toArray)) ∧
 ((Qv (Value.agg [(Value.slice none 0 0), (vI n1)].toArray)) ∧
 (Qb ∧
 ((bcase (n2 == 0)
 Qb
 Qft) ∧
 ((Qv (vI n2)) ∧
 True))))))) ∧
 (bcase (dL n4 1 l4)
 ((∃ n13 : Int,
 ((Says C 20 [(D.agg [D.nil, (dI x1), (dI x2), (dI x3)]), (D.agg [(Dw n4 1 l4), (dI x5)]), (D.agg [(dI x6), (dI x7)])] [(D.agg [D.nil, (dI n13)])]) ∧
 (((Qv (Value.agg [(Value.slice none 0 0), (vI n1)].toArray)) ∧
 ((bcase (n2 == 0)
 Qb
 Qft) ∧
 ((Qv (vI n2)) ∧
 True))) ∧
 (((Says C 19 [(D.agg [D.nil, (dI n1)]), (D.agg [D.nil, (dI n13)])] kT) ∧
 ((Qb ∧
 ((bcase (n2 == 0)
 Qb
 Qft) ∧
 ((Qv (vI n2)) ∧
 True))) ∧
 (True ∧
 (k kT)))) ∨
 ((Says C 19 [(D.agg [D.nil, (dI n1)]), (D.agg [D.nil, (dI n13)])] kF) ∧
 ((Qf ∧
 ((bcase (n2 == 0)
 Qb
 Qft) ∧
 ((Qv (vI n2)) ∧
 True))) ∧
 (True ∧
 (k kF)))))))) ∨
 (∃ n13 : Nat,
 (∃ cs1 : List Go.Value,
 (∃ n14 : Int,
 ((Says C 20 [(D.agg [D.nil, (dI x1), (dI x2), (dI x3)]), (D.agg [(Dw n4 1 l4), (dI x5)]), (D.agg [(dI x6), (dI x7)])] [(D.agg [(D.sl (n13) 1 (cs1)), (dI n14)])]) ∧
 (((Qv (Value.agg [(Value.slice none 0 0), (vI n1)].toArray)) ∧
 ((bcase (n2 == 0)
 Qb
 Qft) ∧
 ((Qv (vI n2)) ∧
 True))) ∧
 (bcase (dL n13 1 cs1)
 (((Says C 19 [(D.agg [D.nil, (dI n1)]), (D.agg [(Dw n13 1 cs1), (dI n14)])] kT) ∧
 ((Qb ∧
 ((bcase (n2 == 0)
 Qb
 Qft) ∧
 ((Qv (vI n2)) ∧
 True))) ∧
 (True ∧
 (k kT)))) ∨
 ((Says C 19 [(D.agg [D.nil, (dI n1)]), (D.agg [(Dw n13 1 cs1), (dI n14)])] kF) ∧
 ((Qf ∧
 ((bcase (n2 == 0)
 Qb
 Qft) ∧
 ((Qv (vI n2)) ∧
 True))) ∧
 (True ∧
 (k kF)))))
 False)))))))
 False))
 ((Qu ∧
 (Qu ∧
 (Qu ∧
 (Qu ∧
 (Qf ∧
 ((bcase (n2 == 0)
 Qtf
 Qf) ∧
 ((Qv (vI n2)) ∧
 True))))))) ∧
 ((Qu ∧
 ((bcase (n2 == 0)
 Qtf
 Qf) ∧
 ((Qv (vI n2)) ∧
 True))) ∧
 ((Qf ∧
 ((bcase (n2 == 0)
 Qtf
 Qf) ∧
 ((Qv (vI n2)) ∧
 True))) ∧
 (True ∧
 (k kF)))))))))))
 False))))))
 (bcase (n11 == 0)
 (bcase (n6 != 0)
 ((Qu ∧
 (Qu ∧
 (Qb ∧
 ((bcase (n6 != 0)
 Qb
 Qft) ∧
 ((Qv (vI n6)) ∧
 (Qb ∧
 ((bcase (n11 == 0)
 Qb
 Qft) ∧
 ((Qv (vI n11)) ∧
 (Qf ∧
 (Qf ∧
 (Qu ∧
 (Qu ∧
 (Qu ∧
 (Qu ∧
 (Qu ∧
 (Qu ∧
 (Qu ∧
 (Qu ∧
 (Qf ∧
 ((bcase (n11 != 0)
 Qtf
 Qf) ∧
 ((Qv (vI n11)) ∧
 True))))))))))))))))))))) ∧
 ((Qb ∧
 (Qb ∧
 (Qb ∧
 (Qu ∧
 (Qu ∧
 ((bcase (n6 != 0)
 Qb
 Qft) ∧
 ((Qv (vI n6)) ∧
 (Qb ∧
 ((bcase (n11 == 0)
 Qb
 Qft) ∧
 ((Qv (vI n11)) ∧
 (Qf ∧
 (Qf ∧
 (Qu ∧
 (Qu ∧
 (Qu ∧
 (Qu ∧
 (Qu ∧
 (Qu ∧
 (Qu ∧
 (Qu ∧
 (Qf ∧
 ((bcase (n11 != 0)
 Qtf
 Qf) ∧
 ((Qv (vI n11)) ∧
 True))))))))))))))))))))))) ∧
 (k kF)))
 (((Qv (Value.agg [(Sl 500 (n4) (c4)), (vI x5)].toArray)) ∧
 ((Qv (Value.agg [(vI n3), (vI n5)].toArray)) ∧
 (Qf ∧
 ((bcase (n6 != 0)
 Qtf
 Qf) ∧
 ((Qv (vI n6)) ∧
 (Qb ∧
 ((bcase (n11 == 0)
 Qb
 Qft) ∧
 ((Qv (vI n11)) ∧
 (Qf ∧
 (Qf ∧
 (Qu ∧
 (Qu ∧
 (Qu ∧
 (Qu ∧
 (Qu ∧
 (Qu ∧
 (Qu ∧
 (Qu ∧
 (Qf ∧
 ((bcase (n11 != 0)
 Qtf
 Qf) ∧
 ((Qv (vI n11)) ∧
 True))))))))))))))))))))) ∧
 (bcase (dL n4 1 l4)
 (∃ n12 : Int,
 (∃ n13 : Int,
 ((Says C 15 [(D.agg [(Dw n4 1 l4), (dI x5)])] [(D.agg [(dI n12), (dI n13)])]) ∧
 (bcase (if Bool.true = Bool.true then !(n3 == n12 && (n5 == n13 && Bool.true)) else n3 == n12 && (n5 == n13 && Bool.true))
 ((Qb ∧
 (Qb ∧
 (Qb ∧
 ((bcase (if Bool.true = Bool.true then !(n3 == n12 && (n5 == n13 && Bool.true)) else n3 == n12 && (n5 == n13 && Bool.true))
 Qb
 Qft) ∧
 ((Qv (Value.agg [(vI n3), (vI n5)].toArray)) ∧
 ((bcase (n6 != 0)
 Qtf
 Qf) ∧
 ((Qv (vI n6)) ∧
 (Qb ∧
 ((bcase (n11 == 0)
 Qb
 Qft) ∧
 ((Qv (vI n11)) ∧
 (Qf ∧
 (Qf ∧
 (Qu ∧
 (Qu ∧
 (Qu ∧
 (Qu ∧
 (Qu ∧
 (Qu ∧
 (Qu ∧
 (Qu ∧
 (Qf ∧
 ((bcase (n11 != 0)
 Qtf
 Qf) ∧
 ((Qv (vI n11)) ∧
 True))))))))))))))))))))))) ∧
 (k kF))
 ((Qf ∧
 (Qf ∧
 (Qf ∧
 ((bcase (if Bool.true = Bool.true then !(n3 == n12 && (n5 == n13 && Bool.true)) else n3 == n12 && (n5 == n13 && Bool.true))
 Qtf
 Qf) ∧
 ((Qv (Value.agg [(vI n3), (vI n5)].toArray)) ∧
 ((bcase (n6 != 0)
 Qtf
 Qf) ∧
 ((Qv (vI n6)) ∧
 (Qb ∧
 ((bcase (n11 == 0)
 Qb
 Qft) ∧
 ((Qv (vI n11)) ∧
 (Qf ∧
 (Qf ∧
 (Qu ∧
 (Qu ∧
 (Qu ∧
 (Qu ∧
 (Qu ∧
 (Qu ∧
 (Qu ∧
 (Qu ∧
 (Qf ∧
 ((bcase (n11 != 0)
 Qtf
 Qf) ∧
 ((Qv (vI n11)) ∧
 True))))))))))))))))))))))) ∧
 (bcase (dL n4 1 l4)
 (∃ n14 : Int,
 ((Says C 16 [(D.agg [D.nil, (dI x1), (dI x2), (dI x3)]), (D.agg [(Dw n4 1 l4), (dI x5)])] [(dI n14)]) ∧
 (bcase (n14 == 0)
 (∃ n15 : Int,
 ((Says C 17 [(dI x6)] [(dI n15)]) ∧
 (bcase (n15 == 0)
 (∃ n16 : Int,
 ((Says C 18 [(dI x7)] [(dI n16)]) ∧
 (bcase (n16 != 0)
 (bcase (n2 == n16)
 (((Says C 19 [(D.agg [D.nil, (dI n1)]), (D.agg [D.nil, (dI 0)])] kT) ∧
 (k kT)) ∨
 ((Says C 19 [(D.agg [D.nil, (dI n1)]), (D.agg [D.nil, (dI 0)])] kF) ∧
 (k kF)))
 (k kF))
 (bcase (n2 == 0)
 (((Qv (Value.agg [(vI x6), (vI x7)].toArray)) ∧
 ((Qv (Value.agg [(Sl 500 (n4) (c4)), (vI x5)].toArray)) ∧
 ((Qv (Value.agg [(Value.slice none 0 0), (vI x1), (vI x2), (vI x3)].toArray)) ∧
 ((Qv (Value.agg [(Value.slice none 0 0), (vI n1)].toArray)) ∧
 (Qb ∧
 ((bcase (n2 == 0)
 Qb
 Qft) ∧
 ((Qv (vI n2)) ∧
 True))))))) ∧
 (bcase (dL n4 1 l4)
 ((∃ n17 : Int,
 ((Says C 20 [(D.agg [D.nil, (dI x1), (dI x2), (dI x3)]), (D.agg [(Dw n4 1 l4), (dI x5)]), (D.agg [(dI x6), (dI x7)])] [(D.agg [D.nil, (dI n17)])]) ∧
 (((Qv (Value.agg [(Value.slice none 0 0), (vI n1)].toArray)) ∧
 ((bcase (n2 == 0)
 Qb
 Qft) ∧
 ((Qv (vI n2)) ∧
 True))) ∧
 (((Says C 19 [(D.agg [D.nil, (dI n1)]), (D.agg [D.nil, (dI n17)])] kT) ∧
 ((Qb ∧
 ((bcase (n2 == 0)
 Qb
 Qft) ∧
 ((Qv (vI n2)) ∧
 True))) ∧
 (True ∧
 (k kT)))) ∨
 ((Says C 19 [(D.agg [D.nil, (dI n1)]), (D.agg [D.nil, (dI n17)])] kF) ∧
 ((Qf ∧
 ((bcase (n2 == 0)
 Qb
 Qft) ∧
 ((Qv (vI n2)) ∧
 True))) ∧
 (True ∧
 (k kF)))))))) ∨
 (∃ n17 : Nat,
 (∃ cs1 : List Go.Value,
 (∃ n18 : Int,
 ((Says C 20 [(D.agg [D.nil, (dI x1), (dI x2), (dI x3)]), (D.agg [(Dw n4 1 l4), (dI x5)]), (D.agg [(dI x6), (dI x7)])] [(D.agg [(D.sl (n17) 1 (cs1)), (dI n18)])]) ∧
 (((Qv (Value.agg [(Value.slice none 0 0), (vI n1)].toArray)) ∧
 ((bcase (n2 == 0)
 Qb
 Qft) ∧
 ((Qv (vI n2)) ∧
 True))) ∧
 (bcase (dL n17 1 cs1)
 (((Says C 19 [(D.agg [D.nil, (dI n1)]), (D.agg [(Dw n17 1 cs1), (dI n18)])] kT) ∧
 ((Qb ∧
 ((bcase (n2 == 0)
 Qb
 Qft) ∧
 ((Qv (vI n2)) ∧
 True))) ∧
 (True ∧
 (k kT)))) ∨
 ((Says C 19 [(D.agg [D.nil, (dI n1)]), (D.agg [(Dw n17 1 cs1), (dI n18)])] kF) ∧
 ((Qf ∧
 ((bcase (n2 == 0)
 Qb
 Qft) ∧
 ((Qv (vI n2)) ∧
 True))) ∧
 (True ∧
 (k kF)))))
 False)))))))
 False))
 ((Qu ∧
 (Qu ∧
 (Qu ∧
 (Qu ∧
 (Qf ∧
 ((bcase (n2 == 0)
 Qtf
 Qf) ∧
 ((Qv (vI n2)) ∧
 True))))))) ∧
 ((Qu ∧
 ((bcase (n2 == 0)
 Qtf
 Qf) ∧
 ((Qv (vI n2)) ∧
 True))) ∧
 ((Qf ∧
 ((bcase (n2 == 0)
 Qtf
 Qf) ∧
 ((Qv (vI n2)) ∧
 True))) ∧
 (True ∧
 (k kF)))))))))
 (bcase (n15 != 0)
 (bcase (n2 == n15)
 (((Says C 19 [(D.agg [D.nil, (dI n1)]), (D.agg [D.nil, (dI 0)])] kT) ∧
 (k kT)) ∨
 ((Says C 19 [(D.agg [D.nil, (dI n1)]), (D.agg [D.nil, (dI 0)])] kF) ∧
 (k kF)))
 (k kF))
 (bcase (n2 == 0)
 (((Qv (Value.agg [(vI x6), (vI x7)].toArray)) ∧
 ((Qv (Value.agg [(Sl 500 (n4) (c4)), (vI x5)].toArray)) ∧
 ((Qv (Value.agg [(Value.slice none 0 0), (vI x1), (vI x2), (vI x3)].toArray)) ∧
 ((Qv (Value.agg [(Value.slice none 0 0), (vI n1)].toArray)) ∧
 (Qb ∧
 ((bcase (n2 == 0)
 Qb
 Qft) ∧
 ((Qv (vI n2)) ∧
 True))))))) ∧
 (bcase (dL n4 1 l4)
 ((∃ n16 : Int,
 ((Says C 20 [(D.agg [D.nil, (dI x1), (dI x2), (dI x3)]), (D.agg [(Dw n4 1 l4), (dI x5)]), (D.agg [(dI x6), (dI x7)])] [(D.agg [D.nil, (dI n16)])]) ∧
 (((Qv (Value.agg [(Value.slice none 0 0), (vI n1)].toArray)) ∧
 ((bcase (n2 == 0)
 Qb
 Qft) ∧
 ((Qv (vI n2)) ∧
 True))) ∧
 (((Says C 19 [(D.agg [D.nil, (dI n1)]), (D.agg [D.nil, (dI n16)])] kT) ∧
 ((Qb ∧
 ((bcase (n2 == 0)
 Qb
 Qft) ∧
 ((Qv (vI n2)) ∧
 True))) ∧
 (True ∧
 (k kT)))) ∨
 ((Says C 19 [(D.agg [D.nil, (dI n1)]), (D.agg [D.nil, (dI n16)])] kF) ∧
 ((Qf ∧
 ((bcase (n2 == 0)
 Qb
 Qft) ∧
 ((Qv (vI n2)) ∧
 True))) ∧
 (True ∧
 (k kF)))))))) ∨
 (∃ n16 : Nat,
 (∃ cs1 : List Go.Value,
 (∃ n17 : Int,
 ((Says C 20 [(D.agg [D.nil, (dI x1), (dI x2), (dI x3)]), (D.agg [(Dw n4 1 l4), (dI x5)]), (D.agg [(dI x6), (dI x7)])] [(D.agg [(D.sl (n16) 1 (cs1)), (dI n17)])]) ∧
 (((Qv (Value.agg [(Value.slice none 0 0), (vI n1)].toArray)) ∧
 ((bcase (n2 == 0)
 Qb
 Qft) ∧
 ((Qv (vI n2)) ∧
 True))) ∧
 (bcase (dL n16 1 cs1)
 (((Says C 19 [(D.agg [D.nil, (dI n1)]), (D.agg [(Dw n16 1 cs1), (dI n17)])] kT) ∧
 ((Qb ∧
 ((bcase (n2 == 0)
 Qb
 Qft) ∧
 ((Qv (vI n2)) ∧
 True))) ∧
 (True ∧
 (k kT)))) ∨
 ((Says C 19 [(D.agg [D.nil, (dI n1)]), (D.agg [(Dw n16 1 cs1), (dI n17)])] kF) ∧
 ((Qf ∧
 ((bcase (n2 == 0)
 Qb
 Qft) ∧
 ((Qv (vI n2)) ∧
 True))) ∧
 (True ∧
 (k kF)))))
 False)))))))
 False))
 ((Qu ∧
 (Qu ∧
 (Qu ∧
 (Qu ∧
 (Qf ∧
 ((bcase (n2 == 0)
 Qtf
 Qf) ∧
 ((Qv (vI n2)) ∧
 True))))))) ∧
 ((Qu ∧
 ((bcase (n2 == 0)
 Qtf
 Qf) ∧
 ((Qv (vI n2)) ∧
 True))) ∧
 ((Qf ∧
 ((bcase (n2 == 0)
 Qtf
 Qf) ∧
 ((Qv (vI n2)) ∧
 True))) ∧
 (True ∧
 (k kF))))))))))
 (bcase (n14 == 0)
 (∃ n15 : Int,
 ((Says C 18 [(dI x7)] [(dI n15)]) ∧
 (bcase (n15 != 0)
 (bcase (n2 == n15)
 (((Says C 19 [(D.agg [D.nil, (dI n1)]), (D.agg [D.nil, (dI 0)])] kT) ∧
 (k kT)) ∨
 ((Says C 19 [(D.agg [D.nil, (dI n1)]), (D.agg [D.nil, (dI 0)])] kF) ∧
 (k kF)))
 (k kF))
 (bcase (n2 == 0)
 (((Qv (Value.agg [(vI x6), (vI x7)].toArray)) ∧
 ((Qv (Value.agg [(Sl 500 (n4) (c4)), (vI x5)].toArray)) ∧
 ((Qv (Value.agg [(Value.slice none 0 0), (vI x1), (vI x2), (vI x3)].toArray)) ∧
 ((Qv (Value.agg [(Value.slice none 0 0), (vI n1)].toArray)) ∧
 (Qb ∧
 ((bcase (n2 == 0)
 Qb
 Qft) ∧
 ((Qv (vI n2)) ∧
 True))))))) ∧
 (bcase (dL n4 1 l4)
 ((∃ n16 : Int,
 ((Says C 20 [(D.agg [D.nil, (dI x1), (dI x2), (dI x3)]), (D.agg [(Dw n4 1 l4), (dI x5)]), (D.agg [(dI x6), (dI x7)])] [(D.agg [D.nil, (dI n16)])]) ∧
 (((Qv (Value.agg [(Value.slice none 0 0), (vI n1)].toArray)) ∧
 ((bcase (n2 == 0)
 Qb
 Qft) ∧
 ((Qv (vI n2)) ∧
 True))) ∧
 (((Says C 19 [(D.agg [D.nil, (dI n1)]), (D.agg [D.nil, (dI n16)])] kT) ∧
 ((Qb ∧
 ((bcase (n2 == 0)
 Qb
 Qft) ∧
 ((Qv (vI n2)) ∧
 True))) ∧
 (True ∧
 (k kT)))) ∨
 ((Says C 19 [(D.agg [D.nil, (dI n1)]), (D.agg [D.nil, (dI n16)])] kF) ∧
 ((Qf ∧
 ((bcase (n2 == 0)
 Qb
 Qft) ∧
 ((Qv (vI n2)) ∧
 True))) ∧
 (True ∧
 (k kF)))))))) ∨
 (∃ n16 : Nat,
 (∃ cs1 : List Go.Value,
 (∃ n17 : Int,
 ((Says C 20 [(D.agg [D.nil, (dI x1), (dI x2), (dI x3)]), (D.agg [(Dw n4 1 l4), (dI x5)]), (D.agg [(dI x6), (dI x7)])] [(D.agg [(D.sl (n16) 1 (cs1)), (dI n17)])]) ∧
 (((Qv (Value.agg [(Value.slice none 0 0), (vI n1)].toArray)) ∧
 ((bcase (n2 == 0)
 Qb
 Qft) ∧
 ((Qv (vI n2)) ∧
 True))) ∧
 (bcase (dL n16 1 cs1)
 (((Says C 19 [(D.agg [D.nil, (dI n1)]), (D.agg [(Dw n16 1 cs1), (dI n17)])] kT) ∧
 ((Qb ∧
 ((bcase (n2 == 0)
 Qb
 Qft) ∧
 ((Qv (vI n2)) ∧
 True))) ∧
 (True ∧
 (k kT)))) ∨
 ((Says C 19 [(D.agg [D.nil, (dI n1)]), (D.agg [(Dw n16 1 cs1), (dI n17)])] kF) ∧
 ((Qf ∧
 ((bcase (n2 == 0)
 Qb
 Qft) ∧
 ((Qv (vI n2)) ∧
 True))) ∧
 (True ∧
 (k kF)))))
 False)))))))
 False))
 ((Qu ∧
 (Qu ∧
 (Qu ∧
 (Qu ∧
 (Qf ∧
 ((bcase (n2 == 0)
 Qtf
 Qf) ∧
 ((Qv (vI n2)) ∧
 True))))))) ∧
 ((Qu ∧
 ((bcase (n2 == 0)
 Qtf
 Qf) ∧
 ((Qv (vI n2)) ∧
 True))) ∧
 ((Qf ∧
 ((bcase (n2 == 0)
 Qtf
 Qf) ∧
 ((Qv (vI n2)) ∧
 True))) ∧
 (True ∧
 (k kF)))))))))
 (bcase (n14 != 0)
 (bcase (n2 == n14)
 (((Says C 19 [(D.agg [D.nil, (dI n1)]), (D.agg [D.nil, (dI 0)])] kT) ∧
 (k kT)) ∨
 ((Says C 19 [(D.agg [D.nil, (dI n1)]), (D.agg [D.nil, (dI 0)])] kF) ∧
 (k kF)))
 (k kF))
 (bcase (n2 == 0)
 (((Qv (Value.agg [(vI x6), (vI x7)].toArray)) ∧
 ((Qv (Value.agg [(Sl 500 (n4) (c4)), (vI x5)].toArray)) ∧
 ((Qv (Value.agg [(Value.slice none 0 0), (vI x1), (vI x2), (vI x3)].toArray)) ∧
 ((Qv (Value.agg [(Value.slice none 0 0), (vI n1)].toArray)) ∧
 (Qb ∧
 ((bcase (n2 == 0)
 Qb
 Qft) ∧
 ((Qv (vI n2)) ∧
 True))))))) ∧
 (bcase (dL n4 1 l4)
 ((∃ n15 : Int,
 ((Says C 20 [(D.agg [D.nil, (dI x1), (dI x2), (dI x3)]), (D.agg [(Dw n4 1 l4), (dI x5)]), (D.agg [(dI x6), (dI x7)])] [(D.agg [D.nil, (dI n15)])]) ∧
 (((Qv (Value.agg [(Value.slice none 0 0), (vI n1)].toArray)) ∧
 ((bcase (n2 == 0)
 Qb
 Qft) ∧
 ((Qv (vI n2)) ∧
 True))) ∧
 (((Says C 19 [(D.agg [D.nil, (dI n1)]), (D.agg [D.nil, (dI n15)])] kT) ∧
 ((Qb ∧
 ((bcase (n2 == 0)
 Qb
 Qft) ∧
 ((Qv (vI n2)) ∧
 True))) ∧
 (True ∧
 (k kT)))) ∨
 ((Says C 19 [(D.agg [D.nil, (dI n1)]), (D.agg [D.nil, (dI n15)])] kF) ∧
 ((Qf ∧
 ((bcase (n2 == 0)
 Qb
 Qft) ∧
 ((Qv (vI n2)) ∧
 True))) ∧
 (True ∧
 (k kF)))))))) ∨
 (∃ n15 : Nat,
 (∃ cs1 : List Go.Value,
 (∃ n16 : Int,
 ((Says C 20 [(D.agg [D.nil, (dI x1), (dI x2), (dI x3)]), (D.agg [(Dw n4 1 l4), (dI x5)]), (D.agg [(dI x6), (dI x7)])] [(D.agg [(D.sl (n15) 1 (cs1)), (dI n16)])]) ∧
 (((Qv (Value.agg [(Value.slice none 0 0), (vI n1)].toArray)) ∧
 ((bcase (n2 == 0)
 Qb
 Qft) ∧
 ((Qv (vI n2)) ∧
 True))) ∧
 (bcase (dL n15 1 cs1)
 (((Says C 19 [(D.agg [D.nil, (dI n1)]), (D.agg [(Dw n15 1 cs1), (dI n16)])] kT) ∧
 ((Qb ∧
 ((bcase (n2 == 0)
 Qb
 Qft) ∧
 ((Qv (vI n2)) ∧
 True))) ∧
 (True ∧
 (k kT)))) ∨
 ((Says C 19 [(D.agg [D.nil, (dI n1)]), (D.agg [(Dw n15 1 cs1), (dI n16)])] kF) ∧
 ((Qf ∧
 ((bcase (n2 == 0)
 Qb
 Qft) ∧
 ((Qv (vI n2)) ∧
 True))) ∧
 (True ∧
 (k kF)))))
 False)))))))
 False))
 ((Qu ∧
 (Qu ∧
 (Qu ∧
 (Qu ∧
 (Qf ∧
 ((bcase (n2 == 0)
 Qtf
 Qf) ∧
 ((Qv (vI n2)) ∧
 True))))))) ∧
 ((Qu ∧
 ((bcase (n2 == 0)
 Qtf
 Qf) ∧
 ((Qv (vI n2)) ∧
 True))) ∧
 ((Qf ∧
 ((bcase (n2 == 0)
 Qtf
 Qf) ∧
 ((Qv (vI n2)) ∧
 True))) ∧
 (True ∧
 (k kF)))))))))))
 False))))))
 False)))
 ((Qu ∧
 (Qu ∧
 (Qu ∧
 (Qu ∧
 (Qu ∧
 (Qf ∧
 ((bcase (n11 == 0)
 Qtf
 Qf) ∧
 ((Qv (vI n11)) ∧
 (Qf ∧
 (Qf ∧
 (Qu ∧
 (Qu ∧
 (Qu ∧
 (Qu ∧
 (Qu ∧
 (Qu ∧
 (Qu ∧
 (Qu ∧
 (Qf ∧
 ((bcase (n11 != 0)
 Qtf
 Qf) ∧
 ((Qv (vI n11)) ∧
 True))))))))))))))))))))) ∧
 ((Qf ∧
 (Qf ∧
 (Qu ∧
 (Qu ∧
 (Qu ∧
 (Qu ∧
 (Qu ∧
 (Qf ∧
 ((bcase (n11 == 0)
 Qtf
 Qf) ∧
 ((Qv (vI n11)) ∧
 (Qf ∧
 (Qf ∧
 (Qu ∧
 (Qu ∧
 (Qu ∧
 (Qu ∧
 (Qu ∧
 (Qu ∧
 (Qu ∧
 (Qu ∧
 (Qf ∧
 ((bcase (n11 != 0)
 Qtf
 Qf) ∧
 ((Qv (vI n11)) ∧
 True))))))))))))))))))))))) ∧
 (bcase (dL n4 1 l4)
 (∃ n12 : Int,
 ((Says C 16 [(D.agg [D.nil, (dI x1), (dI x2), (dI x3)]), (D.agg [(Dw n4 1 l4), (dI x5)])] [(dI n12)]) ∧
 (bcase (n12 == 0)
 (∃ n13 : Int,
 ((Says C 17 [(dI x6)] [(dI n13)]) ∧
 (bcase (n13 == 0)
 (∃ n14 : Int,
 ((Says C 18 [(dI x7)] [(dI n14)]) ∧
 (bcase (n14 != 0)
 (bcase (n2 == n14)
 (((Says C 19 [(D.agg [D.nil, (dI n1)]), (D.agg [D.nil, (dI 0)])] kT) ∧
 (k kT)) ∨
 ((Says C 19 [(D.agg [D.nil, (dI n1)]), (D.agg [D.nil, (dI 0)])] kF) ∧
 (k kF)))
 (k kF))
 (bcase (n2 == 0)
 (((Qv (Value.agg [(vI x6), (vI x7)].toArray)) ∧
 ((Qv (Value.agg [(Sl 500 (n4) (c4)), (vI x5)].toArray)) ∧
 ((Qv (Value.agg [(Value.slice none 0 0), (vI x1), (vI x2), (vI x3)].toArray)) ∧
 ((Qv (Value.agg [(Value.slice none 0 0), (vI n1)].toArray)) ∧
 (Qb ∧
 ((bcase (n2 == 0)
 Qb
 Qft) ∧
 ((Qv (vI n2)) ∧
 True))))))) ∧
 (bcase (dL n4 1 l4)
 ((∃ n15 : Int,
 ((Says C 20 [(D.agg [D.nil, (dI x1), (dI x2), (dI x3)]), (D.agg [(Dw n4 1 l4), (dI x5)]), (D.agg [(dI x6), (dI x7)])] [(D.agg [D.nil, (dI n15)])]) ∧
 (((Qv (Value.agg [(Value.slice none 0 0), (vI n1)].toArray)) ∧
 ((bcase (n2 == 0)
 Qb
 Qft) ∧
 ((Qv (vI n2)) ∧
 True))) ∧
 (((Says C 19 [(D.agg [D.nil, (dI n1)]), (D.agg [D.nil, (dI n15)])] kT) ∧
 ((Qb ∧
 ((bcase (n2 == 0)
 Qb
 Qft) ∧
 ((Qv (vI n2)) ∧
 True))) ∧
 (True ∧
 (k kT)))) ∨
 ((Says C 19 [(D.agg [D.nil, (dI n1)]), (D.agg [D.nil, (dI n15)])] kF) ∧
 ((Qf ∧
 ((bcase (n2 == 0)
 Qb
 Qft) ∧
 ((Qv (vI n2)) ∧
 True))) ∧
 (True ∧
 (k kF)))))))) ∨
 (∃ n15 : Nat,
 (∃ cs1 : List Go.Value,
 (∃ n16 : Int,
 ((Says C 20 [(D.agg [D.nil, (dI x1), (dI x2), (dI x3)]), (D.agg [(Dw n4 1 l4), (dI x5)]), (D.agg [(dI x6), (dI x7)])] [(D.agg [(D.sl (n15) 1 (cs1)), (dI n16)])]) ∧
 (((Qv (Value.agg [(Value.slice none 0 0), (vI n1)].toArray)) ∧
 ((bcase (n2 == 0)
 Qb
 Qft) ∧
 ((Qv (vI n2)) ∧
 True))) ∧
 (bcase (dL n15 1 cs1)
 (((Says C 19 [(D.agg [D.nil, (dI n1)]), (D.agg [(Dw n15 1 cs1), (dI n16)])] kT) ∧
 ((Qb ∧
 ((bcase (n2 == 0)
 Qb
 Qft) ∧
 ((Qv (vI n2)) ∧
 True))) ∧
 (True ∧
 (k kT)))) ∨
 ((Says C 19 [(D.agg [D.nil, (dI n1)]), (D.agg [(Dw n15 1 cs1), (dI n16)])] kF) ∧
 ((Qf ∧
 ((bcase (n2 == 0)
 Qb
 Qft) ∧
 ((Qv (vI n2)) ∧
 True))) ∧
 (True ∧
 (k kF)))))
 False)))))))
 False))
 ((Qu ∧
 (Qu ∧
 (Qu ∧
 (Qu ∧
 (Qf ∧
 ((bcase (n2 == 0)
 Qtf
 Qf) ∧
 ((Qv (vI n2)) ∧
 True))))))) ∧
 ((Qu ∧
 ((bcase (n2 == 0)
 Qtf
 Qf) ∧
 ((Qv (vI n2)) ∧
 True))) ∧
 ((Qf ∧
 ((bcase (n2 == 0)
 Qtf
 Qf) ∧
 ((Qv (vI n2)) ∧
 True))) ∧
 (True ∧
 (k kF)))))))))
 (bcase (n13 != 0)
 (bcase (n2 == n13)
 (((Says C 19 [(D.agg [D.nil, (dI n1)]), (D.agg [D.nil, (dI 0)])] kT) ∧
 (k kT)) ∨
 ((Says C 19 [(D.agg [D.nil, (dI n1)]), (D.agg [D.nil, (dI 0)])] kF) ∧
 (k kF)))
 (k kF))
 (bcase (n2 == 0)
 (((Qv (Value.agg [(vI x6), (vI x7)].toArray)) ∧
 ((Qv (Value.agg [(Sl 500 (n4) (c4)), (vI x5)].toArray)) ∧
 ((Qv (Value.agg [(Value.slice none 0 0), (vI x1), (vI x2), (vI x3)].toArray)) ∧
 ((Qv (Value.agg [(Value.slice none 0 0), (vI n1)].toArray)) ∧
 (Qb ∧
 ((bcase (n2 == 0)
 Qb
 Qft) ∧
 ((Qv (vI n2)) ∧
 True))))))) ∧
 (bcase (dL n4 1 l4)
 ((∃ n14 : Int,
 ((Says C 20 [(D.agg [D.nil, (dI x1), (dI x2), (dI x3)]), (D.agg [(Dw n4 1 l4), (dI x5)]), (D.agg [(dI x6), (dI x7)])] [(D.agg [D.nil, (dI n14)])]) ∧
 (((Qv (Value.agg [(Value.slice none 0 0), (vI n1)].toArray)) ∧
 ((bcase (n2 == 0)
 Qb
 Qft) ∧
 ((Qv (vI n2)) ∧
 True))) ∧
 (((Says C 19 [(D.agg [D.nil, (dI n1)]), (D.agg [D.nil, (dI n14)])] kT) ∧
 ((Qb ∧
 ((bcase (n2 == 0)
 Qb
 Qft) ∧
 ((Qv (vI n2)) ∧
 True))) ∧
 (True ∧
 (k kT)))) ∨
 ((Says C 19 [(D.agg [D.nil, (dI n1)]), (D.agg [D.nil, (dI n14)])] kF) ∧
 ((Qf ∧
 ((bcase (n2 == 0)
 Qb
 Qft) ∧
 ((Qv (vI n2)) ∧
 True))) ∧
 (True ∧
 (k kF)))))))) ∨
 (∃ n14 : Nat,
 (∃ cs1 : List Go.Value,
 (∃ n15 : Int,
 ((Says C 20 [(D.agg [D.nil, (dI x1), (dI x2), (dI x3)]), (D.agg [(Dw n4 1 l4), (dI x5)]), (D.agg [(dI x6), (dI x7)])] [(D.agg [(D.sl (n14) 1 (cs1)), (dI n15)])]) ∧
 (((Qv (Value.agg [(Value.slice none 0 0), (vI n1)].toArray)) ∧
 ((bcase (n2 == 0)
 Qb
 Qft) ∧
 ((Qv (vI n2)) ∧
 True))) ∧
 (bcase (dL n14 1 cs1)
 (((Says C 19 [(D.agg [D.nil, (dI n1)]), (D.agg [(Dw n14 1 cs1), (dI n15)])] kT) ∧
 ((Qb ∧
 ((bcase (n2 == 0)
 Qb
 Qft) ∧
 ((Qv (vI n2)) ∧
 True))) ∧
 (True ∧
 (k kT)))) ∨
 ((Says C 19 [(D.agg [D.nil, (dI n1)]), (D.agg [(Dw n14 1 cs1), (dI n15)])] kF) ∧
 ((Qf ∧
 ((bcase (n2 == 0)
 Qb
 Qft) ∧
 ((Qv (vI n2)) ∧
 True))) ∧
 (True ∧
 (k kF)))))
 False)))))))
 False))
 ((Qu ∧
 (Qu ∧
 (Qu ∧
 (Qu ∧
 (Qf ∧
 ((bcase (n2 == 0)
 Qtf
 Qf) ∧
 ((Qv (vI n2)) ∧
 True))))))) ∧
 ((Qu ∧
 ((bcase (n2 == 0)
 Qtf
 Qf) ∧
 ((Qv (vI n2)) ∧
 True))) ∧
 ((Qf ∧
 ((bcase (n2 == 0)
 Qtf
 Qf) ∧
 ((Qv (vI n2)) ∧
 True))) ∧
 (True ∧
 (k kF))))))))))
 (bcase (n12 == 0)
 (∃ n13 : Int,
 ((Says C 18 [(dI x7)] [(dI n13)]) ∧
 (bcase (n13 != 0)
 (bcase (n2 == n13)
 (((Says C 19 [(D.agg [D.nil, (dI n1)]), (D.agg [D.nil, (dI 0)])] kT) ∧
 (k kT)) ∨
 ((Says C 19 [(D.agg [D.nil, (dI n1)]), (D.agg [D.nil, (dI 0)])] kF) ∧
 (k kF)))
 (k kF))
 (bcase (n2 == 0)
 (((Qv (Value.agg [(vI x6), (vI x7)].toArray)) ∧
 ((Qv (Value.agg [(Sl 500 (n4) (c4)), (vI x5)].toArray)) ∧
 ((Qv (Value.agg [(Value.slice none 0 0), (vI x1), (vI x2), (vI x3)].toArray)) ∧
 ((Qv (Value.agg [(Value.slice none 0 0), (vI n1)].toArray)) ∧
 (Qb ∧
 ((bcase (n2 == 0)
 Qb
 Qft) ∧
 ((Qv (vI n2)) ∧
 True))))))) ∧
 (bcase (dL n4 1 l4)
 ((∃ n14 : Int,
 ((Says C 20 [(D.agg [D.nil, (dI x1), (dI x2), (dI x3)]), (D.agg [(Dw n4 1 l4), (dI x5)]), (D.agg [(dI x6), (dI x7)])] [(D.agg [D.nil, (dI n14)])]) ∧
 (((Qv (Value.agg [(Value.slice none 0 0), (vI n1)].toArray)) ∧
 ((bcase (n2 == 0)
 Qb
 Qft) ∧
 ((Qv (vI n2)) ∧
 True))) ∧
 (((Says C 19 [(D.agg [D.nil, (dI n1)]), (D.agg [D.nil, (dI n14)])] kT) ∧
 ((Qb ∧
 ((bcase (n2 == 0)
 Qb
 Qft) ∧
 ((Qv (vI n2)) ∧
 True))) ∧
 (True ∧
 (k kT)))) ∨
 ((Says C 19 [(D.agg [D.nil, (dI n1)]), (D.agg [D.nil, (dI n14)])] kF) ∧
 ((Qf ∧
 ((bcase (n2 == 0)
 Qb
 Qft) ∧
 ((Qv (vI n2)) ∧
 True))) ∧
 (True ∧
 (k kF)))))))) ∨
 (∃ n14 : Nat,
 (∃ cs1 : List Go.Value,
 (∃ n15 : Int,
 ((Says C 20 [(D.agg [D.nil, (dI x1), (dI x2), (dI x3)]), (D.agg [(Dw n4 1 l4), (dI x5)]), (D.agg [(dI x6), (dI x7)])] [(D.agg [(D.sl (n14) 1 (cs1)), (dI n15)])]) ∧
 (((Qv (Value.agg [(Value.slice none 0 0), (vI n1)].toArray)) ∧
 ((bcase (n2 == 0)
 Qb
 Qft) ∧
 ((Qv (vI n2)) ∧
 True))) ∧
 (bcase (dL n14 1 cs1)
 (((Says C 19 [(D.agg [D.nil, (dI n1)]), (D.agg [(Dw n14 1 cs1), (dI n15)])] kT) ∧
 ((Qb ∧
 ((bcase (n2 == 0)
 Qb
 Qft) ∧
 ((Qv (vI n2)) ∧
 True))) ∧
 (True ∧
 (k kT)))) ∨
 ((Says C 19 [(D.agg [D.nil, (dI n1)]), (D.agg [(Dw n14 1 cs1), (dI n15)])] kF) ∧
 ((Qf ∧
 ((bcase (n2 == 0)
 Qb
 Qft) ∧
 ((Qv (vI n2)) ∧
 True))) ∧
 (True ∧
 (k kF)))))
 False)))))))
 False))
 ((Qu ∧
 (Qu ∧
 (Qu ∧
 (Qu ∧
 (Qf ∧
 ((bcase (n2 == 0)
 Qtf
 Qf) ∧
 ((Qv (vI n2)) ∧
 True))))))) ∧
 ((Qu ∧
 ((bcase (n2 == 0)
 Qtf
 Qf) ∧
 ((Qv (vI n2)) ∧
 True))) ∧
 ((Qf ∧
 ((bcase (n2 == 0)
 Qtf
 Qf) ∧
 ((Qv (vI n2)) ∧
 True))) ∧
 (True ∧
 (k kF)))))))))
 (bcase (n12 != 0)
 (bcase (n2 == n12)
 (((Says C 19 [(D.agg [D.nil, (dI n1)]), (D.agg [D.nil, (dI 0)])] kT) ∧
 (k kT)) ∨
 ((Says C 19 [(D.agg [D.nil, (dI n1)]), (D.agg [D.nil, (dI 0)])] kF) ∧
 (k kF)))
 (k kF))
 (bcase (n2 == 0)
 (((Qv (Value.agg [(vI x6), (vI x7)].toArray)) ∧
 ((Qv (Value.agg [(Sl 500 (n4) (c4)), (vI x5)].toArray)) ∧
 ((Qv (Value.agg [(Value.slice none 0 0), (vI x1), (vI x2), (vI x3)].toArray)) ∧
 ((Qv (Value.agg [(Value.slice none 0 0), (vI n1)].toArray)) ∧
 (Qb ∧
 ((bcase (n2 == 0)
 Qb
 Qft) ∧
 ((Qv (vI n2)) ∧
 True))))))) ∧
 (bcase (dL n4 1 l4)
 ((∃ n13 : Int,
 ((Says C 20 [(D.agg [D.nil, (dI x1), (dI x2), (dI x3)]), (D.agg [(Dw n4 1 l4), (dI x5)]), (D.agg [(dI x6), (dI x7)])] [(D.agg [D.nil, (dI n13)])]) ∧
 (((Qv (Value.agg [(Value.slice none 0 0), (vI n1)].toArray)) ∧
 ((bcase (n2 == 0)
 Qb
 Qft) ∧
 ((Qv (vI n2)) ∧
 True))) ∧
 (((Says C 19 [(D.agg [D.nil, (dI n1)]), (D.agg [D.nil, (dI n13)])] kT) ∧
 ((Qb ∧
 ((bcase (n2 == 0)
 Qb
 Qft) ∧
 ((Qv (vI n2)) ∧
 True))) ∧
 (True ∧
 (k kT)))) ∨
 ((Says C 19 [(D.agg [D.nil, (dI n1)]), (D.agg [D.nil, (dI n13)])] kF) ∧
 ((Qf ∧
 ((bcase (n2 == 0)
 Qb
 Qft) ∧
 ((Qv (vI n2)) ∧
 True))) ∧
 (True ∧
 (k kF)))))))) ∨
 (∃ n13 : Nat,
 (∃ cs1 : List Go.Value,
 (∃ n14 : Int,
 ((Says C 20 [(D.agg [D.nil, (dI x1), (dI x2), (dI x3)]), (D.agg [(Dw n4 1 l4), (dI x5)]), (D.agg [(dI x6), (dI x7)])] [(D.agg [(D.sl (n13) 1 (cs1)), (dI n14)])]) ∧
 (((Qv (Value.agg [(Value.slice none 0 0), (vI n1)].toArray)) ∧
 ((bcase (n2 == 0)
 Qb
 Qft) ∧
 ((Qv (vI n2)) ∧
 True))) ∧
 (bcase (dL n13 1 cs1)
 (((Says C 19 [(D.agg [D.nil, (dI n1)]), (D.agg [(Dw n13 1 cs1), (dI n14)])] kT) ∧
 ((Qb ∧
 ((bcase (n2 == 0)
 Qb
 Qft) ∧
 ((Qv (vI n2)) ∧
 True))) ∧
 (True ∧
 (k kT)))) ∨
 ((Says C 19 [(D.agg [D.nil, (dI n1)]), (D.agg [(Dw n13 1 cs1), (dI n14)])] kF) ∧
 ((Qf ∧
 ((bcase (n2 == 0)
 Qb
 Qft) ∧
 ((Qv (vI n2)) ∧
 True))) ∧
 (True ∧
 (k kF)))))
 False)))))))
 False))
 ((Qu ∧
 (Qu ∧
 (Qu ∧
 (Qu ∧
 (Qf ∧
 ((bcase (n2 == 0)
 Qtf
 Qf) ∧
 ((Qv (vI n2)) ∧
 True))))))) ∧
 ((Qu ∧
 ((bcase (n2 == 0)
 Qtf
 Qf) ∧
 ((Qv (vI n2)) ∧
 True))) ∧
 ((Qf ∧
 ((bcase (n2 == 0)
 Qtf
 Qf) ∧
 ((Qv (vI n2)) ∧
 True))) ∧
 (True ∧
 (k kF)))))))))))
 False)))))))
 False)))))
 False))))
 False)))
 False)))))))))))))))
 False))
 False))))))) ∨
 (∃ n1 : Nat,
 (∃ cs1 : List Go.Value,
 (∃ n2 : Int,
 (∃ n3 : Int,
 ((Says C 7 [(D.agg [(D.sl 0 2 []), (dI x1), (dI x2), (dI x3)]), (D.agg [(Dw n4 1 (Tk n4 1 l4)), (dI x5)]), (D.agg [(dI x6), (dI x7)])] [(D.agg [(D.sl (n1) 1 (cs1)), (dI n2)]), (dI n3)]) ∧
 (((Qv (vI n3)) ∧
 ((Qv (Value.agg [(Sl 1009 (n1) (n1)), (vI n2)].toArray)) ∧
 ((Qv (Value.tuple [(Value.agg [(Sl 1009 (n1) (n1)), (vI n2)].toArray), (vI n3)].toArray)) ∧
 (((Qv (Pt 1006 0)) ∧
 (Qv (some (AObj.cells [(Value.slice none 0 0), (vI 0)] 31 false 2)))) ∧
 True)))) ∧
 (((Qv (vI n3)) ∧
 True) ∧
 (True ∧
 (bcase (dL n4 1 l4)
 ((Says C 9 [(D.agg [(Dw n4 1 l4), (dI x5)])] [(D.agg [(Dw n4 1 l4), (dI x5)])]) ∧
 (bcase (dL n4 1 (Tk n4 1 l4))
 (∃ n5 : Int,
 (∃ n6 : Int,
 (∃ n7 : Int,
 ((Says C 10 [(D.agg [(Dw n4 1 (Tk n4 1 l4)), (dI x5)])] [(D.agg [(dI n5), (dI n6)]), (dI n7)]) ∧
 (((Qv (Value.agg [(Value.slice none 0 0), (vI x1), (vI x2), (vI x3)].toArray)) ∧
 ((Qv (Value.agg [(Value.slice none 0 0), (vI x1), (vI x2), (vI x3)].toArray)) ∧
 True)) ∧
 ((Says C 8 [(D.agg [D.nil, (dI x1), (dI x2), (dI x3)])] [(D.agg [(D.sl 0 2 []), (dI x1), (dI x2), (dI x3)])]) ∧
 (((Qv (Value.agg [(Value.slice none 0 0), (vI x1), (vI x2), (vI x3)].toArray)) ∧
 True) ∧
 (∃ n8 : Int,
 ((Says C 11 [(D.agg [(D.sl 0 2 []), (dI x1), (dI x2), (dI x3)])] [(dI n8)]) ∧
 (((Qv (Value.agg [(Value.slice none 0 0), (vI x1), (vI x2), (vI x3)].toArray)) ∧
 True) ∧
 (∃ n9 : Int,
 ((Says C 12 [(D.agg [D.nil, (dI x1), (dI x2), (dI x3)])] [(dI n9)]) ∧
 (bcase (n8 != n9)
 ((Qu ∧
 (Qu ∧
 (Qb ∧
 ((bcase (n8 != n9)
 Qb
 Qft) ∧
 True)))) ∧
 ((Qu ∧
 ((bcase (n8 != n9)
 Qb
 Qft) ∧
 True)) ∧
 ((Qu ∧
 ((bcase (n8 != n9)
 Qb
 Qft) ∧
 True)) ∧
 ((Qb ∧
 (Qu ∧
 ((bcase (n8 != n9)
 Qb
 Qft) ∧
 True))) ∧
 (k kF)))))
 (((Qv (Value.agg [(Sl 500 (n4) (c4)), (vI x5)].toArray)) ∧
 ((Qv (Value.agg [(Sl 500 (n4) (c4)), (vI x5)].toArray)) ∧
 (Qf ∧
 ((bcase (n8 != n9)
 Qtf
 Qf) ∧
 True)))) ∧
 (bcase (dL n4 1 l4)
 ((Says C 9 [(D.agg [(Dw n4 1 l4), (dI x5)])] [(D.agg [(Dw n4 1 l4), (dI x5)])]) ∧
 (((Qv (Value.agg [(Sl 500 (n4) (c4)), (vI x5)].toArray)) ∧
 ((bcase (n8 != n9)
 Qtf
 Qf) ∧
 True)) ∧
 (bcase (dL n4 1 (Tk n4 1 l4))
 (∃ n10 : Int,
 ((Says C 13 [(D.agg [(Dw n4 1 (Tk n4 1 l4)), (dI x5)])] [(dI n10)]) ∧
 (((Qv (Value.agg [(Sl 500 (n4) (c4)), (vI x5)].toArray)) ∧
 ((bcase (n8 != n9)
 Qtf
 Qf) ∧
 True)) ∧
 (bcase (dL n4 1 l4)
 (∃ n11 : Int,
 ((Says C 14 [(D.agg [(Dw n4 1 l4), (dI x5)])] [(dI n11)]) ∧
 (bcase (n10 != n11)
 ((Qb ∧
 ((bcase (n10 != n11)
 Qb
 Qft) ∧
 ((bcase (n8 != n9)
 Qtf
 Qf) ∧
 True))) ∧
 (k kF))
 ((Qf ∧
 ((bcase (n10 != n11)
 Qtf
 Qf) ∧
 ((bcase (n8 != n9)
 Qtf
 Qf) ∧
 True))) ∧
 (bcase (dL n4 1 l4)
 (∃ n12 : Int,
 ((Says C 14 [(D.agg [(Dw n4 1 l4), (dI x5)])] [(dI n12)]) ∧
 (bcase (n12 != 0)
 (bcase (n7 != n12)
 ((Qu ∧
 (Qu ∧
 (Qu ∧
 (Qu ∧
 (Qu ∧
 (Qu ∧
 (Qu ∧
 (Qu ∧
 (Qb ∧
 (Qb ∧
 (Qb ∧
 (Qu ∧
 (Qu ∧
 (Qu ∧
 (Qb ∧
 ((bcase (n7 != n12)
 Qb
 Qft) ∧
 ((Qv (vI n12)) ∧
 ((Qv (vI n7)) ∧
 (Qb ∧
 ((bcase (n12 != 0)
 Qb
 Qft) ∧
 ((Qv (vI n12)) ∧
 True))))))))))))))))))))) ∧
 ((Qb ∧
 (Qu ∧
 (Qu ∧
 (Qu ∧
 (Qu ∧
 (Qu ∧
 (Qu ∧
 (Qu ∧
 (Qu ∧
 (Qu ∧
 (Qb ∧
 (Qb ∧
 (Qb ∧
 (Qu ∧
 (Qu ∧
 (Qu ∧
 (Qb ∧
 ((bcase (n7 != n12)
 Qb
 Qft) ∧
 ((Qv (vI n12)) ∧
 ((Qv (vI n7)) ∧
 (Qb ∧
 ((bcase (n12 != 0)
 Qb
 Qft) ∧
 ((Qv (vI n12)) ∧
 True))))))))))))))))))))))) ∧
 (k kF)))
 (bcase (if Bool.true = Bool.true then !(n5 == 0 && (n6 == 0 && Bool.true)) else n5 == 0 && (n6 == 0 && Bool.true))
 ((Qu ∧
 (Qu ∧
 (Qu ∧
 (Qu ∧
 (Qu ∧
 (Qu ∧
 (Qu ∧
 (Qu ∧
 (Qb ∧
 (Qb ∧
 (Qb ∧
 ((bcase (if Bool.true = Bool.true then !(n5 == 0 && (n6 == 0 && Bool.true)) else n5 == 0 && (n6 == 0 && Bool.true))
 Qb
 Qft) ∧
 ((Qv (Value.agg [(vI 0), (vI 0)].toArray)) ∧
 ((Qv (Value.agg [(vI n5), (vI n6)].toArray)) ∧
 (Qf ∧
 ((bcase (n7 != n12)
 Qtf
 Qf) ∧
 ((Qv (vI n12)) ∧
 ((Qv (vI n7)) ∧
 (Qb ∧
 ((bcase (n12 != 0)
 Qb
 Qft) ∧
 ((Qv (vI n12)) ∧
 True))))))))))))))))))))) ∧
 ((Qb ∧
 (Qu ∧
 (Qu ∧
 (Qu ∧
 (Qu ∧
 (Qu ∧
 (Qu ∧
 (Qu ∧
 (Qu ∧
 (Qu ∧
 (Qb ∧
 (Qb ∧
 (Qb ∧
 ((bcase (if Bool.true = Bool.true then !(n5 == 0 && (n6 == 0 && Bool.true)) else n5 == 0 && (n6 == 0 && Bool.true))
 Qb
 Qft) ∧
 ((Qv (Value.agg [(vI 0), (vI 0)].toArray)) ∧
 ((Qv (Value.agg [(vI n5), (vI n6)].toArray)) ∧
 (Qf ∧
 ((bcase (n7 != n12)
 Qtf
 Qf) ∧
 ((Qv (vI n12)) ∧
 ((Qv (vI n7)) ∧
 (Qb ∧
 ((bcase (n12 != 0)
 Qb
 Qft) ∧
 ((Qv (vI n12)) ∧
 True))))))))))))))))))))))) ∧
 (k kF)))
 (bcase (n12 == 0)
 (bcase (n7 != 0)
 ((Qu ∧
 (Qu ∧
 (Qb ∧
 ((bcase (n7 != 0)
 Qb
 Qft) ∧
 ((Qv (vI n7)) ∧
 (Qb ∧
 ((bcase (n12 == 0)
 Qb
 Qft) ∧
 ((Qv (vI n12)) ∧
 (Qf ∧
 (Qf ∧
 (Qf ∧
 ((bcase (if Bool.true = Bool.true then !(n5 == 0 && (n6 == 0 && Bool.true)) else n5 == 0 && (n6 == 0 && Bool.true))
 Qtf
 Qf) ∧
 ((Qv (Value.agg [(vI 0), (vI 0)].toArray)) ∧
 ((Qv (Value.agg [(vI n5), (vI n6)].toArray)) ∧
 (Qf ∧
 ((bcase (n7 != n12)
 Qtf
 Qf) ∧
 ((Qv (vI n12)) ∧
 ((Qv (vI n7)) ∧
 (Qb ∧
 ((bcase (n12 != 0)
 Qb
 Qft) ∧
 ((Qv (vI n12)) ∧
 True))))))))))))))))))))) ∧
 ((Qb ∧
 (Qb ∧
 (Qb ∧
 (Qu ∧
 (Qu ∧
 ((bcase (n7 != 0)
 Qb
 Qft) ∧
 ((Qv (vI n7)) ∧
 (Qb ∧
 ((bcase (n12 == 0)
 Qb
 Qft) ∧
 ((Qv (vI n12)) ∧
 (Qf ∧
 (Qf ∧
 (Qf ∧
 ((bcase (if Bool.true = Bool.true then !(n5 == 0 && (n6 == 0 && Bool.true)) else n5 == 0 && (n6 == 0 && Bool.true))
 Qtf
 Qf) ∧
 ((Qv (Value.agg [(vI 0), (vI 0)].toArray)) ∧
 ((Qv (Value.agg [(vI n5), (vI n6)].toArray)) ∧
 (Qf ∧
 ((bcase (n7 != n12)
 Qtf
 Qf) ∧
 ((Qv (vI n12)) ∧
 ((Qv (vI n7)) ∧
 (Qb ∧
 ((bcase (n12 != 0)
 Qb
 Qft) ∧
 ((Qv (vI n12)) ∧
 True))))))))))))))))))))))) ∧
 (k kF)))
 (((Qv (Value.agg [(Sl 500 (n4) (c4)), (vI x5)].toArray)) ∧
 ((Qv (Value.agg [(vI n5), (vI n6)].toArray)) ∧
 (Qf ∧
 ((bcase (n7 != 0)
 Qtf
 Qf) ∧
 ((Qv (vI n7)) ∧
 (Qb ∧
 ((bcase (n12 == 0)
 Qb
 Qft) ∧
 ((Qv (vI n12)) ∧
 (Qf ∧
 (Qf ∧
 (Qf ∧
 ((bcase (if Bool.true = Bool.true then !(n5 == 0 && (n6 == 0 && Bool.true)) else n5 == 0 && (n6 == 0 && Bool.true))
 Qtf
 Qf) ∧
 ((Qv (Value.agg [(vI 0), (vI 0)].toArray)) ∧
 ((Qv (Value.agg [(vI n5), (vI n6)].toArray)) ∧
 (Qf ∧
 ((bcase (n7 != n12)
 Qtf
 Qf) ∧
 ((Qv (vI n12)) ∧
 ((Qv (vI n7)) ∧
 (Qb ∧
 ((bcase (n12 != 0)
 Qb
 Qft) ∧
 ((Qv (vI n12)) ∧
 True))))))))))))))))))))) ∧
 (bcase (dL n4 1 l4)
 (∃ n13 : Int,
 (∃ n14 : Int,
 ((Says C 15 [(D.agg [(Dw n4 1 l4), (dI x5)])] [(D.agg [(dI n13), (dI n14)])]) ∧
 (bcase (if Bool.true = Bool.true then !(n5 == n13 && (n6 == n14 && Bool.true)) else n5 == n13 && (n6 == n14 && Bool.true))
 ((Qb ∧
 (Qb ∧
 (Qb ∧
 ((bcase (if Bool.true = Bool.true then !(n5 == n13 && (n6 == n14 && Bool.true)) else n5 == n13 && (n6 == n14 && Bool.true))
 Qb
 Qft) ∧
 ((Qv (Value.agg [(vI n5), (vI n6)].toArray)) ∧
 ((bcase (n7 != 0)
 Qtf
 Qf) ∧
 ((Qv (vI n7)) ∧
 (Qb ∧
 ((bcase (n12 == 0)
 Qb
 Qft) ∧
 ((Qv (vI n12)) ∧
 (Qf ∧
 (Qf ∧
 (Qf ∧
 ((bcase (if Bool.true = Bool.true then !(n5 == 0 && (n6 == 0 && Bool.true)) else n5 == 0 && (n6 == 0 && Bool.true))
 Qtf
 Qf) ∧
 ((Qv (Value.agg [(vI 0), (vI 0)].toArray)) ∧
 ((Qv (Value.agg [(vI n5), (vI n6)].toArray)) ∧
 (Qf ∧
 ((bcase (n7 != n12)
 Qtf
 Qf) ∧
 ((Qv (vI n12)) ∧
 ((Qv (vI n7)) ∧
 (Qb ∧
 ((bcase (n12 != 0)
 Qb
 Qft) ∧
 ((Qv (vI n12)) ∧
 True))))))))))))))))))))))) ∧
 (k kF))
 ((Qf ∧
 (Qf ∧
 (Qf ∧
 ((bcase (if Bool.true = Bool.true then !(n5 == n13 && (n6 == n14 && Bool.true)) else n5 == n13 && (n6 == n14 && Bool.true))
 Qtf
 Qf) ∧
 ((Qv (Value.agg [(vI n5), (vI n6)].toArray)) ∧
 ((bcase (n7 != 0)
 Qtf
 Qf) ∧
 ((Qv (vI n7)) ∧
 (Qb ∧
 ((bcase (n12 == 0)
 Qb
 Qft) ∧
 ((Qv (vI n12)) ∧
 (Qf ∧
 (Qf ∧
 (Qf ∧
 ((bcase (if Bool.true = Bool.true then !(n5 == 0 && (n6 == 0 && Bool.true)) else n5 == 0 && (n6 == 0 && Bool.true))
 Qtf
 Qf) ∧
 ((Qv (Value.agg [(vI 0), (vI 0)].toArray)) ∧
 ((Qv (Value.agg [(vI n5), (vI n6)].toArray)) ∧
 (Qf ∧
 ((bcase (n7 != n12)
 Qtf
 Qf) ∧
 ((Qv (vI n12)) ∧
 ((Qv (vI n7)) ∧
 (Qb ∧
 ((bcase (n12 != 0)
 Qb
 Qft) ∧
 ((Qv (vI n12)) ∧
 True))))))))))))))))))))))) ∧
 (bcase (dL n4 1 l4)
 (∃ n15 : Int,
 ((Says C 16 [(D.agg [D.nil, (dI x1), (dI x2), (dI x3)]), (D.agg [(Dw n4 1 l4), (dI x5)])] [(dI n15)]) ∧
 (bcase (n15 == 0)
 (∃ n16 : Int,
 ((Says C 17 [(dI x6)] [(dI n16)]) ∧
 (bcase (n16 == 0)
 (∃ n17 : Int,
 ((Says C 18 [(dI x7)] [(dI n17)]) ∧
 (bcase (n17 != 0)
 (bcase (n3 == n17)
 (bcase (dL n1 1 cs1)
 (((Says C 19 [(D.agg [(Dw n1 1 cs1), (dI n2)]), (D.agg [D.nil, (dI 0)])] kT) ∧
 (k kT)) ∨
 ((Says C 19 [(D.agg [(Dw n1 1 cs1), (dI n2)]), (D.agg [D.nil, (dI 0)])] kF) ∧
 (k kF)))
 False)
 (k kF))
 (bcase (n3 == 0)
 (((Qv (Value.agg [(vI x6), (vI x7)].toArray)) ∧
 ((Qv (Value.agg [(Sl 500 (n4) (c4)), (vI x5)].toArray)) ∧
 ((Qv (Value.agg [(Value.slice none 0 0), (vI x1), (vI x2), (vI x3)].toArray)) ∧
 ((Qv (Value.agg [(Sl 1009 (n1) (n1)), (vI n2)].toArray)) ∧
 (Qb ∧
 ((bcase (n3 == 0)
 Qb
 Qft) ∧
 ((Qv (vI n3)) ∧
 True))))))) ∧
 (bcase (dL n4 1 l4)
 ((∃ n18 : Int,
 ((Says C 20 [(D.agg [D.nil, (dI x1), (dI x2), (dI x3)]), (D.agg [(Dw n4 1 l4), (dI x5)]), (D.agg [(dI x6), (dI x7)])] [(D.agg [D.nil, (dI n18)])]) ∧
 (((Qv (Value.agg [(Sl 1009 (n1) (n1)), (vI n2)].toArray)) ∧
 ((bcase (n3 == 0)
 Qb
 Qft) ∧
 ((Qv (vI n3)) ∧
 True))) ∧
 (bcase (dL n1 1 cs1)
 (((Says C 19 [(D.agg [(Dw n1 1 cs1), (dI n2)]), (D.agg [D.nil, (dI n18)])] kT) ∧
 ((Qb ∧
 ((bcase (n3 == 0)
 Qb
 Qft) ∧
 ((Qv (vI n3)) ∧
 True))) ∧
 (True ∧
 (k kT)))) ∨
 ((Says C 19 [(D.agg [(Dw n1 1 cs1), (dI n2)]), (D.agg [D.nil, (dI n18)])] kF) ∧
 ((Qf ∧
 ((bcase (n3 == 0)
 Qb
 Qft) ∧
 ((Qv (vI n3)) ∧
 True))) ∧
 (True ∧
 (k kF)))))
 False)))) ∨
 (∃ n18 : Nat,
 (∃ cs2 : List Go.Value,
 (∃ n19 : Int,
 ((Says C 20 [(D.agg [D.nil, (dI x1), (dI x2), (dI x3)]), (D.agg [(Dw n4 1 l4), (dI x5)]), (D.agg [(dI x6), (dI x7)])] [(D.agg [(D.sl (n18) 1 (cs2)), (dI n19)])]) ∧
 (((Qv (Value.agg [(Sl 1009 (n1) (n1)), (vI n2)].toArray)) ∧
 ((bcase (n3 == 0)
 Qb
 Qft) ∧
 ((Qv (vI n3)) ∧
 True))) ∧
 (bcase (dL n1 1 cs1)
 (bcase (dL n18 1 cs2)
 (((Says C 19 [(D.agg [(Dw n1 1 cs1), (dI n2)]), (D.agg [(Dw n18 1 cs2), (dI n19)])] kT) ∧
 ((Qb ∧
 ((bcase (n3 == 0)
 Qb
 Qft) ∧
 ((Qv (vI n3)) ∧
 True))) ∧
 (True ∧
 (k kT)))) ∨
 ((Says C 19 [(D.agg [(Dw n1 1 cs1), (dI n2)]), (D.agg [(Dw n18 1 cs2), (dI n19)])] kF) ∧
 ((Qf ∧
 ((bcase (n3 == 0)
 Qb
 Qft) ∧
 ((Qv (vI n3)) ∧
 True))) ∧
 (True ∧
 (k kF)))))
 False)
 False)))))))
 False))
 ((Qu ∧
 (Qu ∧
 (Qu ∧
 (Qu ∧
 (Qf ∧
 ((bcase (n3 == 0)
 Qtf
 Qf) ∧
 ((Qv (vI n3)) ∧
 True))))))) ∧
 ((Qu ∧
 ((bcase (n3 == 0)
 Qtf
 Qf) ∧
 ((Qv (vI n3)) ∧
 True))) ∧
 ((Qf ∧
 ((bcase (n3 == 0)
 Qtf
 Qf) ∧
 ((Qv (vI n3)) ∧
 True))) ∧
 (True ∧
 (k kF)))))))))
 (bcase (n16 != 0)
 (bcase (n3 == n16)
 (bcase (dL n1 1 cs1)
 (((Says C 19 [(D.agg [(Dw n1 1 cs1), (dI n2)]), (D.agg [D.nil, (dI 0)])] kT) ∧
 (k kT)) ∨
 ((Says C 19 [(D.agg [(Dw n1 1 cs1), (dI n2)]), (D.agg [D.nil, (dI 0)])] kF) ∧
 (k kF)))
 False)
 (k kF))
 (bcase (n3 == 0)
 (((Qv (Value.agg [(vI x6), (vI x7)].toArray)) ∧
 ((Qv (Value.agg [(Sl 500 (n4) (c4)), (vI x5)].toArray)) ∧
 ((Qv (Value.agg [(Value.slice none 0 0), (vI x1), (vI x2), (vI x3)].toArray)) ∧
 ((Qv (Value.agg [(Sl 1009 (n1) (n1)), (vI n2)].toArray)) ∧
 (Qb ∧
 ((bcase (n3 == 0)
 Qb
 Qft) ∧
 ((Qv (vI n3)) ∧
 True))))))) ∧
 (bcase (dL n4 1 l4)
 ((∃ n17 : Int,
 ((Says C 20 [(D.agg [D.nil, (dI x1), (dI x2), (dI x3)]), (D.agg [(Dw n4 1 l4), (dI x5)]), (D.agg [(dI x6), (dI x7)])] [(D.agg [D.nil, (dI n17)])]) ∧
 (((Qv (Value.agg [(Sl 1009 (n1) (n1)), (vI n2)].toArray)) ∧
 ((bcase (n3 == 0)
 Qb
 Qft) ∧
 ((Qv (vI n3)) ∧
 True))) ∧
 (bcase (dL n1 1 cs1)
 (((Says C 19 [(D.agg [(Dw n1 1 cs1), (dI n2)]), (D.agg [D.nil, (dI n17)])] kT) ∧
 ((Qb ∧
 ((bcase (n3 == 0)
 Qb
 Qft) ∧
 ((Qv (vI n3)) ∧
 True))) ∧
 (True ∧
 (k kT)))) ∨
 ((Says C 19 [(D.agg [(Dw n1 1 cs1), (dI n2)]), (D.agg [D.nil, (dI n17)])] kF) ∧
 ((Qf ∧
 ((bcase (n3 == 0)
 Qb
 Qft) ∧
 ((Qv (vI n3)) ∧
 True))) ∧
 (True ∧
 (k kF)))))
 False)))) ∨
 (∃ n17 : Nat,
 (∃ cs2 : List Go.Value,
 (∃ n18 : Int,
 ((Says C 20 [(D.agg [D.nil, (dI x1), (dI x2), (dI x3)]), (D.agg [(Dw n4 1 l4), (dI x5)]), (D.agg [(dI x6), (dI x7)])] [(D.agg [(D.sl (n17) 1 (cs2)), (dI n18)])]) ∧
 (((Qv (Value.agg [(Sl 1009 (n1) (n1)), (vI n2)].toArray)) ∧
 ((bcase (n3 == 0)
 Qb
 Qft) ∧
 ((Qv (vI n3)) ∧
 True))) ∧
 (bcase (dL n1 1 cs1)
 (bcase (dL n17 1 cs2)
 (((Says C 19 [(D.agg [(Dw n1 1 cs1), (dI n2)]), (D.agg [(Dw n17 1 cs2), (dI n18)])] kT) ∧
 ((Qb ∧
 ((bcase (n3 == 0)
 Qb
 Qft) ∧
 ((Qv (vI n3)) ∧
 True))) ∧
 (True ∧
 (k kT)))) ∨
 ((Says C 19 [(D.agg [(Dw n1 1 cs1), (dI n2)]), (D.agg [(Dw n17 1 cs2), (dI n18)])] kF) ∧
 ((Qf ∧
 ((bcase (n3 == 0)
 Qb
 Qft) ∧
 ((Qv (vI n3)) ∧
 True))) ∧
 (True ∧
 (k kF)))))
 False)
 False)))))))
 False))
 ((Qu ∧
 (Qu ∧
 (Qu ∧
 (Qu ∧
 (Qf ∧
 ((bcase (n3 == 0)
 Qtf
 Qf) ∧
 ((Qv (vI n3)) ∧
 True))))))) ∧
 ((Qu ∧
 ((bcase (n3 == 0)
 Qtf
 Qf) ∧
 ((Qv (vI n3)) ∧
 True))) ∧
 ((Qf ∧
 ((bcase (n3 == 0)
 Qtf
 Qf) ∧
 ((Qv (vI n3)) ∧
 True))) ∧
 (True ∧
 (k kF))))))))))
 (bcase (n15 == 0)
 (∃ n16 : Int,
 ((Says C 18 [(dI x7)] [(dI n16)]) ∧
 (bcase (n16 != 0)
 (bcase (n3 == n16)
 (bcase (dL n1 1 cs1)
 (((Says C 19 [(D.agg [(Dw n1 1 cs1), (dI n2)]), (D.agg [D.nil, (dI 0)])] kT) ∧
 (k kT)) ∨
 ((Says C 19 [(D.agg [(Dw n1 1 cs1), (dI n2)]), (D.agg [D.nil, (dI 0)])] kF) ∧
 (k kF)))
 False)
 (k kF))
 (bcase (n3 == 0)
 (((Qv (Value.agg [(vI x6), (vI x7)].toArray)) ∧
 ((Qv (Value.agg [(Sl 500 (n4) (c4)), (vI x5)].toArray)) ∧
 ((Qv (Value.agg [(Value.slice none 0 0), (vI x1), (vI x2), (vI x3)].toArray)) ∧
 ((Qv (Value.agg [(Sl 1009 (n1) (n1)), (vI n2)].toArray)) ∧
 (Qb ∧
 ((bcase (n3 == 0)
 Qb
 Qft) ∧
 ((Qv (vI n3)) ∧
 True))))))) ∧
 (bcase (dL n4 1 l4)
 ((∃ n17 : Int,
 ((Says C 20 [(D.agg [D.nil, (dI x1), (dI x2), (dI x3)]), (D.agg [(Dw n4 1 l4), (dI x5)]), (D.agg [(dI x6), (dI x7)])] [(D.agg [D.nil, (dI n17)])]) ∧
 (((Qv (Value.agg [(Sl 1009 (n1) (n1)), (vI n2)].toArray)) ∧
 ((bcase (n3 == 0)
 Qb
 Qft) ∧
 ((Qv (vI n3)) ∧
 True))) ∧
 (bcase (dL n1 1 cs1)
 (((Says C 19 [(D.agg [(Dw n1 1 cs1), (dI n2)]), (D.agg [D.nil, (dI n17)])] kT) ∧
 ((Qb ∧
 ((bcase (n3 == 0)
 Qb
 Qft) ∧
 ((Qv (vI n3)) ∧
 True))) ∧
 (True ∧
 (k kT)))) ∨
 ((Says C 19 [(D.agg [(Dw n1 1 cs1), (dI n2)]), (D.agg [D.nil, (dI n17)])] kF) ∧
 ((Qf ∧
 ((bcase (n3 == 0)
 Qb
 Qft) ∧
 ((Qv (vI n3)) ∧
 True))) ∧
 (True ∧
 (k kF)))))
 False)))) ∨
 (∃ n17 : Nat,
 (∃ cs2 : List Go.Value,
 (∃ n18 : Int,
 ((Says C 20 [(D.agg [D.nil, (dI x1), (dI x2), (dI x3)]), (D.agg [(Dw n4 1 l4), (dI x5)]), (D.agg [(dI x6), (dI x7)])] [(D.agg [(D.sl (n17) 1 (cs2)), (dI n18)])]) ∧
 (((Qv (Value.agg [(Sl 1009 (n1) (n1)), (vI n2)].toArray)) ∧
 ((bcase (n3 == 0)
 Qb
 Qft) ∧
 ((Qv (vI n3)) ∧
 True))) ∧
 (bcase (dL n1 1 cs1)
 (bcase (dL n17 1 cs2)
 (((Says C 19 [(D.agg [(Dw n1 1 cs1), (dI n2)]), (D.agg [(Dw n17 1 cs2), (dI n18)])] kT) ∧
 ((Qb ∧
 ((bcase (n3 == 0)
 Qb
 Qft) ∧
 ((Qv (vI n3)) ∧
 True))) ∧
 (True ∧
 (k kT)))) ∨
 ((Says C 19 [(D.agg [(Dw n1 1 cs1), (dI n2)]), (D.agg [(Dw n17 1 cs2), (dI n18)])] kF) ∧
 ((Qf ∧
 ((bcase (n3 == 0)
 Qb
 Qft) ∧
 ((Qv (vI n3)) ∧
 True))) ∧
 (True ∧
 (k kF)))))
 False)
 False)))))))
 False))
 ((Qu ∧
 (Qu ∧
 (Qu ∧
 (Qu ∧
 (Qf ∧
 ((bcase (n3 == 0)
 Qtf
 Qf) ∧
 ((Qv (vI n3)) ∧
 True))))))) ∧
 ((Qu ∧
 ((bcase (n3 == 0)
 Qtf
 Qf) ∧
 ((Qv (vI n3)) ∧
 True))) ∧
 ((Qf ∧
 ((bcase (n3 == 0)
 Qtf
 Qf) ∧
 ((Qv (vI n3)) ∧
 True))) ∧
 (True ∧
 (k kF)))))))))
 (bcase (n15 != 0)
 (bcase (n3 == n15)
 (bcase (dL n1 1 cs1)
 (((Says C 19 [(D.agg [(Dw n1 1 cs1), (dI n2)]), (D.agg [D.nil, (dI 0)])] kT) ∧
 (k kT)) ∨
 ((Says C 19 [(D.agg [(Dw n1 1 cs1), (dI n2)]), (D.agg [D.nil, (dI 0)])] kF) ∧
 (k kF)))
 False)
 (k kF))
 (bcase (n3 == 0)
 (((Qv (Value.agg [(vI x6), (vI x7)].toArray)) ∧
 ((Qv (Value.agg [(Sl 500 (n4) (c4)), (vI x5)].toArray)) ∧
 ((Qv (Value.agg [(Value.slice none 0 0), (vI x1), (vI x2), (vI x3)].toArray)) ∧
 ((Qv (Value.agg [(Sl 1009 (n1) (n1)), (vI n2)].toArray)) ∧
 (Qb ∧
 ((bcase (n3 == 0)
 Qb
 Qft) ∧
 ((Qv (vI n3)) ∧
 True))))))) ∧
 (bcase (dL n4 1 l4)
 ((∃ n16 : Int,
 ((Says C 20 [(D.agg [D.nil, (dI x1), (dI x2), (dI x3)]), (D.agg [(Dw n4 1 l4), (dI x5)]), (D.agg [(dI x6), (dI x7)])] [(D.agg [D.nil, (dI n16)])]) ∧
 (((Qv (Value.agg [(Sl 1009 (n1) (n1)), (vI n2)].toArray)) ∧
 ((bcase (n3 == 0)
 Qb
 Qft) ∧
 ((Qv (vI n3)) ∧
 True))) ∧
 (bcase (dL n1 1 cs1)
 (((Says C 19 [(D.agg [(Dw n1 1 cs1), (dI n2)]), (D.agg [D.nil, (dI n16)])] kT) ∧
 ((Qb ∧
 ((bcase (n3 == 0)
 Qb
 Qft) ∧
 ((Qv (vI n3)) ∧
 True))) ∧
 (True ∧
 (k kT)))) ∨
 ((Says C 19 [(D.agg [(Dw n1 1 cs1), (dI n2)]), (D.agg [D.nil, (dI n16)])] kF) ∧
 ((Qf ∧
 ((bcase (n3 == 0)
 Qb
 Qft) ∧
 ((Qv (vI n3)) ∧
 True))) ∧
 (True ∧
 (k kF)))))
 False)))) ∨
 (∃ n16 : Nat,
 (∃ cs2 : List Go.Value,
 (∃ n17 : Int,
 ((Says C 20 [(D.agg [D.nil, (dI x1), (dI x2), (dI x3)]), (D.agg [(Dw n4 1 l4), (dI x5)]), (D.agg [(dI x6), (dI x7)])] [(D.agg [(D.sl (n16) 1 (cs2)), (dI n17)])]) ∧
 (((Qv (Value.agg [(Sl 1009 (n1) (n1)), (vI n2)].toArray)) ∧
 ((bcase (n3 == 0)
 Qb
 Qft) ∧
 ((Qv (vI n3)) ∧
 True))) ∧
 (bcase (dL n1 1 cs1)
 (bcase (dL n16 1 cs2)
 (((Says C 19 [(D.agg [(Dw n1 1 cs1), (dI n2)]), (D.agg [(Dw n16 1 cs2), (dI n17)])] kT) ∧
 ((Qb ∧
 ((bcase (n3 == 0)
 Qb
 Qft) ∧
 ((Qv (vI n3)) ∧
 True))) ∧
 (True ∧
 (k kT)))) ∨
 ((Says C 19 [(D.agg [(Dw n1 1 cs1), (dI n2)]), (D.agg [(Dw n16 1 cs2), (dI n17)])] kF) ∧
 ((Qf ∧
 ((bcase (n3 == 0)
 Qb
 Qft) ∧
 ((Qv (vI n3)) ∧
 True))) ∧
 (True ∧
 (k kF)))))
 False)
 False)))))))
 False))
 ((Qu ∧
 (Qu ∧
 (Qu ∧
 (Qu ∧
 (Qf ∧
 ((bcase (n3 == 0)
 Qtf
 Qf) ∧
 ((Qv (vI n3)) ∧
 True))))))) ∧
 ((Qu ∧
 ((bcase (n3 == 0)
 Qtf
 Qf) ∧
 ((Qv (vI n3)) ∧
 True))) ∧
 ((Qf ∧
 ((bcase (n3 == 0)
 Qtf
 Qf) ∧
 ((Qv (vI n3)) ∧
 True))) ∧
 (True ∧
 (k kF)))))))))))
 False))))))
 False)))
 ((Qu ∧
 (Qu ∧
 (Qu ∧
 (Qu ∧
 (Qu ∧
 (Qf ∧
 ((bcase (n12 == 0)
 Qtf
 Qf) ∧
 ((Qv (vI n12)) ∧
 (Qf ∧
 (Qf ∧
 (Qf ∧
 ((bcase (if Bool.true = Bool.true then !(n5 == 0 && (n6 == 0 && Bool.true)) else n5 == 0 && (n6 == 0 && Bool.true))
 Qtf
 Qf) ∧
 ((Qv (Value.agg [(vI 0), (vI 0)].toArray)) ∧
 ((Qv (Value.agg [(vI n5), (vI n6)].toArray)) ∧
 (Qf ∧
 ((bcase (n7 != n12)
 Qtf
 Qf) ∧
 ((Qv (vI n12)) ∧
 ((Qv (vI n7)) ∧
 (Qb ∧
 ((bcase (n12 != 0)
 Qb
 Qft) ∧
 ((Qv (vI n12)) ∧
 True))))))))))))))))))))) ∧
 ((Qf ∧
 (Qf ∧
 (Qu ∧
 (Qu ∧
 (Qu ∧
 (Qu ∧
 (Qu ∧
 (Qf ∧
 ((bcase (n12 == 0)
 Qtf
 Qf) ∧
 ((Qv (vI n12)) ∧
 (Qf ∧
 (Qf ∧
 (Qf ∧
 ((bcase (if Bool.true = Bool.true then !(n5 == 0 && (n6 == 0 && Bool.true)) else n5 == 0 && (n6 == 0 && Bool.true))
 Qtf
 Qf) ∧
 ((Qv (Value.agg [(vI 0), (vI 0)].toArray)) ∧
 ((Qv (Value.agg [(vI n5), (vI n6)].toArray)) ∧
 (Qf ∧
 ((bcase (n7 != n12)
 Qtf
 Qf) ∧
 ((Qv (vI n12)) ∧
 ((Qv (vI n7)) ∧
 (Qb ∧
 ((bcase (n12 != 0)
 Qb
 Qft) ∧
 ((Qv (vI n12)) ∧
 True))))))))))))))))))))))) ∧
 (bcase (dL n4 1 l4)
 (∃ n13 : Int,
 ((Says C 16 [(D.agg [D.nil, (dI x1), (dI x2), (dI x3)]), (D.agg [(Dw n4 1 l4), (dI x5)])] [(dI n13)]) ∧
 (bcase (n13 == 0)
 (∃ n14 : Int,
 ((Says C 17 [(dI x6)] [(dI n14)]) ∧
 (bcase (n14 == 0)
 (∃ n15 : Int,
 ((Says C 18 [(dI x7)] [(dI n15)]) ∧
 (bcase (n15 != 0)
 (bcase (n3 == n15)
 (bcase (dL n1 1 cs1)
 (((Says C 19 [(D.agg [(Dw n1 1 cs1), (dI n2)]), (D.agg [D.nil, (dI 0)])] kT) ∧
 (k kT)) ∨
 ((Says C 19 [(D.agg [(Dw n1 1 cs1), (dI n2)]), (D.agg [D.nil, (dI 0)])] kF) ∧
 (k kF)))
 False)
 (k kF))
 (bcase (n3 == 0)
 (((Qv (Value.agg [(vI x6), (vI x7)].toArray)) ∧
 ((Qv (Value.agg [(Sl 500 (n4) (c4)), (vI x5)].toArray)) ∧
 ((Qv (Value.agg [(Value.slice none 0 0), (vI x1), (vI x2), (vI x3)].toArray)) ∧
 ((Qv (Value.agg [(Sl 1009 (n1) (n1)), (vI n2)].toArray)) ∧
 (Qb ∧
 ((bcase (n3 == 0)
 Qb
 Qft) ∧
 ((Qv (vI n3)) ∧
 True))))))) ∧
 (bcase (dL n4 1 l4)
 ((∃ n16 : Int,
 ((Says C 20 [(D.agg [D.nil, (dI x1), (dI x2), (dI x3)]), (D.agg [(Dw n4 1 l4), (dI x5)]), (D.agg [(dI x6), (dI x7)])] [(D.agg [D.nil, (dI n16)])]) ∧
 (((Qv (Value.agg [(Sl 1009 (n1) (n1)), (vI n2)].toArray)) ∧
 ((bcase (n3 == 0)
 Qb
 Qft) ∧
 ((Qv (vI n3)) ∧
 True))) ∧
 (bcase (dL n1 1 cs1)
 (((Says C 19 [(D.agg [(Dw n1 1 cs1), (dI n2)]), (D.agg [D.nil, (dI n16)])] kT) ∧
 ((Qb ∧
 ((bcase (n3 == 0)
 Qb
 Qft) ∧
 ((Qv (vI n3)) ∧
 True))) ∧
 (True ∧
 (k kT)))) ∨
 ((Says C 19 [(D.agg [(Dw n1 1 cs1), (dI n2)]), (D.agg [D.nil, (dI n16)])] kF) ∧
 ((Qf ∧
 ((bcase (n3 == 0)
 Qb
 Qft) ∧
 ((Qv (vI n3)) ∧
 True))) ∧
 (True ∧
 (k kF)))))
 False)))) ∨
 (∃ n16 : Nat,
 (∃ cs2 : List Go.Value,
 (∃ n17 : Int,
 ((Says C 20 [(D.agg [D.nil, (dI x1), (dI x2), (dI x3)]), (D.agg [(Dw n4 1 l4), (dI x5)]), (D.agg [(dI x6), (dI x7)])] [(D.agg [(D.sl (n16) 1 (cs2)), (dI n17)])]) ∧
 (((Qv (Value.agg [(Sl 1009 (n1) (n1)), (vI n2)].toArray)) ∧
 ((bcase (n3 == 0)
 Qb
 Qft) ∧
 ((Qv (vI n3)) ∧
 True))) ∧
 (bcase (dL n1 1 cs1)
 (bcase (dL n16 1 cs2)
 (((Says C 19 [(D.agg [(Dw n1 1 cs1), (dI n2)]), (D.agg [(Dw n16 1 cs2), (dI n17)])] kT) ∧
 ((Qb ∧
 ((bcase (n3 == 0)
 Qb
 Qft) ∧
 ((Qv (vI n3)) ∧
 True))) ∧
 (True ∧
 (k kT)))) ∨
 ((Says C 19 [(D.agg [(Dw n1 1 cs1), (dI n2)]), (D.agg [(Dw n16 1 cs2), (dI n17)])] kF) ∧
 ((Qf ∧
 ((bcase (n3 == 0)
 Qb
 Qft) ∧
 ((Qv (vI n3)) ∧
 True))) ∧
 (True ∧
 (k kF)))))
 False)
 False)))))))
 False))
 ((Qu ∧
 (Qu ∧
 (Qu ∧
 (Qu ∧
 (Qf ∧
 ((bcase (n3 == 0)
 Qtf
 Qf) ∧
 ((Qv (vI n3)) ∧
 True))))))) ∧
 ((Qu ∧
 ((bcase (n3 == 0)
 Qtf
 Qf) ∧
 ((Qv (vI n3)) ∧
 True))) ∧
 ((Qf ∧
 ((bcase (n3 == 0)
 Qtf
 Qf) ∧
 ((Qv (vI n3)) ∧
 True))) ∧
 (True ∧
 (k kF)))))))))
 (bcase (n14 != 0)
 (bcase (n3 == n14)
 (bcase (dL n1 1 cs1)
 (((Says C 19 [(D.agg [(Dw n1 1 cs1), (dI n2)]), (D.agg [D.nil, (dI 0)])] kT) ∧
 (k kT)) ∨
 ((Says C 19 [(D.agg [(Dw n1 1 cs1), (dI n2)]), (D.agg [D.nil, (dI 0)])] kF) ∧
 (k kF)))
 False)
 (k kF))
 (bcase (n3 == 0)
 (((Qv (Value.agg [(vI x6), (vI x7)].toArray)) ∧
 ((Qv (Value.agg [(Sl 500 (n4) (c4)), (vI x5)].toArray)) ∧
 ((Qv (Value.agg [(Value.slice none 0 0), (vI x1), (vI x2), (vI x3)].toArray)) ∧
 ((Qv (Value.agg [(Sl 1009 (n1) (n1)), (vI n2)].toArray)) ∧
 (Qb ∧
 ((bcase (n3 == 0)
 Qb
 Qft) ∧
 ((Qv (vI n3)) ∧
 True))))))) ∧
 (bcase (dL n4 1 l4)
 ((∃ n15 : Int,
 ((Says C 20 [(D.agg [D.nil, (dI x1), (dI x2), (dI x3)]), (D.agg [(Dw n4 1 l4), (dI x5)]), (D.agg [(dI x6), (dI x7)])] [(D.agg [D.nil, (dI n15)])]) ∧
 (((Qv (Value.agg [(Sl 1009 (n1) (n1)), (vI n2)].toArray)) ∧
 ((bcase (n3 == 0)
 Qb
 Qft) ∧
 ((Qv (vI n3)) ∧
 True))) ∧
 (bcase (dL n1 1 cs1)
 (((Says C 19 [(D.agg [(Dw n1 1 cs1), (dI n2)]), (D.agg [D.nil, (dI n15)])] kT) ∧
 ((Qb ∧
 ((bcase (n3 == 0)
 Qb
 Qft) ∧
 ((Qv (vI n3)) ∧
 True))) ∧
 (True ∧
 (k kT)))) ∨
 ((Says C 19 [(D.agg [(Dw n1 1 cs1), (dI n2)]), (D.agg [D.nil, (dI n15)])] kF) ∧
 ((Qf ∧
 ((bcase (n3 == 0)
 Qb
 Qft) ∧
 ((Qv (vI n3)) ∧
 True))) ∧
 (True ∧
 (k kF)))))
 False)))) ∨
 (∃ n15 : Nat,
 (∃ cs2 : List Go.Value,
 (∃ n16 : Int,
 ((Says C 20 [(D.agg [D.nil, (dI x1), (dI x2), (dI x3)]), (D.agg [(Dw n4 1 l4), (dI x5)]), (D.agg [(dI x6), (dI x7)])] [(D.agg [(D.sl (n15) 1 (cs2)), (dI n16)])]) ∧
 (((Qv (Value.agg [(Sl 1009 (n1) (n1)), (vI n2)].toArray)) ∧
 ((bcase (n3 == 0)
 Qb
 Qft) ∧
 ((Qv (vI n3)) ∧
 True))) ∧
 (bcase (dL n1 1 cs1)
 (bcase (dL n15 1 cs2)
 (((Says C 19 [(D.agg [(Dw n1 1 cs1), (dI n2)]), (D.agg [(Dw n15 1 cs2), (dI n16)])] kT) ∧
 ((Qb ∧
 ((bcase (n3 == 0)
 Qb
 Qft) ∧
 ((Qv (vI n3)) ∧
 True))) ∧
 (True ∧
 (k kT)))) ∨
 ((Says C 19 [(D.agg [(Dw n1 1 cs1), (dI n2)]), (D.agg [(Dw n15 1 cs2), (dI n16)])] kF) ∧
 ((Qf ∧
 ((bcase (n3 == 0)
 Qb
 Qft) ∧
 ((Qv (vI n3)) ∧
 True))) ∧
 (True ∧
 (k kF)))))
 False)
 False)))))))
 False))
 ((Qu ∧
 (Qu ∧
 (Qu ∧
 (Qu ∧
 (Qf ∧
 ((bcase (n3 == 0)
 Qtf
 Qf) ∧
 ((Qv (vI n3)) ∧
 True))))))) ∧
 ((Qu ∧
 ((bcase (n3 == 0)
 Qtf
 Qf) ∧
 ((Qv (vI n3)) ∧
 True))) ∧
 ((Qf ∧
 ((bcase (n3 == 0)
 Qtf
 Qf) ∧
 ((Qv (vI n3)) ∧
 True))) ∧
 (True ∧
 (k kF))))))))))
 (bcase (n13 == 0)
 (∃ n14 : Int,
 ((Says C 18 [(dI x7)] [(dI n14)]) ∧
 (bcase (n14 != 0)
 (bcase (n3 == n14)
 (bcase (dL n1 1 cs1)
 (((Says C 19 [(D.agg [(Dw n1 1 cs1), (dI n2)]), (D.agg [D.nil, (dI 0)])] kT) ∧
 (k kT)) ∨
 ((Says C 19 [(D.agg [(Dw n1 1 cs1), (dI n2)]), (D.agg [D.nil, (dI 0)])] kF) ∧
 (k kF)))
 False)
 (k kF))
 (bcase (n3 == 0)
 (((Qv (Value.agg [(vI x6), (vI x7)].toArray)) ∧
 ((Qv (Value.agg [(Sl 500 (n4) (c4)), (vI x5)].toArray)) ∧
 ((Qv (Value.agg [(Value.slice none 0 0), (vI x1), (vI x2), (vI x3)].toArray)) ∧
 ((Qv (Value.agg [(Sl 1009 (n1) (n1)), (vI n2)].toArray)) ∧
 (Qb ∧
 ((bcase (n3 == 0)
 Qb
 Qft) ∧
 ((Qv (vI n3)) ∧
 True))))))) ∧
 (bcase (dL n4 1 l4)
 ((∃ n15 : Int,
 ((Says C 20 [(D.agg [D.nil, (dI x1), (dI x2), (dI x3)]), (D.agg [(Dw n4 1 l4), (dI x5)]), (D.agg [(dI x6), (dI x7)])] [(D.agg [D.nil, (dI n15)])]) ∧
 (((Qv (Value.agg [(Sl 1009 (n1) (n1)), (vI n2)].toArray)) ∧
 ((bcase (n3 == 0)
 Qb
 Qft) ∧
 ((Qv (vI n3)) ∧
 True))) ∧
 (bcase (dL n1 1 cs1)
 (((Says C 19 [(D.agg [(Dw n1 1 cs1), (dI n2)]), (D.agg [D.nil, (dI n15)])] kT) ∧
 ((Qb ∧
 ((bcase (n3 == 0)
 Qb
 Qft) ∧
 ((Qv (vI n3)) ∧
 True))) ∧
 (True ∧
 (k kT)))) ∨
 ((Says C 19 [(D.agg [(Dw n1 1 cs1), (dI n2)]), (D.agg [D.nil, (dI n15)])] kF) ∧
 ((Qf ∧
 ((bcase (n3 == 0)
 Qb
 Qft) ∧
 ((Qv (vI n3)) ∧
 True))) ∧
 (True ∧
 (k kF)))))
 False)))) ∨
 (∃ n15 : Nat,
 (∃ cs2 : List Go.Value,
 (∃ n16 : Int,
 ((Says C 20 [(D.agg [D.nil, (dI x1), (dI x2), (dI x3)]), (D.agg [(Dw n4 1 l4), (dI x5)]), (D.agg [(dI x6), (dI x7)])] [(D.agg [(D.sl (n15) 1 (cs2)), (dI n16)])]) ∧
 (((Qv (Value.agg [(Sl 1009 (n1) (n1)), (vI n2)].toArray)) ∧
 ((bcase (n3 == 0)
 Qb
 Qft) ∧
 ((Qv (vI n3)) ∧
 True))) ∧
 (bcase (dL n1 1 cs1)
 (bcase (dL n15 1 cs2)
 (((Says C 19 [(D.agg [(Dw n1 1 cs1), (dI n2)]), (D.agg [(Dw n15 1 cs2), (dI n16)])] kT) ∧
 ((Qb ∧
 ((bcase (n3 == 0)
 Qb
 Qft) ∧
 ((Qv (vI n3)) ∧
 True))) ∧
 (True ∧
 (k kT)))) ∨
 ((Says C 19 [(D.agg [(Dw n1 1 cs1), (dI n2)]), (D.agg [(Dw n15 1 cs2), (dI n16)])] kF) ∧
 ((Qf ∧
 ((bcase (n3 == 0)
 Qb
 Qft) ∧
 ((Qv (vI n3)) ∧
 True))) ∧
 (True ∧
 (k kF)))))
 False)
 False)))))))
 False))
 ((Qu ∧
 (Qu ∧
 (Qu ∧
 (Qu ∧
 (Qf ∧
 ((bcase (n3 == 0)
 Qtf
 Qf) ∧
 ((Qv (vI n3)) ∧
 True))))))) ∧
 ((Qu ∧
 ((bcase (n3 == 0)
 Qtf
 Qf) ∧
 ((Qv (vI n3)) ∧
 True))) ∧
 ((Qf ∧
 ((bcase (n3 == 0)
 Qtf
 Qf) ∧
 ((Qv (vI n3)) ∧
 True))) ∧
 (True ∧
 (k kF)))))))))
 (bcase (n13 != 0)
 (bcase (n3 == n13)
 (bcase (dL n1 1 cs1)
 (((Says C 19 [(D.agg [(Dw n1 1 cs1), (dI n2)]), (D.agg [D.nil, (dI 0)])] kT) ∧
 (k kT)) ∨
 ((Says C 19 [(D.agg [(Dw n1 1 cs1), (dI n2)]), (D.agg [D.nil, (dI 0)])] kF) ∧
 (k kF)))
 False)
 (k kF))
 (bcase (n3 == 0)
 (((Qv (Value.agg [(vI x6), (vI x7)].toArray)) ∧
 ((Qv (Value.agg [(Sl 500 (n4) (c4)), (vI x5)].toArray)) ∧
 ((Qv (Value.agg [(Value.slice none 0 0), (vI x1), (vI x2), (vI x3)].toArray)) ∧
 ((Qv (Value.agg [(Sl 1009 (n1) (n1)), (vI n2)].toArray)) ∧
 (Qb ∧
 ((bcase (n3 == 0)
 Qb
 Qft) ∧
 ((Qv (vI n3)) ∧
 True))))))) ∧
 (bcase (dL n4 1 l4)
 ((∃ n14 : Int,
 ((Says C 20 [(D.agg [D.nil, (dI x1), (dI x2), (dI x3)]), (D.agg [(Dw n4 1 l4), (dI x5)]), (D.agg [(dI x6), (dI x7)])] [(D.agg [D.nil, (dI n14)])]) ∧
 (((Qv (Value.agg [(Sl 1009 (n1) (n1)), (vI n2)].toArray)) ∧
 ((bcase (n3 == 0)
 Qb
 Qft) ∧
 ((Qv (vI n3)) ∧
 True))) ∧
 (bcase (dL n1 1 cs1)
 (((Says C 19 [(D.agg [(Dw n1 1 cs1), (dI n2)]), (D.agg [D.nil, (dI n14)])] kT) ∧
 ((Qb ∧
 ((bcase (n3 == 0)
 Qb
 Qft) ∧
 ((Qv (vI n3)) ∧
 True))) ∧
 (True ∧
 (k kT)))) ∨
 ((Says C 19 [(D.agg [(Dw n1 1 cs1), (dI n2)]), (D.agg [D.nil, (dI n14)])] kF) ∧
 ((Qf ∧
 ((bcase (n3 == 0)
 Qb
 Qft) ∧
 ((Qv (vI n3)) ∧
 True))) ∧
 (True ∧
 (k kF)))))
 False)))) ∨
 (∃ n14 : Nat,
 (∃ cs2 : List Go.Value,
 (∃ n15 : Int,
 ((Says C 20 [(D.agg [D.nil, (dI x1), (dI x2), (dI x3)]), (D.agg [(Dw n4 1 l4), (dI x5)]), (D.agg [(dI x6), (dI x7)])] [(D.agg [(D.sl (n14) 1 (cs2)), (dI n15)])]) ∧
 (((Qv (Value.agg [(Sl 1009 (n1) (n1)), (vI n2)].toArray)) ∧
 ((bcase (n3 == 0)
 Qb
 Qft) ∧
 ((Qv (vI n3)) ∧
 True))) ∧
 (bcase (dL n1 1 cs1)
 (bcase (dL n14 1 cs2)
 (((Says C 19 [(D.agg [(Dw n1 1 cs1), (dI n2)]), (D.agg [(Dw n14 1 cs2), (dI n15)])] kT) ∧
 ((Qb ∧
 ((bcase (n3 == 0)
 Qb
 Qft) ∧
 ((Qv (vI n3)) ∧
 True))) ∧
 (True ∧
 (k kT)))) ∨
 ((Says C 19 [(D.agg [(Dw n1 1 cs1), (dI n2)]), (D.agg [(Dw n14 1 cs2), (dI n15)])] kF) ∧
 ((Qf ∧
 ((bcase (n3 == 0)
 Qb
 Qft) ∧
 ((Qv (vI n3)) ∧
 True))) ∧
 (True ∧
 (k kF)))))
 False)
 False)))))))
 False))
 ((Qu ∧
 (Qu ∧
 (Qu ∧
 (Qu ∧
 (Qf ∧
 ((bcase (n3 == 0)
 Qtf
 Qf) ∧
 ((Qv (vI n3)) ∧
 True))))))) ∧
 ((Qu ∧
 ((bcase (n3 == 0)
 Qtf
 Qf) ∧
 ((Qv (vI n3)) ∧
 True))) ∧
 ((Qf ∧
 ((bcase (n3 == 0)
 Qtf
 Qf) ∧
 ((Qv (vI n3)) ∧
 True))) ∧
 (True ∧
 (k kF)))))))))))
 False))))))
 (bcase (n12 == 0)
 (bcase (n7 != 0)
 ((Qu ∧
 (Qu ∧
 (Qb ∧
 ((bcase (n7 != 0)
 Qb
 Qft) ∧
 ((Qv (vI n7)) ∧
 (Qb ∧
 ((bcase (n12 == 0)
 Qb
 Qft) ∧
 ((Qv (vI n12)) ∧
 (Qf ∧
 (Qf ∧
 (Qu ∧
 (Qu ∧
 (Qu ∧
 (Qu ∧
 (Qu ∧
 (Qu ∧
 (Qu ∧
 (Qu ∧
 (Qf ∧
 ((bcase (n12 != 0)
 Qtf
 Qf) ∧
 ((Qv (vI n12)) ∧
 True))))))))))))))))))))) ∧
 ((Qb ∧
 (Qb ∧
 (Qb ∧
 (Qu ∧
 (Qu ∧
 ((bcase (n7 != 0)
 Qb
 Qft) ∧
 ((Qv (vI n7)) ∧
 (Qb ∧
 ((bcase (n12 == 0)
 Qb
 Qft) ∧
 ((Qv (vI n12)) ∧
 (Qf ∧
 (Qf ∧
 (Qu ∧
 (Qu ∧
 (Qu ∧
 (Qu ∧
 (Qu ∧
 (Qu ∧
 (Qu ∧
 (Qu ∧
 (Qf ∧
 ((bcase (n12 != 0)
 Qtf
 Qf) ∧
 ((Qv (vI n12)) ∧
 True))))))))))))))))))))))) ∧
 (k kF)))
 (((Qv (Value.agg [(Sl 500 (n4) (c4)), (vI x5)].toArray)) ∧
 ((Qv (Value.agg [(vI n5), (vI n6)].toArray)) ∧
 (Qf ∧
 ((bcase (n7 != 0)
 Qtf
 Qf) ∧
 ((Qv (vI n7)) ∧
 (Qb ∧
 ((bcase (n12 == 0)
 Qb
 Qft) ∧
 ((Qv (vI n12)) ∧
 (Qf ∧
 (Qf ∧
 (Qu ∧
 (Qu ∧
 (Qu ∧
 (Qu ∧
 (Qu ∧
 (Qu ∧
 (Qu ∧
 (Qu ∧
 (Qf ∧
 ((bcase (n12 != 0)
 Qtf
 Qf) ∧
 ((Qv (vI n12)) ∧
 True))))))))))))))))))))) ∧
 (bcase (dL n4 1 l4)
 (∃ n13 : Int,
 (∃ n14 : Int,
 ((Says C 15 [(D.agg [(Dw n4 1 l4), (dI x5)])] [(D.agg [(dI n13), (dI n14)])]) ∧
 (bcase (if Bool.true = Bool.true then !(n5 == n13 && (n6 == n14 && Bool.true)) else n5 == n13 && (n6 == n14 && Bool.true))
 ((Qb ∧
 (Qb ∧
 (Qb ∧
 ((bcase (if Bool.true = Bool.true then !(n5 == n13 && (n6 == n14 && Bool.true)) else n5 == n13 && (n6 == n14 && Bool.true))
 Qb
 Qft) ∧
 ((Qv (Value.agg [(vI n5), (vI n6)].toArray)) ∧
 ((bcase (n7 != 0)
 Qtf
 Qf) ∧
 ((Qv (vI n7)) ∧
 (Qb ∧
 ((bcase (n12 == 0)
 Qb
 Qft) ∧
 ((Qv (vI n12)) ∧
 (Qf ∧
 (Qf ∧
 (Qu ∧
 (Qu ∧
 (Qu ∧
 (Qu ∧
 (Qu ∧
 (Qu ∧
 (Qu ∧
 (Qu ∧
 (Qf ∧
 ((bcase (n12 != 0)
 Qtf
 Qf) ∧
 ((Qv (vI n12)) ∧
 True))))))))))))))))))))))) ∧
 (k kF))
 ((Qf ∧
 (Qf ∧
 (Qf ∧
 ((bcase (if Bool.true = Bool.true then !(n5 == n13 && (n6 == n14 && Bool.true)) else n5 == n13 && (n6 == n14 && Bool.true))
 Qtf
 Qf) ∧
 ((Qv (Value.agg [(vI n5), (vI n6)].toArray)) ∧
 ((bcase (n7 != 0)
 Qtf
 Qf) ∧
 ((Qv (vI n7)) ∧
 (Qb ∧
 ((bcase (n12 == 0)
 Qb
 Qft) ∧
 ((Qv (vI n12)) ∧
 (Qf ∧
 (Qf ∧
 (Qu ∧
 (Qu ∧
 (Qu ∧
 (Qu ∧
 (Qu ∧
 (Qu ∧
 (Qu ∧
 (Qu ∧
 (Qf ∧
 ((bcase (n12 != 0)
 Qtf
 Qf) ∧
 ((Qv (vI n12)) ∧
 True))))))))))))))))))))))) ∧
 (bcase (dL n4 1 l4)
 (∃ n15 : Int,
 ((Says C 16 [(D.agg [D.nil, (dI x1), (dI x2), (dI x3)]), (D.agg [(Dw n4 1 l4), (dI x5)])] [(dI n15)]) ∧
 (bcase (n15 == 0)
 (∃ n16 : Int,
 ((Says C 17 [(dI x6)] [(dI n16)]) ∧
 (bcase (n16 == 0)
 (∃ n17 : Int,
 ((Says C 18 [(dI x7)] [(dI n17)]) ∧
 (bcase (n17 != 0)
 (bcase (n3 == n17)
 (bcase (dL n1 1 cs1)
 (((Says C 19 [(D.agg [(Dw n1 1 cs1), (dI n2)]), (D.agg [D.nil, (dI 0)])] kT) ∧
 (k kT)) ∨
 ((Says C 19 [(D.agg [(Dw n1 1 cs1), (dI n2)]), (D.agg [D.nil, (dI 0)])] kF) ∧
 (k kF)))
 False)
 (k kF))
 (bcase (n3 == 0)
 (((Qv (Value.agg [(vI x6), (vI x7)].toArray)) ∧
 ((Qv (Value.agg [(Sl 500 (n4) (c4)), (vI x5)].toArray)) ∧
 ((Qv (Value.agg [(Value.slice none 0 0), (vI x1), (vI x2), (vI x3)].toArray)) ∧
 ((Qv (Value.agg [(Sl 1009 (n1) (n1)), (vI n2)].toArray)) ∧
 (Qb ∧
 ((bcase (n3 == 0)
 Qb
 Qft) ∧
 ((Qv (vI n3)) ∧
 True))))))) ∧
 (bcase (dL n4 1 l4)
 ((∃ n18 : Int,
 ((Says C 20 [(D.agg [D.nil, (dI x1), (dI x2), (dI x3)]), (D.agg [(Dw n4 1 l4), (dI x5)]), (D.agg [(dI x6), (dI x7)])] [(D.agg [D.nil, (dI n18)])]) ∧
 (((Qv (Value.agg [(Sl 1009 (n1) (n1)), (vI n2)].toArray)) ∧
 ((bcase (n3 == 0)
 Qb
 Qft) ∧
 ((Qv (vI n3)) ∧
 True))) ∧
 (bcase (dL n1 1 cs1)
 (((Says C 19 [(D.agg [(Dw n1 1 cs1), (dI n2)]), (D.agg [D.nil, (dI n18)])] kT) ∧
 ((Qb ∧
 ((bcase (n3 == 0)
 Qb
 Qft) ∧
 ((Qv (vI n3)) ∧
 True))) ∧
 (True ∧
 (k kT)))) ∨
 ((Says C 19 [(D.agg [(Dw n1 1 cs1), (dI n2)]), (D.agg [D.nil, (dI n18)])] kF) ∧
 ((Qf ∧
 ((bcase (n3 == 0)
 Qb
 Qft) ∧
 ((Qv (vI n3)) ∧
 True))) ∧
 (True ∧
 (k kF)))))
 False)))) ∨
 (∃ n18 : Nat,
 (∃ cs2 : List Go.Value,
 (∃ n19 : Int,
 ((Says C 20 [(D.agg [D.nil, (dI x1), (dI x2), (dI x3)]), (D.agg [(Dw n4 1 l4), (dI x5)]), (D.agg [(dI x6), (dI x7)])] [(D.agg [(D.sl (n18) 1 (cs2)), (dI n19)])]) ∧
 (((Qv (Value.agg [(Sl 1009 (n1) (n1)), (vI n2)].toArray)) ∧
 ((bcase (n3 == 0)
 Qb
 Qft) ∧
 ((Qv (vI n3)) ∧
 True))) ∧
 (bcase (dL n1 1 cs1)
 (bcase (dL n18 1 cs2)
 (((Says C 19 [(D.agg [(Dw n1 1 cs1), (dI n2)]), (D.agg [(Dw n18 1 cs2), (dI n19)])] kT) ∧
 ((Qb ∧
 ((bcase (n3 == 0)
 Qb
 Qft) ∧
 ((Qv (vI n3)) ∧
 True))) ∧
 (True ∧
 (k kT)))) ∨
 ((Says C 19 [(D.agg [(Dw n1 1 cs1), (dI n2)]), (D.agg [(Dw n18 1 cs2), (dI n19)])] kF) ∧
 ((Qf ∧
 ((bcase (n3 == 0)
 Qb
 Qft) ∧
 ((Qv (vI n3)) ∧
 True))) ∧
 (True ∧
 (k kF)))))
 False)
 False)))))))
 False))
 ((Qu ∧
 (Qu ∧
 (Qu ∧
 (Qu ∧
 (Qf ∧
 ((bcase (n3 == 0)
 Qtf
 Qf) ∧
 ((Qv (vI n3)) ∧
 True))))))) ∧
 ((Qu ∧
 ((bcase (n3 == 0)
 Qtf
 Qf) ∧
 ((Qv (vI n3)) ∧
 True))) ∧
 ((Qf ∧
 ((bcase (n3 == 0)
 Qtf
 Qf) ∧
 ((Qv (vI n3)) ∧
 True))) ∧
 (True ∧
 (k kF)))))))))
 (bcase (n16 != 0)
 (bcase (n3 == n16)
 (bcase (dL n1 1 cs1)
 (((Says C 19 [(D.agg [(Dw n1 1 cs1), (dI n2)]), (D.agg [D.nil, (dI 0)])] kT) ∧
 (k kT)) ∨
 ((Says C 19 [(D.agg [(Dw n1 1 cs1), (dI n2)]), (D.agg [D.nil, (dI 0)])] kF) ∧
 (k kF)))
 False)
 (k kF))
 (bcase (n3 == 0)
 (((Qv (Value.agg [(vI x6), (vI x7)].toArray)) ∧
 ((Qv (Value.agg [(Sl 500 (n4) (c4)), (vI x5)].toArray)) ∧
 ((Qv (Value.agg [(Value.slice none 0 0), (vI x1), (vI x2), (vI x3)].toArray)) ∧
 ((Qv (Value.agg [(Sl 1009 (n1) (n1)), (vI n2)].toArray)) ∧
 (Qb ∧
 ((bcase (n3 == 0)
 Qb
 Qft) ∧
 ((Qv (vI n3)) ∧
 True))))))) ∧
 (bcase (dL n4 1 l4)
 ((∃ n17 : Int,
 ((Says C 20 [(D.agg [D.nil, (dI x1), (dI x2), (dI x3)]), (D.agg [(Dw n4 1 l4), (dI x5)]), (D.agg [(dI x6), (dI x7)])] [(D.agg [D.nil, (dI n17)])]) ∧
 (((Qv (Value.agg [(Sl 1009 (n1) (n1)), (vI n2)].toArray)) ∧
 ((bcase (n3 == 0)
 Qb
 Qft) ∧
 ((Qv (vI n3)) ∧
 True))) ∧
 (bcase (dL n1 1 cs1)
 (((Says C 19 [(D.agg [(Dw n1 1 cs1), (dI n2)]), (D.agg [D.nil, (dI n17)])] kT) ∧
 ((Qb ∧
 ((bcase (n3 == 0)
 Qb
 Qft) ∧
 ((Qv (vI n3)) ∧
 True))) ∧
 (True ∧
 (k kT)))) ∨
 ((Says C 19 [(D.agg [(Dw n1 1 cs1), (dI n2)]), (D.agg [D.nil, (dI n17)])] kF) ∧
 ((Qf ∧
 ((bcase (n3 == 0)
 Qb
 Qft) ∧
 ((Qv (vI n3)) ∧
 True))) ∧
 (True ∧
 (k kF)))))
 False)))) ∨
 (∃ n17 : Nat,
 (∃ cs2 : List Go.Value,
 (∃ n18 : Int,
 ((Says C 20 [(D.agg [D.nil, (dI x1), (dI x2), (dI x3)]), (D.agg [(Dw n4 1 l4), (dI x5)]), (D.agg [(dI x6), (dI x7)])] [(D.agg [(D.sl (n17) 1 (cs2)), (dI n18)])]) ∧
 (((Qv (Value.agg [(Sl 1009 (n1) (n1)), (vI n2)].toArray)) ∧
 ((bcase (n3 == 0)
 Qb
 Qft) ∧
 ((Qv (vI n3)) ∧
 True))) ∧
 (bcase (dL n1 1 cs1)
 (bcase (dL n17 1 cs2)
 (((Says C 19 [(D.agg [(Dw n1 1 cs1), (dI n2)]), (D.agg [(Dw n17 1 cs2), (dI n18)])] kT) ∧
 ((Qb ∧
 ((bcase (n3 == 0)
 Qb
 Qft) ∧
 ((Qv (vI n3)) ∧
 True))) ∧
 (True ∧
 (k kT)))) ∨
 ((Says C 19 [(D.agg [(Dw n1 1 cs1), (dI n2)]), (D.agg [(Dw n17 1 cs2), (dI n18)])] kF) ∧
 ((Qf ∧
 ((bcase (n3 == 0)
 Qb
 Qft) ∧
 ((Qv (vI n3)) ∧
 True))) ∧
 (True ∧
 (k kF)))))
 False)
 False)))))))
 False))
 ((Qu ∧
 (Qu ∧
 (Qu ∧
 (Qu ∧
 (Qf ∧
 ((bcase (n3 == 0)
 Qtf
 Qf) ∧
 ((Qv (vI n3)) ∧
 True))))))) ∧
 ((Qu ∧
 ((bcase (n3 == 0)
 Qtf
 Qf) ∧
 ((Qv (vI n3)) ∧
 True))) ∧
 ((Qf ∧
 ((bcase (n3 == 0)
 Qtf
 Qf) ∧
 ((Qv (vI n3)) ∧
 True))) ∧
 (True ∧
 (k kF))))))))))
 (bcase (n15 == 0)
 (∃ n16 : Int,
 ((Says C 18 [(dI x7)] [(dI n16)]) ∧
 (bcase (n16 != 0)
 (bcase (n3 == n16)
 (bcase (dL n1 1 cs1)
 (((Says C 19 [(D.agg [(Dw n1 1 cs1), (dI n2)]), (D.agg [D.nil, (dI 0)])] kT) ∧
 (k kT)) ∨
 ((Says C 19 [(D.agg [(Dw n1 1 cs1), (dI n2)]), (D.agg [D.nil, (dI 0)])] kF) ∧
 (k kF)))
 False)
 (k kF))
 (bcase (n3 == 0)
 (((Qv (Value.agg [(vI x6), (vI x7)].toArray)) ∧
 ((Qv (Value.agg [(Sl 500 (n4) (c4)), (vI x5)].toArray)) ∧
 ((Qv (Value.agg [(Value.slice none 0 0), (vI x1), (vI x2), (vI x3)].toArray)) ∧
 ((Qv (Value.agg [(Sl 1009 (n1) (n1)), (vI n2)].toArray)) ∧
 (Qb ∧
 ((bcase (n3 == 0)
 Qb
 Qft) ∧
 ((Qv (vI n3)) ∧
 True))))))) ∧
 (bcase (dL n4 1 l4)
 ((∃ n17 : Int,
 ((Says C 20 [(D.agg [D.nil, (dI x1), (dI x2), (dI x3)]), (D.agg [(Dw n4 1 l4), (dI x5)]), (D.agg [(dI x6), (dI x7)])] [(D.agg [D.nil, (dI n17)])]) ∧
 (((Qv (Value.agg [(Sl 1009 (n1) (n1)), (vI n2)].toArray)) ∧
 ((bcase (n3 == 0)
 Qb
 Qft) ∧
 ((Qv (vI n3)) ∧
 True))) ∧
 (bcase (dL n1 1 cs1)
 (((Says C 19 [(D.agg [(Dw n1 1 cs1), (dI n2)]), (D.agg [D.nil, (dI n17)])] kT) ∧
 ((Qb ∧
 ((bcase (n3 == 0)
 Qb
 Qft) ∧
 ((Qv (vI n3)) ∧
 True))) ∧
 (True ∧
 (k kT)))) ∨
 ((Says C 19 [(D.agg [(Dw n1 1 cs1), (dI n2)]), (D.agg [D.nil, (dI n17)])] kF) ∧
 ((Qf ∧
 ((bcase (n3 == 0)
 Qb
 Qft) ∧
 ((Qv (vI n3)) ∧
 True))) ∧
 (True ∧
 (k kF)))))
 False)))) ∨
 (∃ n17 : Nat,
 (∃ cs2 : List Go.Value,
 (∃ n18 : Int,
 ((Says C 20 [(D.agg [D.nil, (dI x1), (dI x2), (dI x3)]), (D.agg [(Dw n4 1 l4), (dI x5)]), (D.agg [(dI x6), (dI x7)])] [(D.agg [(D.sl (n17) 1 (cs2)), (dI n18)])]) ∧
 (((Qv (Value.agg [(Sl 1009 (n1) (n1)), (vI n2)].toArray)) ∧
 ((bcase (n3 == 0)
 Qb
 Qft) ∧
 ((Qv (vI n3)) ∧
 True))) ∧
 (bcase (dL n1 1 cs1)
 (bcase (dL n17 1 cs2)
 (((Says C 19 [(D.agg [(Dw n1 1 cs1), (dI n2)]), (D.agg [(Dw n17 1 cs2), (dI n18)])] kT) ∧
 ((Qb ∧
 ((bcase (n3 == 0)
 Qb
 Qft) ∧
 ((Qv (vI n3)) ∧
 True))) ∧
 (True ∧
 (k kT)))) ∨
 ((Says C 19 [(D.agg [(Dw n1 1 cs1), (dI n2)]), (D.agg [(Dw n17 1 cs2), (dI n18)])] kF) ∧
 ((Qf ∧
 ((bcase (n3 == 0)
 Qb
 Qft) ∧
 ((Qv (vI n3)) ∧
 True))) ∧
 (True ∧
 (k kF)))))
 False)
 False)))))))
 False))
 ((Qu ∧
 (Qu ∧
 (Qu ∧
 (Qu ∧
 (Qf ∧
 ((bcase (n3 == 0)
 Qtf
 Qf) ∧
 ((Qv (vI n3)) ∧
 True))))))) ∧
 ((Qu ∧
 ((bcase (n3 == 0)
 Qtf
 Qf) ∧
 ((Qv (vI n3)) ∧
 True))) ∧
 ((Qf ∧
 ((bcase (n3 == 0)
 Qtf
 Qf) ∧
 ((Qv (vI n3)) ∧
 True))) ∧
 (True ∧
 (k kF)))))))))
 (bcase (n15 != 0)
 (bcase (n3 == n15)
 (bcase (dL n1 1 cs1)
 (((Says C 19 [(D.agg [(Dw n1 1 cs1), (dI n2)]), (D.agg [D.nil, (dI 0)])] kT) ∧
 (k kT)) ∨
 ((Says C 19 [(D.agg [(Dw n1 1 cs1), (dI n2)]), (D.agg [D.nil, (dI 0)])] kF) ∧
 (k kF)))
 False)
 (k kF))
 (bcase (n3 == 0)
 (((Qv (Value.agg [(vI x6), (vI x7)].toArray)) ∧
 ((Qv (Value.agg [(Sl 500 (n4) (c4)), (vI x5)].toArray)) ∧
 ((Qv (Value.agg [(Value.slice none 0 0), (vI x1), (vI x2), (vI x3)].toArray)) ∧
 ((Qv (Value.agg [(Sl 1009 (n1) (n1)), (vI n2)].toArray)) ∧
 (Qb ∧
 ((bcase (n3 == 0)
 Qb
 Qft) ∧
 ((Qv (vI n3)) ∧
 True))))))) ∧
 (bcase (dL n4 1 l4)
 ((∃ n16 : Int,
 ((Says C 20 [(D.agg [D.nil, (dI x1), (dI x2), (dI x3)]), (D.agg [(Dw n4 1 l4), (dI x5)]), (D.agg [(dI x6), (dI x7)])] [(D.agg [D.nil, (dI n16)])]) ∧
 (((Qv (Value.agg [(Sl 1009 (n1) (n1)), (vI n2)].toArray)) ∧
 ((bcase (n3 == 0)
 Qb
 Qft) ∧
 ((Qv (vI n3)) ∧
 True))) ∧
 (bcase (dL n1 1 cs1)
 (((Says C 19 [(D.agg [(Dw n1 1 cs1), (dI n2)]), (D.agg [D.nil, (dI n16)])] kT) ∧
 ((Qb ∧
 ((bcase (n3 == 0)
 Qb
 Qft) ∧
 ((Qv (vI n3)) ∧
 True))) ∧
 (True ∧
 (k kT)))) ∨
 ((Says C 19 [(D.agg [(Dw n1 1 cs1), (dI n2)]), (D.agg [D.nil, (dI n16)])] kF) ∧
 ((Qf ∧
 ((bcase (n3 == 0)
 Qb
 Qft) ∧
 ((Qv (vI n3)) ∧
 True))) ∧
 (True ∧
 (k kF)))))
 False)))) ∨
 (∃ n16 : Nat,
 (∃ cs2 : List Go.Value,
 (∃ n17 : Int,
 ((Says C 20 [(D.agg [D.nil, (dI x1), (dI x2), (dI x3)]), (D.agg [(Dw n4 1 l4), (dI x5)]), (D.agg [(dI x6), (dI x7)])] [(D.agg [(D.sl (n16) 1 (cs2)), (dI n17)])]) ∧
 (((Qv (Value.agg [(Sl 1009 (n1) (n1)), (vI n2)].toArray)) ∧
 ((bcase (n3 == 0)
 Qb
 Qft) ∧
 ((Qv (vI n3)) ∧
 True))) ∧
 (bcase (dL n1 1 cs1)
 (bcase (dL n16 1 cs2)
 (((Says C 19 [(D.agg [(Dw n1 1 cs1), (dI n2)]), (D.agg [(Dw n16 1 cs2), (dI n17)])] kT) ∧
 ((Qb ∧
 ((bcase (n3 == 0)
 Qb
 Qft) ∧
 ((Qv (vI n3)) ∧
 True))) ∧
 (True ∧
 (k kT)))) ∨
 ((Says C 19 [(D.agg [(Dw n1 1 cs1), (dI n2)]), (D.agg [(Dw n16 1 cs2), (dI n17)])] kF) ∧
 ((Qf ∧
 ((bcase (n3 == 0)
 Qb
 Qft) ∧
 ((Qv (vI n3)) ∧
 True))) ∧
 (True ∧
 (k kF)))))
 False)
 False)))))))
 False))
 ((Qu ∧
 (Qu ∧
 (Qu ∧
 (Qu ∧
 (Qf ∧
 ((bcase (n3 == 0)
 Qtf
 Qf) ∧
 ((Qv (vI n3)) ∧
 True))))))) ∧
 ((Qu ∧
 ((bcase (n3 == 0)
 Qtf
 Qf) ∧
 ((Qv (vI n3)) ∧
 True))) ∧
 ((Qf ∧
 ((bcase (n3 == 0)
 Qtf
 Qf) ∧
 ((Qv (vI n3)) ∧
 True))) ∧
 (True ∧
 (k kF)))))))))))
 False))))))
 False)))
 ((Qu ∧
 (Qu ∧
 (Qu ∧
 (Qu ∧
 (Qu ∧
 (Qf ∧
 ((bcase (n12 == 0)
 Qtf
 Qf) ∧
 ((Qv (vI n12)) ∧
 (Qf ∧
 (Qf ∧
 (Qu ∧
 (Qu ∧
 (Qu ∧
 (Qu ∧
 (Qu ∧
 (Qu ∧
 (Qu ∧
 (Qu ∧
 (Qf ∧
 ((bcase (n12 != 0)
 Qtf
 Qf) ∧
 ((Qv (vI n12)) ∧
 True))))))))))))))))))))) ∧
 ((Qf ∧
 (Qf ∧
 (Qu ∧
 (Qu ∧
 (Qu ∧
 (Qu ∧
 (Qu ∧
 (Qf ∧
 ((bcase (n12 == 0)
 Qtf
 Qf) ∧
 ((Qv (vI n12)) ∧
 (Qf ∧
 (Qf ∧
 (Qu ∧
 (Qu ∧
 (Qu ∧
 (Qu ∧
 (Qu ∧
 (Qu ∧
 (Qu ∧
 (Qu ∧
 (Qf ∧
 ((bcase (n12 != 0)
 Qtf
 Qf) ∧
 ((Qv (vI n12)) ∧
 True))))))))))))))))))))))) ∧
 (bcase (dL n4 1 l4)
 (∃ n13 : Int,
 ((Says C 16 [(D.agg [D.nil, (dI x1), (dI x2), (dI x3)]), (D.agg [(Dw n4 1 l4), (dI x5)])] [(dI n13)]) ∧
 (bcase (n13 == 0)
 (∃ n14 : Int,
 ((Says C 17 [(dI x6)] [(dI n14)]) ∧
 (bcase (n14 == 0)
 (∃ n15 : Int,
 ((Says C 18 [(dI x7)] [(dI n15)]) ∧
 (bcase (n15 != 0)
 (bcase (n3 == n15)
 (bcase (dL n1 1 cs1)
 (((Says C 19 [(D.agg [(Dw n1 1 cs1), (dI n2)]), (D.agg [D.nil, (dI 0)])] kT) ∧
 (k kT)) ∨
 ((Says C 19 [(D.agg [(Dw n1 1 cs1), (dI n2)]), (D.agg [D.nil, (dI 0)])] kF) ∧
 (k kF)))
 False)
 (k kF))
 (bcase (n3 == 0)
 (((Qv (Value.agg [(vI x6), (vI x7)].toArray)) ∧
 ((Qv (Value.agg [(Sl 500 (n4) (c4)), (vI x5)].toArray)) ∧
 ((Qv (Value.agg [(Value.slice none 0 0), (vI x1), (vI x2), (vI x3)].toArray)) ∧
 ((Qv (Value.agg [(Sl 1009 (n1) (n1)), (vI n2)].toArray)) ∧
 (Qb ∧
 ((bcase (n3 == 0)
 Qb
 Qft) ∧
 ((Qv (vI n3)) ∧
 True))))))) ∧
 (bcase (dL n4 1 l4)
 ((∃ n16 : Int,
 ((Says C 20 [(D.agg [D.nil, (dI x1), (dI x2), (dI x3)]), (D.agg [(Dw n4 1 l4), (dI x5)]), (D.agg [(dI x6), (dI x7)])] [(D.agg [D.nil, (dI n16)])]) ∧
 (((Qv (Value.agg [(Sl 1009 (n1) (n1)), (vI n2)].toArray)) ∧
 ((bcase (n3 == 0)
 Qb
 Qft) ∧
 ((Qv (vI n3)) ∧
 True))) ∧
 (bcase (dL n1 1 cs1)
 (((Says C 19 [(D.agg [(Dw n1 1 cs1), (dI n2)]), (D.agg [D.nil, (dI n16)])] kT) ∧
 ((Qb ∧
 ((bcase (n3 == 0)
 Qb
 Qft) ∧
 ((Qv (vI n3)) ∧
 True))) ∧
 (True ∧
 (k kT)))) ∨
 ((Says C 19 [(D.agg [(Dw n1 1 cs1), (dI n2)]), (D.agg [D.nil, (dI n16)])] kF) ∧
 ((Qf ∧
 ((bcase (n3 == 0)
 Qb
 Qft) ∧
 ((Qv (vI n3)) ∧
 True))) ∧
 (True ∧
 (k kF)))))
 False)))) ∨
 (∃ n16 : Nat,
 (∃ cs2 : List Go.Value,
 (∃ n17 : Int,
 ((Says C 20 [(D.agg [D.nil, (dI x1), (dI x2), (dI x3)]), (D.agg [(Dw n4 1 l4), (dI x5)]), (D.agg [(dI x6), (dI x7)])] [(D.agg [(D.sl (n16) 1 (cs2)), (dI n17)])]) ∧
 (((Qv (Value.agg [(Sl 1009 (n1) (n1)), (vI n2)].toArray)) ∧
 ((bcase (n3 == 0)
 Qb
 Qft) ∧
 ((Qv (vI n3)) ∧
 True))) ∧
 (bcase (dL n1 1 cs1)
 (bcase (dL n16 1 cs2)
 (((Says C 19 [(D.agg [(Dw n1 1 cs1), (dI n2)]), (D.agg [(Dw n16 1 cs2), (dI n17)])] kT) ∧
 ((Qb ∧
 ((bcase (n3 == 0)
 Qb
 Qft) ∧
 ((Qv (vI n3)) ∧
 True))) ∧
 (True ∧
 (k kT)))) ∨
 ((Says C 19 [(D.agg [(Dw n1 1 cs1), (dI n2)]), (D.agg [(Dw n16 1 cs2), (dI n17)])] kF) ∧
 ((Qf ∧
 ((bcase (n3 == 0)
 Qb
 Qft) ∧
 ((Qv (vI n3)) ∧
 True))) ∧
 (True ∧
 (k kF)))))
 False)
 False)))))))
 False))
 ((Qu ∧
 (Qu ∧
 (Qu ∧
 (Qu ∧
 (Qf ∧
 ((bcase (n3 == 0)
 Qtf
 Qf) ∧
 ((Qv (vI n3)) ∧
 True))))))) ∧
 ((Qu ∧
 ((bcase (n3 == 0)
 Qtf
 Qf) ∧
 ((Qv (vI n3)) ∧
 True))) ∧
 ((Qf ∧
 ((bcase (n3 == 0)
 Qtf
 Qf) ∧
 ((Qv (vI n3)) ∧
 True))) ∧
 (True ∧
 (k kF)))))))))
 (bcase (n14 != 0)
 (bcase (n3 == n14)
 (bcase (dL n1 1 cs1)
 (((Says C 19 [(D.agg [(Dw n1 1 cs1), (dI n2)]), (D.agg [D.nil, (dI 0)])] kT) ∧
 (k kT)) ∨
 ((Says C 19 [(D.agg [(Dw n1 1 cs1), (dI n2)]), (D.agg [D.nil, (dI 0)])] kF) ∧
 (k kF)))
 False)
 (k kF))
 (bcase (n3 == 0)
 (((Qv (Value.agg [(vI x6), (vI x7)].toArray)) ∧
 ((Qv (Value.agg [(Sl 500 (n4) (c4)), (vI x5)].toArray)) ∧
 ((Qv (Value.agg [(Value.slice none 0 0), (vI x1), (vI x2), (vI x3)].toArray)) ∧
 ((Qv (Value.agg [(Sl 1009 (n1) (n1)), (vI n2)].toArray)) ∧
 (Qb ∧
 ((bcase (n3 == 0)
 Qb
 Qft) ∧
 ((Qv (vI n3)) ∧
 True))))))) ∧
 (bcase (dL n4 1 l4)
 ((∃ n15 : Int,
 ((Says C 20 [(D.agg [D.nil, (dI x1), (dI x2), (dI x3)]), (D.agg [(Dw n4 1 l4), (dI x5)]), (D.agg [(dI x6), (dI x7)])] [(D.agg [D.nil, (dI n15)])]) ∧
 (((Qv (Value.agg [(Sl 1009 (n1) (n1)), (vI n2)].toArray)) ∧
 ((bcase (n3 == 0)
 Qb
 Qft) ∧
 ((Qv (vI n3)) ∧
 True))) ∧
 (bcase (dL n1 1 cs1)
 (((Says C 19 [(D.agg [(Dw n1 1 cs1), (dI n2)]), (D.agg [D.nil, (dI n15)])] kT) ∧
 ((Qb ∧
 ((bcase (n3 == 0)
 Qb
 Qft) ∧
 ((Qv (vI n3)) ∧
 True))) ∧
 (True ∧
 (k kT)))) ∨
 ((Says C 19 [(D.agg [(Dw n1 1 cs1), (dI n2)]), (D.agg [D.nil, (dI n15)])] kF) ∧
 ((Qf ∧
 ((bcase (n3 == 0)
 Qb
 Qft) ∧
 ((Qv (vI n3)) ∧
 True))) ∧
 (True ∧
 (k kF)))))
 False)))) ∨
 (∃ n15 : Nat,
 (∃ cs2 : List Go.Value,
 (∃ n16 : Int,
 ((Says C 20 [(D.agg [D.nil, (dI x1), (dI x2), (dI x3)]), (D.agg [(Dw n4 1 l4), (dI x5)]), (D.agg [(dI x6), (dI x7)])] [(D.agg [(D.sl (n15) 1 (cs2)), (dI n16)])]) ∧
 (((Qv (Value.agg [(Sl 1009 (n1) (n1)), (vI n2)].toArray)) ∧
 ((bcase (n3 == 0)
 Qb
 Qft) ∧
 ((Qv (vI n3)) ∧
 True))) ∧
 (bcase (dL n1 1 cs1)
 (bcase (dL n15 1 cs2)
 (((Says C 19 [(D.agg [(Dw n1 1 cs1), (dI n2)]), (D.agg [(Dw n15 1 cs2), (dI n16)])] kT) ∧
 ((Qb ∧
 ((bcase (n3 == 0)
 Qb
 Qft) ∧
 ((Qv (vI n3)) ∧
 True))) ∧
 (True ∧
 (k kT)))) ∨
 ((Says C 19 [(D.agg [(Dw n1 1 cs1), (dI n2)]), (D.agg [(Dw n15 1 cs2), (dI n16)])] kF) ∧
 ((Qf ∧
 ((bcase (n3 == 0)
 Qb
 Qft) ∧
 ((Qv (vI n3)) ∧
 True))) ∧
 (True ∧
 (k kF)))))
 False)
 False)))))))
 False))
 ((Qu ∧
 (Qu ∧
 (Qu ∧
 (Qu ∧
 (Qf ∧
 ((bcase (n3 == 0)
 Qtf
 Qf) ∧
 ((Qv (vI n3)) ∧
 True))))))) ∧
 ((Qu ∧
 ((bcase (n3 == 0)
 Qtf
 Qf) ∧
 ((Qv (vI n3)) ∧
 True))) ∧
 ((Qf ∧
 ((bcase (n3 == 0)
 Qtf
 Qf) ∧
 ((Qv (vI n3)) ∧
 True))) ∧
 (True ∧
 (k kF))))))))))
 (bcase (n13 == 0)
 (∃ n14 : Int,
 ((Says C 18 [(dI x7)] [(dI n14)]) ∧
 (bcase (n14 != 0)
 (bcase (n3 == n14)
 (bcase (dL n1 1 cs1)
 (((Says C 19 [(D.agg [(Dw n1 1 cs1), (dI n2)]), (D.agg [D.nil, (dI 0)])] kT) ∧
 (k kT)) ∨
 ((Says C 19 [(D.agg [(Dw n1 1 cs1), (dI n2)]), (D.agg [D.nil, (dI 0)])] kF) ∧
 (k kF)))
 False)
 (k kF))
 (bcase (n3 == 0)
 (((Qv (Value.agg [(vI x6), (vI x7)].toArray)) ∧
 ((Qv (Value.agg [(Sl 500 (n4) (c4)), (vI x5)].toArray)) ∧
 ((Qv (Value.agg [(Value.slice none 0 0), (vI x1), (vI x2), (vI x3)].toArray)) ∧
 ((Qv (Value.agg [(Sl 1009 (n1) (n1)), (vI n2)].toArray)) ∧
 (Qb ∧
 ((bcase (n3 == 0)
 Qb
 Qft) ∧
 ((Qv (vI n3)) ∧
 True))))))) ∧
 (bcase (dL n4 1 l4)
 ((∃ n15 : Int,
 ((Says C 20 [(D.agg [D.nil, (dI x1), (dI x2), (dI x3)]), (D.agg [(Dw n4 1 l4), (dI x5)]), (D.agg [(dI x6), (dI x7)])] [(D.agg [D.nil, (dI n15)])]) ∧
 (((Qv (Value.agg [(Sl 1009 (n1) (n1)), (vI n2)].toArray)) ∧
 ((bcase (n3 == 0)
 Qb
 Qft) ∧
 ((Qv (vI n3)) ∧
 True))) ∧
 (bcase (dL n1 1 cs1)
 (((Says C 19 [(D.agg [(Dw n1 1 cs1), (dI n2)]), (D.agg [D.nil, (dI n15)])] kT) ∧
 ((Qb ∧
 ((bcase (n3 == 0)
 Qb
 Qft) ∧
 ((Qv (vI n3)) ∧
 True))) ∧
 (True ∧
 (k kT)))) ∨
 ((Says C 19 [(D.agg [(Dw n1 1 cs1), (dI n2)]), (D.agg [D.nil, (dI n15)])] kF) ∧
 ((Qf ∧
 ((bcase (n3 == 0)
 Qb
 Qft) ∧
 ((Qv (vI n3)) ∧
 True))) ∧
 (True ∧
 (k kF)))))
 False)))) ∨
 (∃ n15 : Nat,
 (∃ cs2 : List Go.Value,
 (∃ n16 : Int,
 ((Says C 20 [(D.agg [D.nil, (dI x1), (dI x2), (dI x3)]), (D.agg [(Dw n4 1 l4), (dI x5)]), (D.agg [(dI x6), (dI x7)])] [(D.agg [(D.sl (n15) 1 (cs2)), (dI n16)])]) ∧
 (((Qv (Value.agg [(Sl 1009 (n1) (n1)), (vI n2)].toArray)) ∧
 ((bcase (n3 == 0)
 Qb
 Qft) ∧
 ((Qv (vI n3)) ∧
 True))) ∧
 (bcase (dL n1 1 cs1)
 (bcase (dL n15 1 cs2)
 (((Says C 19 [(D.agg [(Dw n1 1 cs1), (dI n2)]), (D.agg [(Dw n15 1 cs2), (dI n16)])] kT) ∧
 ((Qb ∧
 ((bcase (n3 == 0)
 Qb
 Qft) ∧
 ((Qv (vI n3)) ∧
 True))) ∧
 (True ∧
 (k kT)))) ∨
 ((Says C 19 [(D.agg [(Dw n1 1 cs1), (dI n2)]), (D.agg [(Dw n15 1 cs2), (dI n16)])] kF) ∧
 ((Qf ∧
 ((bcase (n3 == 0)
 Qb
 Qft) ∧
 ((Qv (vI n3)) ∧
 True))) ∧
 (True ∧
 (k kF)))))
 False)
 False)))))))
 False))
 ((Qu ∧
 (Qu ∧
 (Qu ∧
 (Qu ∧
 (Qf ∧
 ((bcase (n3 == 0)
 Qtf
 Qf) ∧
 ((Qv (vI n3)) ∧
 True))))))) ∧
 ((Qu ∧
 ((bcase (n3 == 0)
 Qtf
 Qf) ∧
 ((Qv (vI n3)) ∧
 True))) ∧
 ((Qf ∧
 ((bcase (n3 == 0)
 Qtf
 Qf) ∧
 ((Qv (vI n3)) ∧
 True))) ∧
 (True ∧
 (k kF)))))))))
 (bcase (n13 != 0)
 (bcase (n3 == n13)
 (bcase (dL n1 1 cs1)
 (((Says C 19 [(D.agg [(Dw n1 1 cs1), (dI n2)]), (D.agg [D.nil, (dI 0)])] kT) ∧
 (k kT)) ∨
 ((Says C 19 [(D.agg [(Dw n1 1 cs1), (dI n2)]), (D.agg [D.nil, (dI 0)])] kF) ∧
 (k kF)))
 False)
 (k kF))
 (bcase (n3 == 0)
 (((Qv (Value.agg [(vI x6), (vI x7)].toArray)) ∧
 ((Qv (Value.agg [(Sl 500 (n4) (c4)), (vI x5)].toArray)) ∧
 ((Qv (Value.agg [(Value.slice none 0 0), (vI x1), (vI x2), (vI x3)].toArray)) ∧
 ((Qv (Value.agg [(Sl 1009 (n1) (n1)), (vI n2)].toArray)) ∧
 (Qb ∧
 ((bcase (n3 == 0)
 Qb
 Qft) ∧
 ((Qv (vI n3)) ∧
 True))))))) ∧
 (bcase (dL n4 1 l4)
 ((∃ n14 : Int,
 ((Says C 20 [(D.agg [D.nil, (dI x1), (dI x2), (dI x3)]), (D.agg [(Dw n4 1 l4), (dI x5)]), (D.agg [(dI x6), (dI x7)])] [(D.agg [D.nil, (dI n14)])]) ∧
 (((Qv (Value.agg [(Sl 1009 (n1) (n1)), (vI n2)].toArray)) ∧
 ((bcase (n3 == 0)
 Qb
 Qft) ∧
 ((Qv (vI n3)) ∧
 True))) ∧
 (bcase (dL n1 1 cs1)
 (((Says C 19 [(D.agg [(Dw n1 1 cs1), (dI n2)]), (D.agg [D.nil, (dI n14)])] kT) ∧
 ((Qb ∧
 ((bcase (n3 == 0)
 Qb
 Qft) ∧
 ((Qv (vI n3)) ∧
 True))) ∧
 (True ∧
 (k kT)))) ∨
 ((Says C 19 [(D.agg [(Dw n1 1 cs1), (dI n2)]), (D.agg [D.nil, (dI n14)])] kF) ∧
 ((Qf ∧
 ((bcase (n3 == 0)
 Qb
 Qft) ∧
 ((Qv (vI n3)) ∧
 True))) ∧
 (True ∧
 (k kF)))))
 False)))) ∨
 (∃ n14 : Nat,
 (∃ cs2 : List Go.Value,
 (∃ n15 : Int,
 ((Says C 20 [(D.agg [D.nil, (dI x1), (dI x2), (dI x3)]), (D.agg [(Dw n4 1 l4), (dI x5)]), (D.agg [(dI x6), (dI x7)])] [(D.agg [(D.sl (n14) 1 (cs2)), (dI n15)])]) ∧
 (((Qv (Value.agg [(Sl 1009 (n1) (n1)), (vI n2)].toArray)) ∧
 ((bcase (n3 == 0)
 Qb
 Qft) ∧
 ((Qv (vI n3)) ∧
 True))) ∧
 (bcase (dL n1 1 cs1)
 (bcase (dL n14 1 cs2)
 (((Says C 19 [(D.agg [(Dw n1 1 cs1), (dI n2)]), (D.agg [(Dw n14 1 cs2), (dI n15)])] kT) ∧
 ((Qb ∧
 ((bcase (n3 == 0)
 Qb
 Qft) ∧
 ((Qv (vI n3)) ∧
 True))) ∧
 (True ∧
 (k kT)))) ∨
 ((Says C 19 [(D.agg [(Dw n1 1 cs1), (dI n2)]), (D.agg [(Dw n14 1 cs2), (dI n15)])] kF) ∧
 ((Qf ∧
 ((bcase (n3 == 0)
 Qb
 Qft) ∧
 ((Qv (vI n3)) ∧
 True))) ∧
 (True ∧
 (k kF)))))
 False)
 False)))))))
 False))
 ((Qu ∧
 (Qu ∧
 (Qu ∧
 (Qu ∧
 (Qf ∧
 ((bcase (n3 == 0)
 Qtf
 Qf) ∧
 ((Qv (vI n3)) ∧
 True))))))) ∧
 ((Qu ∧
 ((bcase (n3 == 0)
 Qtf
 Qf) ∧
 ((Qv (vI n3)) ∧
 True))) ∧
 ((Qf ∧
 ((bcase (n3 == 0)
 Qtf
 Qf) ∧
 ((Qv (vI n3)) ∧
 True))) ∧
 (True ∧
 (k kF)))))))))))
 False)))))))
 False)))))
 False))))
 False)))
 False)))))))))))))))
 False))
 False))))))))))
 False)))
 False))))
 (k kT))) ∨
 ((Says C 5 [] kF) ∧
 (k kF))) := by kernel_rfl
end Go.Proofs.G5h
