/- Texts of the proof, put together: GhHLc, GhH7, GhHKS. -/
import Derived.Test.YtoelmajokkdeoaaP4
import Derived.Test.YtoelmajokkdeoaaP5
import Derived.Test.YtoelmajokkdeoaaP6
import Derived.Test.YtoelmajokkdeoaaGhHLa
import Derived.Test.YtoelmajokkdeoaaGhHLb
/- What is left to show of each function, written out; the kernel reckons it. -/
namespace Go.Proofs.G5h
open Go Go.Abs Go.Proofs
set_option maxRecDepth 100000
set_option linter.unusedVariables false
def gLsc (C : Ct) (L : AtLoop) (x1 : Int) (x2 : Int) (x3 : Int) (x5 : Int) (x6 : Int) (x7 : Int) (k : List D → Prop) : Prop := wpFn Try.prog (hH C) L 0 3 #[.agg #[.slice none 0 0, .int .i64 x1, .int .i64 x2, .int .i64 x3], .agg #[.slice none 0 0, .int .i64 x5], .agg #[.int .i64 x6, .int .i64 x7]] (heapOf []) (dataK k)
theorem gLsc_text (C : Ct) (L : AtLoop) (x1 : Int) (x2 : Int) (x3 : Int) (x5 : Int) (x6 : Int) (x7 : Int) (k : List D → Prop) : gLsc C L x1 x2 x3 x5 x6 x7 k =
 (((Says C 5 [] kT) ∧
 ((((Qv (Pt 1006 0)) ∧
 (Qv (some (AObj.cells [(Value.slice none 0 0), (vI 0)] 31 false 2)))) ∧
 ((Qv (Value.agg [(vI x6), (vI x7)].toArray)) ∧
 ((Qv (Value.agg [(Value.slice none 0 0), (vI x5)].toArray)) ∧
 ((Qv (Value.agg [(Value.slice none 0 0), (vI x1), (vI x2), (vI x3)].toArray)) ∧
 True)))) ∧
 ((Says C 8 [(D.agg [D.nil, (dI x1), (dI x2), (dI x3)])] [(D.agg [(D.sl 0 2 []), (dI x1), (dI x2), (dI x3)])]) ∧
 ((((Qv (Pt 1006 0)) ∧
 (Qv (some (AObj.cells [(Value.slice none 0 0), (vI 0)] 31 false 2)))) ∧
 ((Qv (Value.agg [(vI x6), (vI x7)].toArray)) ∧
 ((Qv (Value.agg [(Value.slice none 0 0), (vI x5)].toArray)) ∧
 True))) ∧
 ((Says C 9 [(D.agg [D.nil, (dI x5)])] [(D.agg [(D.sl 0 1 []), (dI x5)])]) ∧
 ((((Qv (Pt 1006 0)) ∧
 (Qv (some (AObj.cells [(Value.slice none 0 0), (vI 0)] 31 false 2)))) ∧
 ((Qv (Value.agg [(vI x6), (vI x7)].toArray)) ∧
 True)) ∧
 ((∃ n1 : Int,
 (∃ n2 : Int,
 ((Says C 7 [(D.agg [(D.sl 0 2 []), (dI x1), (dI x2), (dI x3)]), (D.agg [(D.sl 0 1 []), (dI x5)]), (D.agg [(dI x6), (dI x7)])] [(D.agg [D.nil, (dI n1)]), (dI n2)]) ∧
 (((Qv (vI n2)) ∧
 ((Qv (Value.agg [(Value.slice none 0 0), (vI n1)].toArray)) ∧
 ((Qv (Value.tuple [(Value.agg [(Value.slice none 0 0), (vI n1)].toArray), (vI n2)].toArray)) ∧
 (((Qv (Pt 1006 0)) ∧
 (Qv (some (AObj.cells [(Value.slice none 0 0), (vI 0)] 31 false 2)))) ∧
 True)))) ∧
 (((Qv (vI n2)) ∧
 True) ∧
 (True ∧
 ((Says C 9 [(D.agg [D.nil, (dI x5)])] [(D.agg [(D.sl 0 1 []), (dI x5)])]) ∧
 (∃ n3 : Int,
 (∃ n4 : Int,
 (∃ n5 : Int,
 ((Says C 10 [(D.agg [(D.sl 0 1 []), (dI x5)])] [(D.agg [(dI n3), (dI n4)]), (dI n5)]) ∧
 (((Qv (Value.agg [(Value.slice none 0 0), (vI x1), (vI x2), (vI x3)].toArray)) ∧
 ((Qv (Value.agg [(Value.slice none 0 0), (vI x1), (vI x2), (vI x3)].toArray)) ∧
 True)) ∧
 ((Says C 8 [(D.agg [D.nil, (dI x1), (dI x2), (dI x3)])] [(D.agg [(D.sl 0 2 []), (dI x1), (dI x2), (dI x3)])]) ∧
 (((Qv (Value.agg [(Value.slice none 0 0), (vI x1), (vI x2), (vI x3)].toArray)) ∧
 True) ∧
 (∃ n6 : Int,
 ((Says C 11 [(D.agg [(D.sl 0 2 []), (dI x1), (dI x2), (dI x3)])] [(dI n6)]) ∧
 (((Qv (Value.agg [(Value.slice none 0 0), (vI x1), (vI x2), (vI x3)].toArray)) ∧
 True) ∧
 (∃ n7 : Int,
 ((Says C 12 [(D.agg [D.nil, (dI x1), (dI x2), (dI x3)])] [(dI n7)]) ∧
 (bcase (n6 != n7)
 ((Qu ∧
 (Qu ∧
 (Qb ∧
 ((bcase (n6 != n7)
 Qb
 Qft) ∧
 True)))) ∧
 ((Qu ∧
 ((bcase (n6 != n7)
 Qb
 Qft) ∧
 True)) ∧
 ((Qu ∧
 ((bcase (n6 != n7)
 Qb
 Qft) ∧
 True)) ∧
 ((Qb ∧
 (Qu ∧
 ((bcase (n6 != n7)
 Qb
 Qft) ∧
 True))) ∧
 (k kF)))))
 (((Qv (Value.agg [(Value.slice none 0 0), (vI x5)].toArray)) ∧
 ((Qv (Value.agg [(Value.slice none 0 0), (vI x5)].toArray)) ∧
 (Qf ∧
 ((bcase (n6 != n7)
 Qtf
 Qf) ∧
 True)))) ∧
 ((Says C 9 [(D.agg [D.nil, (dI x5)])] [(D.agg [(D.sl 0 1 []), (dI x5)])]) ∧
 (((Qv (Value.agg [(Value.slice none 0 0), (vI x5)].toArray)) ∧
 ((bcase (n6 != n7)
 Qtf
 Qf) ∧
 True)) ∧
 (∃ n8 : Int,
 ((Says C 13 [(D.agg [(D.sl 0 1 []), (dI x5)])] [(dI n8)]) ∧
 (((Qv (Value.agg [(Value.slice none 0 0), (vI x5)].toArray)) ∧
 ((bcase (n6 != n7)
 Qtf
 Qf) ∧
 True)) ∧
 (∃ n9 : Int,
 ((Says C 14 [(D.agg [D.nil, (dI x5)])] [(dI n9)]) ∧
 (bcase (n8 != n9)
 ((Qb ∧
 ((bcase (n8 != n9)
 Qb
 Qft) ∧
 ((bcase (n6 != n7)
 Qtf
 Qf) ∧
 True))) ∧
 (k kF))
 ((Qf ∧
 ((bcase (n8 != n9)
 Qtf
 Qf) ∧
 ((bcase (n6 != n7)
 Qtf
 Qf) ∧
 True))) ∧
 (∃ n10 : Int,
 ((Says C 14 [(D.agg [D.nil, (dI x5)])] [(dI n10)]) ∧
 (bcase (n10 != 0)
 (bcase (n5 != n10)
 ((Qu ∧
 (Qu ∧
 (Qu ∧
 (Qu ∧
 (Qu ∧
 (Qu ∧
 (Qu ∧
 (Qu ∧
 (Qb ∧
 (Qb ∧
 (Qb ∧
 (Qu ∧
 (Qu ∧
 (Qu ∧
 (Qb ∧
 ((bcase (n5 != n10)
 Qb
 Qft) ∧
 ((Qv (vI n10)) ∧
 ((Qv (vI n5)) ∧
 (Qb ∧
 ((bcase (n10 != 0)
 Qb
 Qft) ∧
 ((Qv (vI n10)) ∧
 True))))))))))))))))))))) ∧
 ((Qb ∧
 (Qu ∧
 (Qu ∧
 (Qu ∧
 (Qu ∧
 (Qu ∧
 (Qu ∧
 (Qu ∧
 (Qu ∧
 (Qu ∧
 (Qb ∧
 (Qb ∧
 (Qb ∧
 (Qu ∧
 (Qu ∧
 (Qu ∧
 (Qb ∧
 ((bcase (n5 != n10)
 Qb
 Qft) ∧
 ((Qv (vI n10)) ∧
 ((Qv (vI n5)) ∧
 (Qb ∧
 ((bcase (n10 != 0)
 Qb
 Qft) ∧
 ((Qv (vI n10)) ∧
 True))))))))))))))))))))))) ∧
 (k kF)))
 (bcase (if Bool.true = Bool.true then !(n3 == 0 && (n4 == 0 && Bool.true)) else n3 == 0 && (n4 == 0 && Bool.true))
 ((Qu ∧
 (Qu ∧
 (Qu ∧
 (Qu ∧
 (Qu ∧
 (Qu ∧
 (Qu ∧
 (Qu ∧
 (Qb ∧
 (Qb ∧
 (Qb ∧
 ((bcase (if Bool.true = Bool.true then !(n3 == 0 && (n4 == 0 && Bool.true)) else n3 == 0 && (n4 == 0 && Bool.true))
 Qb
 Qft) ∧
 ((Qv (Value.agg [(vI 0), (vI 0)].toArray)) ∧
 ((Qv (Value.agg [(vI n3), (vI n4)].toArray)) ∧
 (Qf ∧
 ((bcase (n5 != n10)
 Qtf
 Qf) ∧
 ((Qv (vI n10)) ∧
 ((Qv (vI n5)) ∧
 (Qb ∧
 ((bcase (n10 != 0)
 Qb
 Qft) ∧
 ((Qv (vI n10)) ∧
 True))))))))))))))))))))) ∧
 ((Qb ∧
 (Qu ∧
 (Qu ∧
 (Qu ∧
 (Qu ∧
 (Qu ∧
 (Qu ∧
 (Qu ∧
 (Qu ∧
 (Qu ∧
 (Qb ∧
 (Qb ∧
 (Qb ∧
 ((bcase (if Bool.true = Bool.true then !(n3 == 0 && (n4 == 0 && Bool.true)) else n3 == 0 && (n4 == 0 && Bool.true))
 Qb
 Qft) ∧
 ((Qv (Value.agg [(vI 0), (vI 0)].toArray)) ∧
 ((Qv (Value.agg [(vI n3), (vI n4)].toArray)) ∧
 (Qf ∧
 ((bcase (n5 != n10)
 Qtf
 Qf) ∧
 ((Qv (vI n10)) ∧
 ((Qv (vI n5)) ∧
 (Qb ∧
 ((bcase (n10 != 0)
 Qb
 Qft) ∧
 ((Qv (vI n10)) ∧
 True))))))))))))))))))))))) ∧
 (k kF)))
 (bcase (n10 == 0)
 (bcase (n5 != 0)
 ((Qu ∧
 (Qu ∧
 (Qb ∧
 ((bcase (n5 != 0)
 Qb
 Qft) ∧
 ((Qv (vI n5)) ∧
 (Qb ∧
 ((bcase (n10 == 0)
 Qb
 Qft) ∧
 ((Qv (vI n10)) ∧
 (Qf ∧
 (Qf ∧
 (Qf ∧
 ((bcase (if Bool.true = Bool.true then !(n3 == 0 && (n4 == 0 && Bool.true)) else n3 == 0 && (n4 == 0 && Bool.true))
 Qtf
 Qf) ∧
 ((Qv (Value.agg [(vI 0), (vI 0)].toArray)) ∧
 ((Qv (Value.agg [(vI n3), (vI n4)].toArray)) ∧
 (Qf ∧
 ((bcase (n5 != n10)
 Qtf
 Qf) ∧
 ((Qv (vI n10)) ∧
 ((Qv (vI n5)) ∧
 (Qb ∧
 ((bcase (n10 != 0)
 Qb
 Qft) ∧
 ((Qv (vI n10)) ∧
 True))))))))))))))))))))) ∧
 ((Qb ∧
 (Qb ∧
 (Qb ∧
 (Qu ∧
 (Qu ∧
 ((bcase (n5 != 0)
 Qb
 Qft) ∧
 ((Qv (vI n5)) ∧
 (Qb ∧
 ((bcase (n10 == 0)
 Qb
 Qft) ∧
 ((Qv (vI n10)) ∧
 (Qf ∧
 (Qf ∧
 (Qf ∧
 ((bcase (if Bool.true = Bool.true then !(n3 == 0 && (n4 == 0 && Bool.true)) else n3 == 0 && (n4 == 0 && Bool.true))
 Qtf
 Qf) ∧
 ((Qv (Value.agg [(vI 0), (vI 0)].toArray)) ∧
 ((Qv (Value.agg [(vI n3), (vI n4)].toArray)) ∧
 (Qf ∧
 ((bcase (n5 != n10)
 Qtf
 Qf) ∧
 ((Qv (vI n10)) ∧
 ((Qv (vI n5)) ∧
 (Qb ∧
 ((bcase (n10 != 0)
 Qb
 Qft) ∧
 ((Qv (vI n10)) ∧
 True))))))))))))))))))))))) ∧
 (k kF)))
 (((Qv (Value.agg [(Value.slice none 0 0), (vI x5)].toArray)) ∧
 ((Qv (Value.agg [(vI n3), (vI n4)].toArray)) ∧
 (Qf ∧
 ((bcase (n5 != 0)
 Qtf
 Qf) ∧
 ((Qv (vI n5)) ∧
 (Qb ∧
 ((bcase (n10 == 0)
 Qb
 Qft) ∧
 ((Qv (vI n10)) ∧
 (Qf ∧
 (Qf ∧
 (Qf ∧
 ((bcase (if Bool.true = Bool.true then !(n3 == 0 && (n4 == 0 && Bool.true)) else n3 == 0 && (n4 == 0 && Bool.true))
 Qtf
 Qf) ∧
 ((Qv (Value.agg [(vI 0), (vI 0)].toArray)) ∧
 ((Qv (Value.agg [(vI n3), (vI n4)].toArray)) ∧
 (Qf ∧
 ((bcase (n5 != n10)
 Qtf
 Qf) ∧
 ((Qv (vI n10)) ∧
 ((Qv (vI n5)) ∧
 (Qb ∧
 ((bcase (n10 != 0)
 Qb
 Qft) ∧
 ((Qv (vI n10)) ∧
 True))))))))))))))))))))) ∧
 (∃ n11 : Int,
 (∃ n12 : Int,
 ((Says C 15 [(D.agg [D.nil, (dI x5)])] [(D.agg [(dI n11), (dI n12)])]) ∧
 (bcase (if Bool.true = Bool.true then !(n3 == n11 && (n4 == n12 && Bool.true)) else n3 == n11 && (n4 == n12 && Bool.true))
 ((Qb ∧
 (Qb ∧
 (Qb ∧
 ((bcase (if Bool.true = Bool.true then !(n3 == n11 && (n4 == n12 && Bool.true)) else n3 == n11 && (n4 == n12 && Bool.true))
 Qb
 Qft) ∧
 ((Qv (Value.agg [(vI n3), (vI n4)].toArray)) ∧
 ((bcase (n5 != 0)
 Qtf
 Qf) ∧
 ((Qv (vI n5)) ∧
 (Qb ∧
 ((bcase (n10 == 0)
 Qb
 Qft) ∧
 ((Qv (vI n10)) ∧
 (Qf ∧
 (Qf ∧
 (Qf ∧
 ((bcase (if Bool.true = Bool.true then !(n3 == 0 && (n4 == 0 && Bool.true)) else n3 == 0 && (n4 == 0 && Bool.true))
 Qtf
 Qf) ∧
 ((Qv (Value.agg [(vI 0), (vI 0)].toArray)) ∧
 ((Qv (Value.agg [(vI n3), (vI n4)].toArray)) ∧
 (Qf ∧
 ((bcase (n5 != n10)
 Qtf
 Qf) ∧
 ((Qv (vI n10)) ∧
 ((Qv (vI n5)) ∧
 (Qb ∧
 ((bcase (n10 != 0)
 Qb
 Qft) ∧
 ((Qv (vI n10)) ∧
 True))))))))))))))))))))))) ∧
 (k kF))
 ((Qf ∧
 (Qf ∧
 (Qf ∧
 ((bcase (if Bool.true = Bool.true then !(n3 == n11 && (n4 == n12 && Bool.true)) else n3 == n11 && (n4 == n12 && Bool.true))
 Qtf
 Qf) ∧
 ((Qv (Value.agg [(vI n3), (vI n4)].toArray)) ∧
 ((bcase (n5 != 0)
 Qtf
 Qf) ∧
 ((Qv (vI n5)) ∧
 (Qb ∧
 ((bcase (n10 == 0)
 Qb
 Qft) ∧
 ((Qv (vI n10)) ∧
 (Qf ∧
 (Qf ∧
 (Qf ∧
 ((bcase (if Bool.true = Bool.true then !(n3 == 0 && (n4 == 0 && Bool.true)) else n3 == 0 && (n4 == 0 && Bool.true))
 Qtf
 Qf) ∧
 ((Qv (Value.agg [(vI 0), (vI 0)].toArray)) ∧
 ((Qv (Value.agg [(vI n3), (vI n4)].toArray)) ∧
 (Qf ∧
 ((bcase (n5 != n10)
 Qtf
 Qf) ∧
 ((Qv (vI n10)) ∧
 ((Qv (vI n5)) ∧
 (Qb ∧
 ((bcase (n10 != 0)
 Qb
 Qft) ∧
 ((Qv (vI n10)) ∧
 True))))))))))))))))))))))) ∧
 (∃ n13 : Int,
 ((Says C 16 [(D.agg [D.nil, (dI x1), (dI x2), (dI x3)]), (D.agg [D.nil, (dI x5)])] [(dI n13)]) ∧
 (bcase (n13 == 0)
 (∃ n14 : Int,
 ((Says C 17 [(dI x6)] [(dI n14)]) ∧
 (bcase (n14 == 0)
 (∃ n15 : Int,
 ((Says C 18 [(dI x7)] [(dI n15)]) ∧
 (bcase (n15 != 0)
 (bcase (n2 == n15)
 (((Says C 19 [(D.agg [D.nil, (dI n1)]), (D.agg [D.nil, (dI 0)])] kT) ∧
 (k kT)) ∨
 ((Says C 19 [(D.agg [D.nil, (dI n1)]), (D.agg [D.nil, (dI 0)])] kF) ∧
 (k kF)))
 (k kF))
 (bcase (n2 == 0)
 (((Qv (Value.agg [(vI x6), (vI x7)].toArray)) ∧
 ((Qv (Value.agg [(Value.slice none 0 0), (vI x5)].toArray)) ∧
 ((Qv (Value.agg [(Value.slice none 0 0), (vI x1), (vI x2), (vI x3)].toArray)) ∧
 ((Qv (Value.agg [(Value.slice none 0 0), (vI n1)].toArray)) ∧
 (Qb ∧
 ((bcase (n2 == 0)
 Qb
 Qft) ∧
 ((Qv (vI n2)) ∧
 True))))))) ∧
 ((∃ n16 : Int,
 ((Says C 20 [(D.agg [D.nil, (dI x1), (dI x2), (dI x3)]), (D.agg [D.nil, (dI x5)]), (D.agg [(dI x6), (dI x7)])] [(D.agg [D.nil, (dI n16)])]) ∧
 (((Qv (Value.agg [(Value.slice none 0 0), (vI n1)].toArray)) ∧
 ((bcase (n2 == 0)
 Qb
 Qft) ∧
 ((Qv (vI n2)) ∧
 True))) ∧
 (((Says C 19 [(D.agg [D.nil, (dI n1)]), (D.agg [D.nil, (dI n16)])] kT) ∧
 ((Qb ∧
 ((bcase (n2 == 0)
 Qb
 Qft) ∧
 ((Qv (vI n2)) ∧
 True))) ∧
 (True ∧
 (k kT)))) ∨
 ((Says C 19 [(D.agg [D.nil, (dI n1)]), (D.agg [D.nil, (dI n16)])] kF) ∧
 ((Qf ∧
 ((bcase (n2 == 0)
 Qb
 Qft) ∧
 ((Qv (vI n2)) ∧
 True))) ∧
 (True ∧
 (k kF)))))))) ∨
 (∃ n16 : Nat,
 (∃ cs1 : List Go.Value,
 (∃ n17 : Int,
 ((Says C 20 [(D.agg [D.nil, (dI x1), (dI x2), (dI x3)]), (D.agg [D.nil, (dI x5)]), (D.agg [(dI x6), (dI x7)])] [(D.agg [(D.sl (n16) 1 (cs1)), (dI n17)])]) ∧
 (((Qv (Value.agg [(Value.slice none 0 0), (vI n1)].toArray)) ∧
 ((bcase (n2 == 0)
 Qb
 Qft) ∧
 ((Qv (vI n2)) ∧
 True))) ∧
 (bcase (dL n16 1 cs1)
 (((Says C 19 [(D.agg [D.nil, (dI n1)]), (D.agg [(Dw n16 1 cs1), (dI n17)])] kT) ∧
 ((Qb ∧
 ((bcase (n2 == 0)
 Qb
 Qft) ∧
 ((Qv (vI n2)) ∧
 True))) ∧
 (True ∧
 (k kT)))) ∨
 ((Says C 19 [(D.agg [D.nil, (dI n1)]), (D.agg [(Dw n16 1 cs1), (dI n17)])] kF) ∧
 ((Qf ∧
 ((bcase (n2 == 0)
 Qb
 Qft) ∧
 ((Qv (vI n2)) ∧
 True))) ∧
 (True ∧
 (k kF)))))
 False))))))))
 ((Qu ∧
 (Qu ∧
 (Qu ∧
 (Qu ∧
 (Qf ∧
 ((bcase (n2 == 0)
 Qtf
 Qf) ∧
 ((Qv (vI n2)) ∧
 True))))))) ∧
 ((Qu ∧
 ((bcase (n2 == 0)
 Qtf
 Qf) ∧
 ((Qv (vI n2)) ∧
 True))) ∧
 ((Qf ∧
 ((bcase (n2 == 0)
 Qtf
 Qf) ∧
 ((Qv (vI n2)) ∧
 True))) ∧
 (True ∧
 (k kF)))))))))
 (bcase (n14 != 0)
 (bcase (n2 == n14)
 (((Says C 19 [(D.agg [D.nil, (dI n1)]), (D.agg [D.nil, (dI 0)])] kT) ∧
 (k kT)) ∨
 ((Says C 19 [(D.agg [D.nil, (dI n1)]), (D.agg [D.nil, (dI 0)])] kF) ∧
 (k kF)))
 (k kF))
 (bcase (n2 == 0)
 (((Qv (Value.agg [(vI x6), (vI x7)].toArray)) ∧
 ((Qv (Value.agg [(Value.slice none 0 0), (vI x5)].toArray)) ∧
 ((Qv (Value.agg [(Value.slice none 0 0), (vI x1), (vI x2), (vI x3)].toArray)) ∧
 ((Qv (Value.agg [(Value.slice none 0 0), (vI n1)].toArray)) ∧
 (Qb ∧
 ((bcase (n2 == 0)
 Qb
 Qft) ∧
 ((Qv (vI n2)) ∧
 True))))))) ∧
 ((∃ n15 : Int,
 ((Says C 20 [(D.agg [D.nil, (dI x1), (dI x2), (dI x3)]), (D.agg [D.nil, (dI x5)]), (D.agg [(dI x6), (dI x7)])] [(D.agg [D.nil, (dI n15)])]) ∧
 (((Qv (Value.agg [(Value.slice none 0 0), (vI n1)].toArray)) ∧
 ((bcase (n2 == 0)
 Qb
 Qft) ∧
 ((Qv (vI n2)) ∧
 True))) ∧
 (((Says C 19 [(D.agg [D.nil, (dI n1)]), (D.agg [D.nil, (dI n15)])] kT) ∧
 ((Qb ∧
 ((bcase (n2 == 0)
 Qb
 Qft) ∧
 ((Qv (vI n2)) ∧
 True))) ∧
 (True ∧
 (k kT)))) ∨
 ((Says C 19 [(D.agg [D.nil, (dI n1)]), (D.agg [D.nil, (dI n15)])] kF) ∧
 ((Qf ∧
 ((bcase (n2 == 0)
 Qb
 Qft) ∧
 ((Qv (vI n2)) ∧
 True))) ∧
 (True ∧
 (k kF)))))))) ∨
 (∃ n15 : Nat,
 (∃ cs1 : List Go.Value,
 (∃ n16 : Int,
 ((Says C 20 [(D.agg [D.nil, (dI x1), (dI x2), (dI x3)]), (D.agg [D.nil, (dI x5)]), (D.agg [(dI x6), (dI x7)])] [(D.agg [(D.sl (n15) 1 (cs1)), (dI n16)])]) ∧
 (((Qv (Value.agg [(Value.slice none 0 0), (vI n1)].toArray)) ∧
 ((bcase (n2 == 0)
 Qb
 Qft) ∧
 ((Qv (vI n2)) ∧
 True))) ∧
 (bcase (dL n15 1 cs1)
 (((Says C 19 [(D.agg [D.nil, (dI n1)]), (D.agg [(Dw n15 1 cs1), (dI n16)])] kT) ∧
 ((Qb ∧
 ((bcase (n2 == 0)
 Qb
 Qft) ∧
 ((Qv (vI n2)) ∧
 True))) ∧
 (True ∧
 (k kT)))) ∨
 ((Says C 19 [(D.agg [D.nil, (dI n1)]), (D.agg [(Dw n15 1 cs1), (dI n16)])] kF) ∧
 ((Qf ∧
 ((bcase (n2 == 0)
 Qb
 Qft) ∧
 ((Qv (vI n2)) ∧
 True))) ∧
 (True ∧
 (k kF)))))
 False))))))))
 ((Qu ∧
 (Qu ∧
 (Qu ∧
 (Qu ∧
 (Qf ∧
 ((bcase (n2 == 0)
 Qtf
 Qf) ∧
 ((Qv (vI n2)) ∧
 True))))))) ∧
 ((Qu ∧
 ((bcase (n2 == 0)
 Qtf
 Qf) ∧
 ((Qv (vI n2)) ∧
 True))) ∧
 ((Qf ∧
 ((bcase (n2 == 0)
 Qtf
 Qf) ∧
 ((Qv (vI n2)) ∧
 True))) ∧
 (True ∧
 (k kF))))))))))
 (bcase (n13 == 0)
 (∃ n14 : Int,
 ((Says C 18 [(dI x7)] [(dI n14)]) ∧
 (bcase (n14 != 0)
 (bcase (n2 == n14)
 (((Says C 19 [(D.agg [D.nil, (dI n1)]), (D.agg [D.nil, (dI 0)])] kT) ∧
 (k kT)) ∨
 ((Says C 19 [(D.agg [D.nil, (dI n1)]), (D.agg [D.nil, (dI 0)])] kF) ∧
 (k kF)))
 (k kF))
 (bcase (n2 == 0)
 (((Qv (Value.agg [(vI x6), (vI x7)].toArray)) ∧
 ((Qv (Value.agg [(Value.slice none 0 0), (vI x5)].toArray)) ∧
 ((Qv (Value.agg [(Value.slice none 0 0), (vI x1), (vI x2), (vI x3)].toArray)) ∧
 ((Qv (Value.agg [(Value.slice none 0 0), (vI n1)].toArray)) ∧
 (Qb ∧
 ((bcase (n2 == 0)
 Qb
 Qft) ∧
 ((Qv (vI n2)) ∧
 True))))))) ∧
 ((∃ n15 : Int,
 ((Says C 20 [(D.agg [D.nil, (dI x1), (dI x2), (dI x3)]), (D.agg [D.nil, (dI x5)]), (D.agg [(dI x6), (dI x7)])] [(D.agg [D.nil, (dI n15)])]) ∧
 (((Qv (Value.agg [(Value.slice none 0 0), (vI n1)].toArray)) ∧
 ((bcase (n2 == 0)
 Qb
 Qft) ∧
 ((Qv (vI n2)) ∧
 True))) ∧
 (((Says C 19 [(D.agg [D.nil, (dI n1)]), (D.agg [D.nil, (dI n15)])] kT) ∧
 ((Qb ∧
 ((bcase (n2 == 0)
 Qb
 Qft) ∧
 ((Qv (vI n2)) ∧
 True))) ∧
 (True ∧
 (k kT)))) ∨
 ((Says C 19 [(D.agg [D.nil, (dI n1)]), (D.agg [D.nil, (dI n15)])] kF) ∧
 ((Qf ∧
 ((bcase (n2 == 0)
 Qb
 Qft) ∧
 ((Qv (vI n2)) ∧
 True))) ∧
 (True ∧
 (k kF)))))))) ∨
 (∃ n15 : Nat,
 (∃ cs1 : List Go.Value,
 (∃ n16 : Int,
 ((Says C 20 [(D.agg [D.nil, (dI x1), (dI x2), (dI x3)]), (D.agg [D.nil, (dI x5)]), (D.agg [(dI x6), (dI x7)])] [(D.agg [(D.sl (n15) 1 (cs1)), (dI n16)])]) ∧
 (((Qv (Value.agg [(Value.slice none 0 0), (vI n1)].toArray)) ∧
 ((bcase (n2 == 0)
 Qb
 Qft) ∧
 ((Qv (vI n2)) ∧
 True))) ∧
 (bcase (dL n15 1 cs1)
 (((Says C 19 [(D.agg [D.nil, (dI n1)]), (D.agg [(Dw n15 1 cs1), (dI n16)])] kT) ∧
 ((Qb ∧
 ((bcase (n2 == 0)
 Qb
 Qft) ∧
 ((Qv (vI n2)) ∧
 True))) ∧
 (True ∧
 (k kT)))) ∨
 ((Says C 19 [(D.agg [D.nil, (dI n1)]), (D.agg [(Dw n15 1 cs1), (dI n16)])] kF) ∧
 ((Qf ∧
 ((bcase (n2 == 0)
 Qb
 Qft) ∧
 ((Qv (vI n2)) ∧
 True))) ∧
 (True ∧
 (k kF)))))
 False))))))))
 ((Qu ∧
 (Qu ∧
 (Qu ∧
 (Qu ∧
 (Qf ∧
 ((bcase (n2 == 0)
 Qtf
 Qf) ∧
 ((Qv (vI n2)) ∧
 True))))))) ∧
 ((Qu ∧
 ((bcase (n2 == 0)
 Qtf
 Qf) ∧
 ((Qv (vI n2)) ∧
 True))) ∧
 ((Qf ∧
 ((bcase (n2 == 0)
 Qtf
 Qf) ∧
 ((Qv (vI n2)) ∧
 True))) ∧
 (True ∧
 (k kF)))))))))
 (bcase (n13 != 0)
 (bcase (n2 == n13)
 (((Says C 19 [(D.agg [D.nil, (dI n1)]), (D.agg [D.nil, (dI 0)])] kT) ∧
 (k kT)) ∨
 ((Says C 19 [(D.agg [D.nil, (dI n1)]), (D.agg [D.nil, (dI 0)])] kF) ∧
 (k kF)))
 (k kF))
 (bcase (n2 == 0)
 (((Qv (Value.agg [(vI x6), (vI x7)].toArray)) ∧
 ((Qv (Value.agg [(Value.slice none 0 0), (vI x5)].toArray)) ∧
 ((Qv (Value.agg [(Value.slice none 0 0), (vI x1), (vI x2), (vI x3)].toArray)) ∧
 ((Qv (Value.agg [(Value.slice none 0 0), (vI n1)].toArray)) ∧
 (Qb ∧
 ((bcase (n2 == 0)
 Qb
 Qft) ∧
 ((Qv (vI n2)) ∧
 True))))))) ∧
 ((∃ n14 : Int,
 ((Says C 20 [(D.agg [D.nil, (dI x1), (dI x2), (dI x3)]), (D.agg [D.nil, (dI x5)]), (D.agg [(dI x6), (dI x7)])] [(D.agg [D.nil, (dI n14)])]) ∧
 (((Qv (Value.agg [(Value.slice none 0 0), (vI n1)].toArray)) ∧
 ((bcase (n2 == 0)
 Qb
 Qft) ∧
 ((Qv (vI n2)) ∧
 True))) ∧
 (((Says C 19 [(D.agg [D.nil, (dI n1)]), (D.agg [D.nil, (dI n14)])] kT) ∧
 ((Qb ∧
 ((bcase (n2 == 0)
 Qb
 Qft) ∧
 ((Qv (vI n2)) ∧
 True))) ∧
 (True ∧
 (k kT)))) ∨
 ((Says C 19 [(D.agg [D.nil, (dI n1)]), (D.agg [D.nil, (dI n14)])] kF) ∧
 ((Qf ∧
 ((bcase (n2 == 0)
 Qb
 Qft) ∧
 ((Qv (vI n2)) ∧
 True))) ∧
 (True ∧
 (k kF)))))))) ∨
 (∃ n14 : Nat,
 (∃ cs1 : List Go.Value,
 (∃ n15 : Int,
 ((Says C 20 [(D.agg [D.nil, (dI x1), (dI x2), (dI x3)]), (D.agg [D.nil, (dI x5)]), (D.agg [(dI x6), (dI x7)])] [(D.agg [(D.sl (n14) 1 (cs1)), (dI n15)])]) ∧
 (((Qv (Value.agg [(Value.slice none 0 0), (vI n1)].toArray)) ∧
 ((bcase (n2 == 0)
 Qb
 Qft) ∧
 ((Qv (vI n2)) ∧
 True))) ∧
 (bcase (dL n14 1 cs1)
 (((Says C 19 [(D.agg [D.nil, (dI n1)]), (D.agg [(Dw n14 1 cs1), (dI n15)])] kT) ∧
 ((Qb ∧
 ((bcase (n2 == 0)
 Qb
 Qft) ∧
 ((Qv (vI n2)) ∧
 True))) ∧
 (True ∧
 (k kT)))) ∨
 ((Says C 19 [(D.agg [D.nil, (dI n1)]), (D.agg [(Dw n14 1 cs1), (dI n15)])] kF) ∧
 ((Qf ∧
 ((bcase (n2 == 0)
 Qb
 Qft) ∧
 ((Qv (vI n2)) ∧
 True))) ∧
 (True ∧
 (k kF)))))
 False))))))))
 ((Qu ∧
 (Qu ∧
 (Qu ∧
 (Qu ∧
 (Qf ∧
 ((bcase (n2 == 0)
 Qtf
 Qf) ∧
 ((Qv (vI n2)) ∧
 True))))))) ∧
 ((Qu ∧
 ((bcase (n2 == 0)
 Qtf
 Qf) ∧
 ((Qv (vI n2)) ∧
 True))) ∧
 ((Qf ∧
 ((bcase (n2 == 0)
 Qtf
 Qf) ∧
 ((Qv (vI n2)) ∧
 True))) ∧
 (True ∧
 (k kF))))))))))))))))))
 ((Qu ∧
 (Qu ∧
 (Qu ∧
 (Qu ∧
 (Qu ∧
 (Qf ∧
 ((bcase (n10 == 0)
 Qtf
 Qf) ∧
 ((Qv (vI n10)) ∧
 (Qf ∧
 (Qf ∧
 (Qf ∧
 ((bcase (if Bool.true = Bool.true then !(n3 == 0 && (n4 == 0 && Bool.true)) else n3 == 0 && (n4 == 0 && Bool.true))
 Qtf
 Qf) ∧
 ((Qv (Value.agg [(vI 0), (vI 0)].toArray)) ∧
 ((Qv (Value.agg [(vI n3), (vI n4)].toArray)) ∧
 (Qf ∧
 ((bcase (n5 != n10)
 Qtf
 Qf) ∧
 ((Qv (vI n10)) ∧
 ((Qv (vI n5)) ∧
 (Qb ∧
 ((bcase (n10 != 0)
 Qb
 Qft) ∧
 ((Qv (vI n10)) ∧
 True))))))))))))))))))))) ∧
 ((Qf ∧
 (Qf ∧
 (Qu ∧
 (Qu ∧
 (Qu ∧
 (Qu ∧
 (Qu ∧
 (Qf ∧
 ((bcase (n10 == 0)
 Qtf
 Qf) ∧
 ((Qv (vI n10)) ∧
 (Qf ∧
 (Qf ∧
 (Qf ∧
 ((bcase (if Bool.true = Bool.true then !(n3 == 0 && (n4 == 0 && Bool.true)) else n3 == 0 && (n4 == 0 && Bool.true))
 Qtf
 Qf) ∧
 ((Qv (Value.agg [(vI 0), (vI 0)].toArray)) ∧
 ((Qv (Value.agg [(vI n3), (vI n4)].toArray)) ∧
 (Qf ∧
 ((bcase (n5 != n10)
 Qtf
 Qf) ∧
 ((Qv (vI n10)) ∧
 ((Qv (vI n5)) ∧
 (Qb ∧
 ((bcase (n10 != 0)
 Qb
 Qft) ∧
 ((Qv (vI n10)) ∧
 True))))))))))))))))))))))) ∧
 (∃ n11 : Int,
 ((Says C 16 [(D.agg [D.nil, (dI x1), (dI x2), (dI x3)]), (D.agg [D.nil, (dI x5)])] [(dI n11)]) ∧
 (bcase (n11 == 0)
 (∃ n12 : Int,
 ((Says C 17 [(dI x6)] [(dI n12)]) ∧
 (bcase (n12 == 0)
 (∃ n13 : Int,
 ((Says C 18 [(dI x7)] [(dI n13)]) ∧
 (bcase (n13 != 0)
 (bcase (n2 == n13)
 (((Says C 19 [(D.agg [D.nil, (dI n1)]), (D.agg [D.nil, (dI 0)])] kT) ∧
 (k kT)) ∨
 ((Says C 19 [(D.agg [D.nil, (dI n1)]), (D.agg [D.nil, (dI 0)])] kF) ∧
 (k kF)))
 (k kF))
 (bcase (n2 == 0)
 (((Qv (Value.agg [(vI x6), (vI x7)].toArray)) ∧
 ((Qv (Value.agg [(Value.slice none 0 0), (vI x5)].toArray)) ∧
 ((Qv (Value.agg [(Value.slice none 0 0), (vI x1), (vI x2), (vI x3)].toArray)) ∧
 ((Qv (Value.agg [(Value.slice none 0 0), (vI n1)].toArray)) ∧
 (Qb ∧
 ((bcase (n2 == 0)
 Qb
 Qft) ∧
 ((Qv (vI n2)) ∧
 True))))))) ∧
 ((∃ n14 : Int,
 ((Says C 20 [(D.agg [D.nil, (dI x1), (dI x2), (dI x3)]), (D.agg [D.nil, (dI x5)]), (D.agg [(dI x6), (dI x7)])] [(D.agg [D.nil, (dI n14)])]) ∧
 (((Qv (Value.agg [(Value.slice none 0 0), (vI n1)].toArray)) ∧
 ((bcase (n2 == 0)
 Qb
 Qft) ∧
 ((Qv (vI n2)) ∧
 True))) ∧
 (((Says C 19 [(D.agg [D.nil, (dI n1)]), (D.agg [D.nil, (dI n14)])] kT) ∧
 ((Qb ∧
 ((bcase (n2 == 0)
 Qb
 Qft) ∧
 ((Qv (vI n2)) ∧
 True))) ∧
 (True ∧
 (k kT)))) ∨
 ((Says C 19 [(D.agg [D.nil, (dI n1)]), (D.agg [D.nil, (dI n14)])] kF) ∧
 ((Qf ∧
 ((bcase (n2 == 0)
 Qb
 Qft) ∧
 ((Qv (vI n2)) ∧
 True))) ∧
 (True ∧
 (k kF)))))))) ∨
 (∃ n14 : Nat,
 (∃ cs1 : List Go.Value,
 (∃ n15 : Int,
 ((Says C 20 [(D.agg [D.nil, (dI x1), (dI x2), (dI x3)]), (D.agg [D.nil, (dI x5)]), (D.agg [(dI x6), (dI x7)])] [(D.agg [(D.sl (n14) 1 (cs1)), (dI n15)])]) ∧
 (((Qv (Value.agg [(Value.slice none 0 0), (vI n1)].toArray)) ∧
 ((bcase (n2 == 0)
 Qb
 Qft) ∧
 ((Qv (vI n2)) ∧
 True))) ∧
 (bcase (dL n14 1 cs1)
 (((Says C 19 [(D.agg [D.nil, (dI n1)]), (D.agg [(Dw n14 1 cs1), (dI n15)])] kT) ∧
 ((Qb ∧
 ((bcase (n2 == 0)
 Qb
 Qft) ∧
 ((Qv (vI n2)) ∧
 True))) ∧
 (True ∧
 (k kT)))) ∨
 ((Says C 19 [(D.agg [D.nil, (dI n1)]), (D.agg [(Dw n14 1 cs1), (dI n15)])] kF) ∧
 ((Qf ∧
 ((bcase (n2 == 0)
 Qb
 Qft) ∧
 ((Qv (vI n2)) ∧
 True))) ∧
 (True ∧
 (k kF)))))
 False))))))))
 ((Qu ∧
 (Qu ∧
 (Qu ∧
 (Qu ∧
 (Qf ∧
 ((bcase (n2 == 0)
 Qtf
 Qf) ∧
 ((Qv (vI n2)) ∧
 True))))))) ∧
 ((Qu ∧
 ((bcase (n2 == 0)
 Qtf
 Qf) ∧
 ((Qv (vI n2)) ∧
 True))) ∧
 ((Qf ∧
 ((bcase (n2 == 0)
 Qtf
 Qf) ∧
 ((Qv (vI n2)) ∧
 True))) ∧
 (True ∧
 (k kF)))))))))
 (bcase (n12 != 0)
 (bcase (n2 == n12)
 (((Says C 19 [(D.agg [D.nil, (dI n1)]), (D.agg [D.nil, (dI 0)])] kT) ∧
 (k kT)) ∨
 ((Says C 19 [(D.agg [D.nil, (dI n1)]), (D.agg [D.nil, (dI 0)])] kF) ∧
 (k kF)))
 (k kF))
 (bcase (n2 == 0)
 (((Qv (Value.agg [(vI x6), (vI x7)].toArray)) ∧
 ((Qv (Value.agg [(Value.slice none 0 0), (vI x5)].toArray)) ∧
 ((Qv (Value.agg [(Value.slice none 0 0), (vI x1), (vI x2), (vI x3)].toArray)) ∧
 ((Qv (Value.agg [(Value.slice none 0 0), (vI n1)].toArray)) ∧
 (Qb ∧
 ((bcase (n2 == 0)
 Qb
 Qft) ∧
 ((Qv (vI n2)) ∧
 True))))))) ∧
 ((∃ n13 : Int,
 ((Says C 20 [(D.agg [D.nil, (dI x1), (dI x2), (dI x3)]), (D.agg [D.nil, (dI x5)]), (D.agg [(dI x6), (dI x7)])] [(D.agg [D.nil, (dI n13)])]) ∧
 (((Qv (Value.agg [(Value.slice none 0 0), (vI n1)].toArray)) ∧
 ((bcase (n2 == 0)
 Qb
 Qft) ∧
 ((Qv (vI n2)) ∧
 True))) ∧
 (((Says C 19 [(D.agg [D.nil, (dI n1)]), (D.agg [D.nil, (dI n13)])] kT) ∧
 ((Qb ∧
 ((bcase (n2 == 0)
 Qb
 Qft) ∧
 ((Qv (vI n2)) ∧
 True))) ∧
 (True ∧
 (k kT)))) ∨
 ((Says C 19 [(D.agg [D.nil, (dI n1)]), (D.agg [D.nil, (dI n13)])] kF) ∧
 ((Qf ∧
 ((bcase (n2 == 0)
 Qb
 Qft) ∧
 ((Qv (vI n2)) ∧
 True))) ∧
 (True ∧
 (k kF)))))))) ∨
 (∃ n13 : Nat,
 (∃ cs1 : List Go.Value,
 (∃ n14 : Int,
 ((Says C 20 [(D.agg [D.nil, (dI x1), (dI x2), (dI x3)]), (D.agg [D.nil, (dI x5)]), (D.agg [(dI x6), (dI x7)])] [(D.agg [(D.sl (n13) 1 (cs1)), (dI n14)])]) ∧
 (((Qv (Value.agg [(Value.slice none 0 0), (vI n1)].toArray)) ∧
 ((bcase (n2 == 0)
 Qb
 Qft) ∧
 ((Qv (vI n2)) ∧
 True))) ∧
 (bcase (dL n13 1 cs1)
 (((Says C 19 [(D.agg [D.nil, (dI n1)]), (D.agg [(Dw n13 1 cs1), (dI n14)])] kT) ∧
 ((Qb ∧
 ((bcase (n2 == 0)
 Qb
 Qft) ∧
 ((Qv (vI n2)) ∧
 True))) ∧
 (True ∧
 (k kT)))) ∨
 ((Says C 19 [(D.agg [D.nil, (dI n1)]), (D.agg [(Dw n13 1 cs1), (dI n14)])] kF) ∧
 ((Qf ∧
 ((bcase (n2 == 0)
 Qb
 Qft) ∧
 ((Qv (vI n2)) ∧
 True))) ∧
 (True ∧
 (k kF)))))
 False))))))))
 ((Qu ∧
 (Qu ∧
 (Qu ∧
 (Qu ∧
 (Qf ∧
 ((bcase (n2 == 0)
 Qtf
 Qf) ∧
 ((Qv (vI n2)) ∧
 True))))))) ∧
 ((Qu ∧
 ((bcase (n2 == 0)
 Qtf
 Qf) ∧
 ((Qv (vI n2)) ∧
 True))) ∧
 ((Qf ∧
 ((bcase (n2 == 0)
 Qtf
 Qf) ∧
 ((Qv (vI n2)) ∧
 True))) ∧
 (True ∧
 (k kF))))))))))
 (bcase (n11 == 0)
 (∃ n12 : Int,
 ((Says C 18 [(dI x7)] [(dI n12)]) ∧
 (bcase (n12 != 0)
 (bcase (n2 == n12)
 (((Says C 19 [(D.agg [D.nil, (dI n1)]), (D.agg [D.nil, (dI 0)])] kT) ∧
 (k kT)) ∨
 ((Says C 19 [(D.agg [D.nil, (dI n1)]), (D.agg [D.nil, (dI 0)])] kF) ∧
 (k kF)))
 (k kF))
 (bcase (n2 == 0)
 (((Qv (Value.agg [(vI x6), (vI x7)].toArray)) ∧
 ((Qv (Value.agg [(Value.slice none 0 0), (vI x5)].toArray)) ∧
 ((Qv (Value.agg [(Value.slice none 0 0), (vI x1), (vI x2), (vI x3)].toArray)) ∧
 ((Qv (Value.agg [(Value.slice none 0 0), (vI n1)].toArray)) ∧
 (Qb ∧
 ((bcase (n2 == 0)
 Qb
 Qft) ∧
 ((Qv (vI n2)) ∧
 True))))))) ∧
 ((∃ n13 : Int,
 ((Says C 20 [(D.agg [D.nil, (dI x1), (dI x2), (dI x3)]), (D.agg [D.nil, (dI x5)]), (D.agg [(dI x6), (dI x7)])] [(D.agg [D.nil, (dI n13)])]) ∧
 (((Qv (Value.agg [(Value.slice none 0 0), (vI n1)].toArray)) ∧
 ((bcase (n2 == 0)
 Qb
 Qft) ∧
 ((Qv (vI n2)) ∧
 True))) ∧
 (((Says C 19 [(D.agg [D.nil, (dI n1)]), (D.agg [D.nil, (dI n13)])] kT) ∧
 ((Qb ∧
 ((bcase (n2 == 0)
 Qb
 Qft) ∧
 ((Qv (vI n2)) ∧
 True))) ∧
 (True ∧
 (k kT)))) ∨
 ((Says C 19 [(D.agg [D.nil, (dI n1)]), (D.agg [D.nil, (dI n13)])] kF) ∧
 ((Qf ∧
 ((bcase (n2 == 0)
 Qb
 Qft) ∧
 ((Qv (vI n2)) ∧
 True))) ∧
 (True ∧
 (k kF)))))))) ∨
 (∃ n13 : Nat,
 (∃ cs1 : List Go.Value,
 (∃ n14 : Int,
 ((Says C 20 [(D.agg [D.nil, (dI x1), (dI x2), (dI x3)]), (D.agg [D.nil, (dI x5)]), (D.agg [(dI x6), (dI x7)])] [(D.agg [(D.sl (n13) 1 (cs1)), (dI n14)])]) ∧
 (((Qv (Value.agg [(Value.slice none 0 0), (vI n1)].toArray)) ∧
 ((bcase (n2 == 0)
 Qb
 Qft) ∧
 ((Qv (vI n2)) ∧
 True))) ∧
 (bcase (dL n13 1 cs1)
 (((Says C 19 [(D.agg [D.nil, (dI n1)]), (D.agg [(Dw n13 1 cs1), (dI n14)])] kT) ∧
 ((Qb ∧
 ((bcase (n2 == 0)
 Qb
 Qft) ∧
 ((Qv (vI n2)) ∧
 True))) ∧
 (True ∧
 (k kT)))) ∨
 ((Says C 19 [(D.agg [D.nil, (dI n1)]), (D.agg [(Dw n13 1 cs1), (dI n14)])] kF) ∧
 ((Qf ∧
 ((bcase (n2 == 0)
 Qb
 Qft) ∧
 ((Qv (vI n2)) ∧
 True))) ∧
 (True ∧
 (k kF)))))
 False))))))))
 ((Qu ∧
 (Qu ∧
 (Qu ∧
 (Qu ∧
 (Qf ∧
 ((bcase (n2 == 0)
 Qtf
 Qf) ∧
 ((Qv (vI n2)) ∧
 True))))))) ∧
 ((Qu ∧
 ((bcase (n2 == 0)
 Qtf
 Qf) ∧
 ((Qv (vI n2)) ∧
 True))) ∧
 ((Qf ∧
 ((bcase (n2 == 0)
 Qtf
 Qf) ∧
 ((Qv (vI n2)) ∧
 True))) ∧
 (True ∧
 (k kF)))))))))
 (bcase (n11 != 0)
 (bcase (n2 == n11)
 (((Says C 19 [(D.agg [D.nil, (dI n1)]), (D.agg [D.nil, (dI 0)])] kT) ∧
 (k kT)) ∨
 ((Says C 19 [(D.agg [D.nil, (dI n1)]), (D.agg [D.nil, (dI 0)])] kF) ∧
 (k kF)))
 (k kF))
 (bcase (n2 == 0)
 (((Qv (Value.agg [(vI x6), (vI x7)].toArray)) ∧
 ((Qv (Value.agg [(Value.slice none 0 0), (vI x5)].toArray)) ∧
 ((Qv (Value.agg [(Value.slice none 0 0), (vI x1), (vI x2), (vI x3)].toArray)) ∧
 ((Qv (Value.agg [(Value.slice none 0 0), (vI n1)].toArray)) ∧
 (Qb ∧
 ((bcase (n2 == 0)
 Qb
 Qft) ∧
 ((Qv (vI n2)) ∧
 True))))))) ∧
 ((∃ n12 : Int,
 ((Says C 20 [(D.agg [D.nil, (dI x1), (dI x2), (dI x3)]), (D.agg [D.nil, (dI x5)]), (D.agg [(dI x6), (dI x7)])] [(D.agg [D.nil, (dI n12)])]) ∧
 (((Qv (Value.agg [(Value.slice none 0 0), (vI n1)].toArray)) ∧
 ((bcase (n2 == 0)
 Qb
 Qft) ∧
 ((Qv (vI n2)) ∧
 True))) ∧
 (((Says C 19 [(D.agg [D.nil, (dI n1)]), (D.agg [D.nil, (dI n12)])] kT) ∧
 ((Qb ∧
 ((bcase (n2 == 0)
 Qb
 Qft) ∧
 ((Qv (vI n2)) ∧
 True))) ∧
 (True ∧
 (k kT)))) ∨
 ((Says C 19 [(D.agg [D.nil, (dI n1)]), (D.agg [D.nil, (dI n12)])] kF) ∧
 ((Qf ∧
 ((bcase (n2 == 0)
 Qb
 Qft) ∧
 ((Qv (vI n2)) ∧
 True))) ∧
 (True ∧
 (k kF)))))))) ∨
 (∃ n12 : Nat,
 (∃ cs1 : List Go.Value,
 (∃ n13 : Int,
 ((Says C 20 [(D.agg [D.nil, (dI x1), (dI x2), (dI x3)]), (D.agg [D.nil, (dI x5)]), (D.agg [(dI x6), (dI x7)])] [(D.agg [(D.sl (n12) 1 (cs1)), (dI n13)])]) ∧
 (((Qv (Value.agg [(Value.slice none 0 0), (vI n1)].toArray)) ∧
 ((bcase (n2 == 0)
 Qb
 Qft) ∧
 ((Qv (vI n2)) ∧
 True))) ∧
 (bcase (dL n12 1 cs1)
 (((Says C 19 [(D.agg [D.nil, (dI n1)]), (D.agg [(Dw n12 1 cs1), (dI n13)])] kT) ∧
 ((Qb ∧
 ((bcase (n2 == 0)
 Qb
 Qft) ∧
 ((Qv (vI n2)) ∧
 True))) ∧
 (True ∧
 (k kT)))) ∨
 ((Says C 19 [(D.agg [D.nil, (dI n1)]), (D.agg [(Dw n12 1 cs1), (dI n13)])] kF) ∧
 ((Qf ∧
 ((bcase (n2 == 0)
 Qb
 Qft) ∧
 ((Qv (vI n2)) ∧
 True))) ∧
 (True ∧
 (k kF)))))
 False))))))))
 ((Qu ∧
 (Qu ∧
 (Qu ∧
 (Qu ∧
 (Qf ∧
 ((bcase (n2 == 0)
 Qtf
 Qf) ∧
 ((Qv (vI n2)) ∧
 True))))))) ∧
 ((Qu ∧
 ((bcase (n2 == 0)
 Qtf
 Qf) ∧
 ((Qv (vI n2)) ∧
 True))) ∧
 ((Qf ∧
 ((bcase (n2 == 0)
 Qtf
 Qf) ∧
 ((Qv (vI n2)) ∧
 True))) ∧
 (True ∧
 (k kF))))))))))))))))
 (bcase (n10 == 0)
 (bcase (n5 != 0)
 ((Qu ∧
 (Qu ∧
 (Qb ∧
 ((bcase (n5 != 0)
 Qb
 Qft) ∧
 ((Qv (vI n5)) ∧
 (Qb ∧
 ((bcase (n10 == 0)
 Qb
 Qft) ∧
 ((Qv (vI n10)) ∧
 (Qf ∧
 (Qf ∧
 (Qu ∧
 (Qu ∧
 (Qu ∧
 (Qu ∧
 (Qu ∧
 (Qu ∧
 (Qu ∧
 (Qu ∧
 (Qf ∧
 ((bcase (n10 != 0)
 Qtf
 Qf) ∧
 ((Qv (vI n10)) ∧
 True))))))))))))))))))))) ∧
 ((Qb ∧
 (Qb ∧
 (Qb ∧
 (Qu ∧
 (Qu ∧
 ((bcase (n5 != 0)
 Qb
 Qft) ∧
 ((Qv (vI n5)) ∧
 (Qb ∧
 ((bcase (n10 == 0)
 Qb
 Qft) ∧
 ((Qv (vI n10)) ∧
 (Qf ∧
 (Qf ∧
 (Qu ∧
 (Qu ∧
 (Qu ∧
 (Qu ∧
 (Qu ∧
 (Qu ∧
 (Qu ∧
 (Qu ∧
 (Qf ∧
 ((bcase (n10 != 0)
 Qtf
 Qf) ∧
 ((Qv (vI n10)) ∧
 True))))))))))))))))))))))) ∧
 (k kF)))
 (((Qv (Value.agg [(Value.slice none 0 0), (vI x5)].toArray)) ∧
 ((Qv (Value.agg [(vI n3), (vI n4)].toArray)) ∧
 (Qf ∧
 ((bcase (n5 != 0)
 Qtf
 Qf) ∧
 ((Qv (vI n5)) ∧
 (Qb ∧
 ((bcase (n10 == 0)
 Qb
 Qft) ∧
 ((Qv (vI n10)) ∧
 (Qf ∧
 (Qf ∧
 (Qu ∧
 (Qu ∧
 (Qu ∧
 (Qu ∧
 (Qu ∧
 (Qu ∧
 (Qu ∧
 (Qu ∧
 (Qf ∧
 ((bcase (n10 != 0)
 Qtf
 Qf) ∧
 ((Qv (vI n10)) ∧
 True))))))))))))))))))))) ∧
 (∃ n11 : Int,
 (∃ n12 : Int,
 ((Says C 15 [(D.agg [D.nil, (dI x5)])] [(D.agg [(dI n11), (dI n12)])]) ∧
 (bcase (if Bool.true = Bool.true then !(n3 == n11 && (n4 == n12 && Bool.true)) else n3 == n11 && (n4 == n12 && Bool.true))
 ((Qb ∧
 (Qb ∧
 (Qb ∧
 ((bcase (if Bool.true = Bool.true then !(n3 == n11 && (n4 == n12 && Bool.true)) else n3 == n11 && (n4 == n12 && Bool.true))
 Qb
 Qft) ∧
 ((Qv (Value.agg [(vI n3), (vI n4)].toArray)) ∧
 ((bcase (n5 != 0)
 Qtf
 Qf) ∧
 ((Qv (vI n5)) ∧
 (Qb ∧
 ((bcase (n10 == 0)
 Qb
 Qft) ∧
 ((Qv (vI n10)) ∧
 (Qf ∧
 (Qf ∧
 (Qu ∧
 (Qu ∧
 (Qu ∧
 (Qu ∧
 (Qu ∧
 (Qu ∧
 (Qu ∧
 (Qu ∧
 (Qf ∧
 ((bcase (n10 != 0)
 Qtf
 Qf) ∧
 ((Qv (vI n10)) ∧
 True))))))))))))))))))))))) ∧
 (k kF))
 ((Qf ∧
 (Qf ∧
 (Qf ∧
 ((bcase (if Bool.true = Bool.true then !(n3 == n11 && (n4 == n12 && Bool.true)) else n3 == n11 && (n4 == n12 && Bool.true))
 Qtf
 Qf) ∧
 ((Qv (Value.agg [(vI n3), (vI n4)].toArray)) ∧
 ((bcase (n5 != 0)
 Qtf
 Qf) ∧
 ((Qv (vI n5)) ∧
 (Qb ∧
 ((bcase (n10 == 0)
 Qb
 Qft) ∧
 ((Qv (vI n10)) ∧
 (Qf ∧
 (Qf ∧
 (Qu ∧
 (Qu ∧
 (Qu ∧
 (Qu ∧
 (Qu ∧
 (Qu ∧
 (Qu ∧
 (Qu ∧
 (Qf ∧
 ((bcase (n10 != 0)
 Qtf
 Qf) ∧
 ((Qv (vI n10)) ∧
 True))))))))))))))))))))))) ∧
 (∃ n13 : Int,
 ((Says C 16 [(D.agg [D.nil, (dI x1), (dI x2), (dI x3)]), (D.agg [D.nil, (dI x5)])] [(dI n13)]) ∧
 (bcase (n13 == 0)
 (∃ n14 : Int,
 ((Says C 17 [(dI x6)] [(dI n14)]) ∧
 (bcase (n14 == 0)
 (∃ n15 : Int,
 ((Says C 18 [(dI x7)] [(dI n15)]) ∧
 (bcase (n15 != 0)
 (bcase (n2 == n15)
 (((Says C 19 [(D.agg [D.nil, (dI n1)]), (D.agg [D.nil, (dI 0)])] kT) ∧
 (k kT)) ∨
 ((Says C 19 [(D.agg [D.nil, (dI n1)]), (D.agg [D.nil, (dI 0)])] kF) ∧
 (k kF)))
 (k kF))
 (bcase (n2 == 0)
 (((Qv (Value.agg [(vI x6), (vI x7)].toArray)) ∧
 ((Qv (Value.agg [(Value.slice none 0 0), (vI x5)].toArray)) ∧
 ((Qv (Value.agg [(Value.slice none 0 0), (vI x1), (vI x2), (vI x3)].toArray)) ∧
 ((Qv (Value.agg [(Value.slice none 0 0), (vI n1)].toArray)) ∧
 (Qb ∧
 ((bcase (n2 == 0)
 Qb
 Qft) ∧
 ((Qv (vI n2)) ∧
 True))))))) ∧
 ((∃ n16 : Int,
 ((Says C 20 [(D.agg [D.nil, (dI x1), (dI x2), (dI x3)]), (D.agg [D.nil, (dI x5)]), (D.agg [(dI x6), (dI x7)])] [(D.agg [D.nil, (dI n16)])]) ∧
 (((Qv (Value.agg [(Value.slice none 0 0), (vI n1)].toArray)) ∧
 ((bcase (n2 == 0)
 Qb
 Qft) ∧
 ((Qv (vI n2)) ∧
 True))) ∧
 (((Says C 19 [(D.agg [D.nil, (dI n1)]), (D.agg [D.nil, (dI n16)])] kT) ∧
 ((Qb ∧
 ((bcase (n2 == 0)
 Qb
 Qft) ∧
 ((Qv (vI n2)) ∧
 True))) ∧
 (True ∧
 (k kT)))) ∨
 ((Says C 19 [(D.agg [D.nil, (dI n1)]), (D.agg [D.nil, (dI n16)])] kF) ∧
 ((Qf ∧
 ((bcase (n2 == 0)
 Qb
 Qft) ∧
 ((Qv (vI n2)) ∧
 True))) ∧
 (True ∧
 (k kF)))))))) ∨
 (∃ n16 : Nat,
 (∃ cs1 : List Go.Value,
 (∃ n17 : Int,
 ((Says C 20 [(D.agg [D.nil, (dI x1), (dI x2), (dI x3)]), (D.agg [D.nil, (dI x5)]), (D.agg [(dI x6), (dI x7)])] [(D.agg [(D.sl (n16) 1 (cs1)), (dI n17)])]) ∧
 (((Qv (Value.agg [(Value.slice none 0 0), (vI n1)].toArray)) ∧
 ((bcase (n2 == 0)
 Qb
 Qft) ∧
 ((Qv (vI n2)) ∧
 True))) ∧
 (bcase (dL n16 1 cs1)
 (((Says C 19 [(D.agg [D.nil, (dI n1)]), (D.agg [(Dw n16 1 cs1), (dI n17)])] kT) ∧
 ((Qb ∧
 ((bcase (n2 == 0)
 Qb
 Qft) ∧
 ((Qv (vI n2)) ∧
 True))) ∧
 (True ∧
 (k kT)))) ∨
 ((Says C 19 [(D.agg [D.nil, (dI n1)]), (D.agg [(Dw n16 1 cs1), (dI n17)])] kF) ∧
 ((Qf ∧
 ((bcase (n2 == 0)
 Qb
 Qft) ∧
 ((Qv (vI n2)) ∧
 True))) ∧
 (True ∧
 (k kF)))))
 False))))))))
 ((Qu ∧
 (Qu ∧
 (Qu ∧
 (Qu ∧
 (Qf ∧
 ((bcase (n2 == 0)
 Qtf
 Qf) ∧
 ((Qv (vI n2)) ∧
 True))))))) ∧
 ((Qu ∧
 ((bcase (n2 == 0)
 Qtf
 Qf) ∧
 ((Qv (vI n2)) ∧
 True))) ∧
 ((Qf ∧
 ((bcase (n2 == 0)
 Qtf
 Qf) ∧
 ((Qv (vI n2)) ∧
 True))) ∧
 (True ∧
 (k kF)))))))))
 (bcase (n14 != 0)
 (bcase (n2 == n14)
 (((Says C 19 [(D.agg [D.nil, (dI n1)]), (D.agg [D.nil, (dI 0)])] kT) ∧
 (k kT)) ∨
 ((Says C 19 [(D.agg [D.nil, (dI n1)]), (D.agg [D.nil, (dI 0)])] kF) ∧
 (k kF)))
 (k kF))
 (bcase (n2 == 0)
 (((Qv (Value.agg [(vI x6), (vI x7)].toArray)) ∧
 ((Qv (Value.agg [(Value.slice none 0 0), (vI x5)].toArray)) ∧
 ((Qv (Value.agg [(Value.slice none 0 0), (vI x1), (vI x2), (vI x3)].toArray)) ∧
 ((Qv (Value.agg [(Value.slice none 0 0), (vI n1)].toArray)) ∧
 (Qb ∧
 ((bcase (n2 == 0)
 Qb
 Qft) ∧
 ((Qv (vI n2)) ∧
 True))))))) ∧
 ((∃ n15 : Int,
 ((Says C 20 [(D.agg [D.nil, (dI x1), (dI x2), (dI x3)]), (D.agg [D.nil, (dI x5)]), (D.agg [(dI x6), (dI x7)])] [(D.agg [D.nil, (dI n15)])]) ∧
 (((Qv (Value.agg [(Value.slice none 0 0), (vI n1)].toArray)) ∧
 ((bcase (n2 == 0)
 Qb
 Qft) ∧
 ((Qv (vI n2)) ∧
 True))) ∧
 (((Says C 19 [(D.agg [D.nil, (dI n1)]), (D.agg [D.nil, (dI n15)])] kT) ∧
 ((Qb ∧
 ((bcase (n2 == 0)
 Qb
 Qft) ∧
 ((Qv (vI n2)) ∧
 True))) ∧
 (True ∧
 (k kT)))) ∨
 ((Says C 19 [(D.agg [D.nil, (dI n1)]), (D.agg [D.nil, (dI n15)])] kF) ∧
 ((Qf ∧
 ((bcase (n2 == 0)
 Qb
 Qft) ∧
 ((Qv (vI n2)) ∧
 True))) ∧
 (True ∧
 (k kF)))))))) ∨
 (∃ n15 : Nat,
 (∃ cs1 : List Go.Value,
 (∃ n16 : Int,
 ((Says C 20 [(D.agg [D.nil, (dI x1), (dI x2), (dI x3)]), (D.agg [D.nil, (dI x5)]), (D.agg [(dI x6), (dI x7)])] [(D.agg [(D.sl (n15) 1 (cs1)), (dI n16)])]) ∧
 (((Qv (Value.agg [(Value.slice none 0 0), (vI n1)].toArray)) ∧
 ((bcase (n2 == 0)
 Qb
 Qft) ∧
 ((Qv (vI n2)) ∧
 True))) ∧
 (bcase (dL n15 1 cs1)
 (((Says C 19 [(D.agg [D.nil, (dI n1)]), (D.agg [(Dw n15 1 cs1), (dI n16)])] kT) ∧
 ((Qb ∧
 ((bcase (n2 == 0)
 Qb
 Qft) ∧
 ((Qv (vI n2)) ∧
 True))) ∧
 (True ∧
 (k kT)))) ∨
 ((Says C 19 [(D.agg [D.nil, (dI n1)]), (D.agg [(Dw n15 1 cs1), (dI n16)])] kF) ∧
 ((Qf ∧
 ((bcase (n2 == 0)
 Qb
 Qft) ∧
 ((Qv (vI n2)) ∧
 True))) ∧
 (True ∧
 (k kF)))))
 False))))))))
 ((Qu ∧
 (Qu ∧
 (Qu ∧
 (Qu ∧
 (Qf ∧
 ((bcase (n2 == 0)
 Qtf
 Qf) ∧
 ((Qv (vI n2)) ∧
 True))))))) ∧
 ((Qu ∧
 ((bcase (n2 == 0)
 Qtf
 Qf) ∧
 ((Qv (vI n2)) ∧
 True))) ∧
 ((Qf ∧
 ((bcase (n2 == 0)
 Qtf
 Qf) ∧
 ((Qv (vI n2)) ∧
 True))) ∧
 (True ∧
 (k kF))))))))))
 (bcase (n13 == 0)
 (∃ n14 : Int,
 ((Says C 18 [(dI x7)] [(dI n14)]) ∧
 (bcase (n14 != 0)
 (bcase (n2 == n14)
 (((Says C 19 [(D.agg [D.nil, (dI n1)]), (D.agg [D.nil, (dI 0)])] kT) ∧
 (k kT)) ∨
 ((Says C 19 [(D.agg [D.nil, (dI n1)]), (D.agg [D.nil, (dI 0)])] kF) ∧
 (k kF)))
 (k kF))
 (bcase (n2 == 0)
 (((Qv (Value.agg [(vI x6), (vI x7)].toArray)) ∧
 ((Qv (Value.agg [(Value.slice none 0 0), (vI x5)].toArray)) ∧
 ((Qv (Value.agg [(Value.slice none 0 0), (vI x1), (vI x2), (vI x3)].toArray)) ∧
 ((Qv (Value.agg [(Value.slice none 0 0), (vI n1)].toArray)) ∧
 (Qb ∧
 ((bcase (n2 == 0)
 Qb
 Qft) ∧
 ((Qv (vI n2)) ∧
 True))))))) ∧
 ((∃ n15 : Int,
 ((Says C 20 [(D.agg [D.nil, (dI x1), (dI x2), (dI x3)]), (D.agg [D.nil, (dI x5)]), (D.agg [(dI x6), (dI x7)])] [(D.agg [D.nil, (dI n15)])]) ∧
 (((Qv (Value.agg [(Value.slice none 0 0), (vI n1)].toArray)) ∧
 ((bcase (n2 == 0)
 Qb
 Qft) ∧
 ((Qv (vI n2)) ∧
 True))) ∧
 (((Says C 19 [(D.agg [D.nil, (dI n1)]), (D.agg [D.nil, (dI n15)])] kT) ∧
 ((Qb ∧
 ((bcase (n2 == 0)
 Qb
 Qft) ∧
 ((Qv (vI n2)) ∧
 True))) ∧
 (True ∧
 (k kT)))) ∨
 ((Says C 19 [(D.agg [D.nil, (dI n1)]), (D.agg [D.nil, (dI n15)])] kF) ∧
 ((Qf ∧
 ((bcase (n2 == 0)
 Qb
 Qft) ∧
 ((Qv (vI n2)) ∧
 True))) ∧
 (True ∧
 (k kF)))))))) ∨
 (∃ n15 : Nat,
 (∃ cs1 : List Go.Value,
 (∃ n16 : Int,
 ((Says C 20 [(D.agg [D.nil, (dI x1), (dI x2), (dI x3)]), (D.agg [D.nil, (dI x5)]), (D.agg [(dI x6), (dI x7)])] [(D.agg [(D.sl (n15) 1 (cs1)), (dI n16)])]) ∧
 (((Qv (Value.agg [(Value.slice none 0 0), (vI n1)].toArray)) ∧
 ((bcase (n2 == 0)
 Qb
 Qft) ∧
 ((Qv (vI n2)) ∧
 True))) ∧
 (bcase (dL n15 1 cs1)
 (((Says C 19 [(D.agg [D.nil, (dI n1)]), (D.agg [(Dw n15 1 cs1), (dI n16)])] kT) ∧
 ((Qb ∧
 ((bcase (n2 == 0)
 Qb
 Qft) ∧
 ((Qv (vI n2)) ∧
 True))) ∧
 (True ∧
 (k kT)))) ∨
 ((Says C 19 [(D.agg [D.nil, (dI n1)]), (D.agg [(Dw n15 1 cs1), (dI n16)])] kF) ∧
 ((Qf ∧
 ((bcase (n2 == 0)
 Qb
 Qft) ∧
 ((Qv (vI n2)) ∧
 True))) ∧
 (True ∧
 (k kF)))))
 False))))))))
 ((Qu ∧
 (Qu ∧
 (Qu ∧
 (Qu ∧
 (Qf ∧
 ((bcase (n2 == 0)
 Qtf
 Qf) ∧
 ((Qv (vI n2)) ∧
 True))))))) ∧
 ((Qu ∧
 ((bcase (n2 == 0)
 Qtf
 Qf) ∧
 ((Qv (vI n2)) ∧
 True))) ∧
 ((Qf ∧
 ((bcase (n2 == 0)
 Qtf
 Qf) ∧
 ((Qv (vI n2)) ∧
 True))) ∧
 (True ∧
 (k kF)))))))))
 (bcase (n13 != 0)
 (bcase (n2 == n13)
 (((Says C 19 [(D.agg [D.nil, (dI n1)]), (D.agg [D.nil, (dI 0)])] kT) ∧
 (k kT)) ∨
 ((Says C 19 [(D.agg [D.nil, (dI n1)]), (D.agg [D.nil, (dI 0)])] kF) ∧
 (k kF)))
 (k kF))
 (bcase (n2 == 0)
 (((Qv (Value.agg [(vI x6), (vI x7)].toArray)) ∧
 ((Qv (Value.agg [(Value.slice none 0 0), (vI x5)].toArray)) ∧
 ((Qv (Value.agg [(Value.slice none 0 0), (vI x1), (vI x2), (vI x3)].toArray)) ∧
 ((Qv (Value.agg [(Value.slice none 0 0), (vI n1)].toArray)) ∧
 (Qb ∧
 ((bcase (n2 == 0)
 Qb
 Qft) ∧
 ((Qv (vI n2)) ∧
 True))))))) ∧
 ((∃ n14 : Int,
 ((Says C 20 [(D.agg [D.nil, (dI x1), (dI x2), (dI x3)]), (D.agg [D.nil, (dI x5)]), (D.agg [(dI x6), (dI x7)])] [(D.agg [D.nil, (dI n14)])]) ∧
 (((Qv (Value.agg [(Value.slice none 0 0), (vI n1)].toArray)) ∧
 ((bcase (n2 == 0)
 Qb
 Qft) ∧
 ((Qv (vI n2)) ∧
 True))) ∧
 (((Says C 19 [(D.agg [D.nil, (dI n1)]), (D.agg [D.nil, (dI n14)])] kT) ∧
 ((Qb ∧
 ((bcase (n2 == 0)
 Qb
 Qft) ∧
 ((Qv (vI n2)) ∧
 True))) ∧
 (True ∧
 (k kT)))) ∨
 ((Says C 19 [(D.agg [D.nil, (dI n1)]), (D.agg [D.nil, (dI n14)])] kF) ∧
 ((Qf ∧
 ((bcase (n2 == 0)
 Qb
 Qft) ∧
 ((Qv (vI n2)) ∧
 True))) ∧
 (True ∧
 (k kF)))))))) ∨
 (∃ n14 : Nat,
 (∃ cs1 : List Go.Value,
 (∃ n15 : Int,
 ((Says C 20 [(D.agg [D.nil, (dI x1), (dI x2), (dI x3)]), (D.agg [D.nil, (dI x5)]), (D.agg [(dI x6), (dI x7)])] [(D.agg [(D.sl (n14) 1 (cs1)), (dI n15)])]) ∧
 (((Qv (Value.agg [(Value.slice none 0 0), (vI n1)].toArray)) ∧
 ((bcase (n2 == 0)
 Qb
 Qft) ∧
 ((Qv (vI n2)) ∧
 True))) ∧
 (bcase (dL n14 1 cs1)
 (((Says C 19 [(D.agg [D.nil, (dI n1)]), (D.agg [(Dw n14 1 cs1), (dI n15)])] kT) ∧
 ((Qb ∧
 ((bcase (n2 == 0)
 Qb
 Qft) ∧
 ((Qv (vI n2)) ∧
 True))) ∧
 (True ∧
 (k kT)))) ∨
 ((Says C 19 [(D.agg [D.nil, (dI n1)]), (D.agg [(Dw n14 1 cs1), (dI n15)])] kF) ∧
 ((Qf ∧
 ((bcase (n2 == 0)
 Qb
 Qft) ∧
 ((Qv (vI n2)) ∧
 True))) ∧
 (True ∧
 (k kF)))))
 False))))))))
 ((Qu ∧
 (Qu ∧
 (Qu ∧
 (Qu ∧
 (Qf ∧
 ((bcase (n2 == 0)
 Qtf
 Qf) ∧
 ((Qv (vI n2)) ∧
 True))))))) ∧
 ((Qu ∧
 ((bcase (n2 == 0)
 Qtf
 Qf) ∧
 ((Qv (vI n2)) ∧
 True))) ∧
 ((Qf ∧
 ((bcase (n2 == 0)
 Qtf
 Qf) ∧
 ((Qv (vI n2)) ∧
 True))) ∧
 (True ∧
 (k kF))))))))))))))))))
 ((Qu ∧
 (Qu ∧
 (Qu ∧
 (Qu ∧
 (Qu ∧
 (Qf ∧
 ((bcase (n10 == 0)
 Qtf
 Qf) ∧
 ((Qv (vI n10)) ∧
 (Qf ∧
 (Qf ∧
 (Qu ∧
 (Qu ∧
 (Qu ∧
 (Qu ∧
 (Qu ∧
 (Qu ∧
 (Qu ∧
 (Qu ∧
 (Qf ∧
 ((bcase (n10 != 0)
 Qtf
 Qf) ∧
 ((Qv (vI n10)) ∧
 True))))))))))))))))))))) ∧
 ((Qf ∧
 (Qf ∧
 (Qu ∧
 (Qu ∧
 (Qu ∧
 (Qu ∧
 (Qu ∧
 (Qf ∧
 ((bcase (n10 == 0)
 Qtf
 Qf) ∧
 ((Qv (vI n10)) ∧
 (Qf ∧
 (Qf ∧
 (Qu ∧
 (Qu ∧
 (Qu ∧
 (Qu ∧
 (Qu ∧
 (Qu ∧
 (Qu ∧
 (Qu ∧
 (Qf ∧
 ((bcase (n10 != 0)
 Qtf
 Qf) ∧
 ((Qv (vI n10)) ∧
 True))))))))))))))))))))))) ∧
 (∃ n11 : Int,
 ((Says C 16 [(D.agg [D.nil, (dI x1), (dI x2), (dI x3)]), (D.agg [D.nil, (dI x5)])] [(dI n11)]) ∧
 (bcase (n11 == 0)
 (∃ n12 : Int,
 ((Says C 17 [(dI x6)] [(dI n12)]) ∧
 (bcase (n12 == 0)
 (∃ n13 : Int,
 ((Says C 18 [(dI x7)] [(dI n13)]) ∧
 (bcase (n13 != 0)
 (bcase (n2 == n13)
 (((Says C 19 [(D.agg [D.nil, (dI n1)]), (D.agg [D.nil, (dI 0)])] kT) ∧
 (k kT)) ∨
 ((Says C 19 [(D.agg [D.nil, (dI n1)]), (D.agg [D.nil, (dI 0)])] kF) ∧
 (k kF)))
 (k kF))
 (bcase (n2 == 0)
 (((Qv (Value.agg [(vI x6), (vI x7)].toArray)) ∧
 ((Qv (Value.agg [(Value.slice none 0 0), (vI x5)].toArray)) ∧
 ((Qv (Value.agg [(Value.slice none 0 0), (vI x1), (vI x2), (vI x3)].toArray)) ∧
 ((Qv (Value.agg [(Value.slice none 0 0), (vI n1)].toArray)) ∧
 (Qb ∧
 ((bcase (n2 == 0)
 Qb
 Qft) ∧
 ((Qv (vI n2)) ∧
 True))))))) ∧
 ((∃ n14 : Int,
 ((Says C 20 [(D.agg [D.nil, (dI x1), (dI x2), (dI x3)]), (D.agg [D.nil, (dI x5)]), (D.agg [(dI x6), (dI x7)])] [(D.agg [D.nil, (dI n14)])]) ∧
 (((Qv (Value.agg [(Value.slice none 0 0), (vI n1)].toArray)) ∧
 ((bcase (n2 == 0)
 Qb
 Qft) ∧
 ((Qv (vI n2)) ∧
 True))) ∧
 (((Says C 19 [(D.agg [D.nil, (dI n1)]), (D.agg [D.nil, (dI n14)])] kT) ∧
 ((Qb ∧
 ((bcase (n2 == 0)
 Qb
 Qft) ∧
 ((Qv (vI n2)) ∧
 True))) ∧
 (True ∧
 (k kT)))) ∨
 ((Says C 19 [(D.agg [D.nil, (dI n1)]), (D.agg [D.nil, (dI n14)])] kF) ∧
 ((Qf ∧
 ((bcase (n2 == 0)
 Qb
 Qft) ∧
 ((Qv (vI n2)) ∧
 True))) ∧
 (True ∧
 (k kF)))))))) ∨
 (∃ n14 : Nat,
 (∃ cs1 : List Go.Value,
 (∃ n15 : Int,
 ((Says C 20 [(D.agg [D.nil, (dI x1), (dI x2), (dI x3)]), (D.agg [D.nil, (dI x5)]), (D.agg [(dI x6), (dI x7)])] [(D.agg [(D.sl (n14) 1 (cs1)), (dI n15)])]) ∧
 (((Qv (Value.agg [(Value.slice none 0 0), (vI n1)].toArray)) ∧
 ((bcase (n2 == 0)
 Qb
 Qft) ∧
 ((Qv (vI n2)) ∧
 True))) ∧
 (bcase (dL n14 1 cs1)
 (((Says C 19 [(D.agg [D.nil, (dI n1)]), (D.agg [(Dw n14 1 cs1), (dI n15)])] kT) ∧
 ((Qb ∧
 ((bcase (n2 == 0)
 Qb
 Qft) ∧
 ((Qv (vI n2)) ∧
 True))) ∧
 (True ∧
 (k kT)))) ∨
 ((Says C 19 [(D.agg [D.nil, (dI n1)]), (D.agg [(Dw n14 1 cs1), (dI n15)])] kF) ∧
 ((Qf ∧
 ((bcase (n2 == 0)
 Qb
 Qft) ∧
 ((Qv (vI n2)) ∧
 True))) ∧
 (True ∧
 (k kF)))))
 False))))))))
 ((Qu ∧
 (Qu ∧
 (Qu ∧
 (Qu ∧
 (Qf ∧
 ((bcase (n2 == 0)
 Qtf
 Qf) ∧
 ((Qv (vI n2)) ∧
 True))))))) ∧
 ((Qu ∧
 ((bcase (n2 == 0)
 Qtf
 Qf) ∧
 ((Qv (vI n2)) ∧
 True))) ∧
 ((Qf ∧
 ((bcase (n2 == 0)
 Qtf
 Qf) ∧
 ((Qv (vI n2)) ∧
 True))) ∧
 (True ∧
 (k kF)))))))))
 (bcase (n12 != 0)
 (bcase (n2 == n12)
 (((Says C 19 [(D.agg [D.nil, (dI n1)]), (D.agg [D.nil, (dI 0)])] kT) ∧
 (k kT)) ∨
 ((Says C 19 [(D.agg [D.nil, (dI n1)]), (D.agg [D.nil, (dI 0)])] kF) ∧
 (k kF)))
 (k kF))
 (bcase (n2 == 0)
 (((Qv (Value.agg [(vI x6), (vI x7)].toArray)) ∧
 ((Qv (Value.agg [(Value.slice none 0 0), (vI x5)].toArray)) ∧
 ((Qv (Value.agg [(Value.slice none 0 0), (vI x1), (vI x2), (vI x3)].toArray)) ∧
 ((Qv (Value.agg [(Value.slice none 0 0), (vI n1)].toArray)) ∧
 (Qb ∧
 ((bcase (n2 == 0)
 Qb
 Qft) ∧
 ((Qv (vI n2)) ∧
 True))))))) ∧
 ((∃ n13 : Int,
 ((Says C 20 [(D.agg [D.nil, (dI x1), (dI x2), (dI x3)]), (D.agg [D.nil, (dI x5)]), (D.agg [(dI x6), (dI x7)])] [(D.agg [D.nil, (dI n13)])]) ∧
 (((Qv (Value.agg [(Value.slice none 0 0), (vI n1)].toArray)) ∧
 ((bcase (n2 == 0)
 Qb
 Qft) ∧
 ((Qv (vI n2)) ∧
 True))) ∧
 (((Says C 19 [(D.agg [D.nil, (dI n1)]), (D.agg [D.nil, (dI n13)])] kT) ∧
 ((Qb ∧
 ((bcase (n2 == 0)
 Qb
 Qft) ∧
 ((Qv (vI n2)) ∧
 True))) ∧
 (True ∧
 (k kT)))) ∨
 ((Says C 19 [(D.agg [D.nil, (dI n1)]), (D.agg [D.nil, (dI n13)])] kF) ∧
 ((Qf ∧
 ((bcase (n2 == 0)
 Qb
 Qft) ∧
 ((Qv (vI n2)) ∧
 True))) ∧
 (True ∧
 (k kF)))))))) ∨
 (∃ n13 : Nat,
 (∃ cs1 : List Go.Value,
 (∃ n14 : Int,
 ((Says C 20 [(D.agg [D.nil, (dI x1), (dI x2), (dI x3)]), (D.agg [D.nil, (dI x5)]), (D.agg [(dI x6), (dI x7)])] [(D.agg [(D.sl (n13) 1 (cs1)), (dI n14)])]) ∧
 (((Qv (Value.agg [(Value.slice none 0 0), (vI n1)].toArray)) ∧
 ((bcase (n2 == 0)
 Qb
 Qft) ∧
 ((Qv (vI n2)) ∧
 True))) ∧
 (bcase (dL n13 1 cs1)
 (((Says C 19 [(D.agg [D.nil, (dI n1)]), (D.agg [(Dw n13 1 cs1), (dI n14)])] kT) ∧
 ((Qb ∧
 ((bcase (n2 == 0)
 Qb
 Qft) ∧
 ((Qv (vI n2)) ∧
 True))) ∧
 (True ∧
 (k kT)))) ∨
 ((Says C 19 [(D.agg [D.nil, (dI n1)]), (D.agg [(Dw n13 1 cs1), (dI n14)])] kF) ∧
 ((Qf ∧
 ((bcase (n2 == 0)
 Qb
 Qft) ∧
 ((Qv (vI n2)) ∧
 True))) ∧
 (True ∧
 (k kF)))))
 False))))))))
 ((Qu ∧
 (Qu ∧
 (Qu ∧
 (Qu ∧
 (Qf ∧
 ((bcase (n2 == 0)
 Qtf
 Qf) ∧
 ((Qv (vI n2)) ∧
 True))))))) ∧
 ((Qu ∧
 ((bcase (n2 == 0)
 Qtf
 Qf) ∧
 ((Qv (vI n2)) ∧
 True))) ∧
 ((Qf ∧
 ((bcase (n2 == 0)
 Qtf
 Qf) ∧
 ((Qv (vI n2)) ∧
 True))) ∧
 (True ∧
 (k kF))))))))))
 (bcase (n11 == 0)
 (∃ n12 : Int,
 ((Says C 18 [(dI x7)] [(dI n12)]) ∧
 (bcase (n12 != 0)
 (bcase (n2 == n12)
 (((Says C 19 [(D.agg [D.nil, (dI n1)]), (D.agg [D.nil, (dI 0)])] kT) ∧
 (k kT)) ∨
 ((Says C 19 [(D.agg [D.nil, (dI n1)]), (D.agg [D.nil, (dI 0)])] kF) ∧
 (k kF)))
 (k kF))
 (bcase (n2 == 0)
 (((Qv (Value.agg [(vI x6), (vI x7)].toArray)) ∧
 ((Qv (Value.agg [(Value.slice none 0 0), (vI x5)].toArray)) ∧
 ((Qv (Value.agg [(Value.slice none 0 0), (vI x1), (vI x2), (vI x3)].toArray)) ∧
 ((Qv (Value.agg [(Value.slice none 0 0), (vI n1)].toArray)) ∧
 (Qb ∧
 ((bcase (n2 == 0)
 Qb
 Qft) ∧
 ((Qv (vI n2)) ∧
 True))))))) ∧
 ((∃ n13 : Int,
 ((Says C 20 [(D.agg [D.nil, (dI x1), (dI x2), (dI x3)]), (D.agg [D.nil, (dI x5)]), (D.agg [(dI x6), (dI x7)])] [(D.agg [D.nil, (dI n13)])]) ∧
 (((Qv (Value.agg [(Value.slice none 0 0), (vI n1)].toArray)) ∧
 ((bcase (n2 == 0)
 Qb
 Qft) ∧
 ((Qv (vI n2)) ∧
 True))) ∧
 (((Says C 19 [(D.agg [D.nil, (dI n1)]), (D.agg [D.nil, (dI n13)])] kT) ∧
 ((Qb ∧
 ((bcase (n2 == 0)
 Qb
 Qft) ∧
 ((Qv (vI n2)) ∧
 True))) ∧
 (True ∧
 (k kT)))) ∨
 ((Says C 19 [(D.agg [D.nil, (dI n1)]), (D.agg [D.nil, (dI n13)])] kF) ∧
 ((Qf ∧
 ((bcase (n2 == 0)
 Qb
 Qft) ∧
 ((Qv (vI n2)) ∧
 True))) ∧
 (True ∧
 (k kF)))))))) ∨
 (∃ n13 : Nat,
 (∃ cs1 : List Go.Value,
 (∃ n14 : Int,
 ((Says C 20 [(D.agg [D.nil, (dI x1), (dI x2), (dI x3)]), (D.agg [D.nil, (dI x5)]), (D.agg [(dI x6), (dI x7)])] [(D.agg [(D.sl (n13) 1 (cs1)), (dI n14)])]) ∧
 (((Qv (Value.agg [(Value.slice none 0 0), (vI n1)].toArray)) ∧
 ((bcase (n2 == 0)
 Qb
 Qft) ∧
 ((Qv (vI n2)) ∧
 True))) ∧
 (bcase (dL n13 1 cs1)
 (((Says C 19 [(D.agg [D.nil, (dI n1)]), (D.agg [(Dw n13 1 cs1), (dI n14)])] kT) ∧
 ((Qb ∧
 ((bcase (n2 == 0)
 Qb
 Qft) ∧
 ((Qv (vI n2)) ∧
 True))) ∧
 (True ∧
 (k kT)))) ∨
 ((Says C 19 [(D.agg [D.nil, (dI n1)]), (D.agg [(Dw n13 1 cs1), (dI n14)])] kF) ∧
 ((Qf ∧
 ((bcase (n2 == 0)
 Qb
 Qft) ∧
 ((Qv (vI n2)) ∧
 True))) ∧
 (True ∧
 (k kF)))))
 False))))))))
 ((Qu ∧
 (Qu ∧
 (Qu ∧
 (Qu ∧
 (Qf ∧
 ((bcase (n2 == 0)
 Qtf
 Qf) ∧
 ((Qv (vI n2)) ∧
 True))))))) ∧
 ((Qu ∧
 ((bcase (n2 == 0)
 Qtf
 Qf) ∧
 ((Qv (vI n2)) ∧
 True))) ∧
 ((Qf ∧
 ((bcase (n2 == 0)
 Qtf
 Qf) ∧
 ((Qv (vI n2)) ∧
 True))) ∧
 (True ∧
 (k kF)))))))))
 (bcase (n11 != 0)
 (bcase (n2 == n11)
 (((Says C 19 [(D.agg [D.nil, (dI n1)]), (D.agg [D.nil, (dI 0)])] kT) ∧
 (k kT)) ∨
 ((Says C 19 [(D.agg [D.nil, (dI n1)]), (D.agg [D.nil, (dI 0)])] kF) ∧
 (k kF)))
 (k kF))
 (bcase (n2 == 0)
 (((Qv (Value.agg [(vI x6), (vI x7)].toArray)) ∧
 ((Qv (Value.agg [(Value.slice none 0 0), (vI x5)].toArray)) ∧
 ((Qv (Value.agg [(Value.slice none 0 0), (vI x1), (vI x2), (vI x3)].toArray)) ∧
 ((Qv (Value.agg [(Value.slice none 0 0), (vI n1)].toArray)) ∧
 (Qb ∧
 ((bcase (n2 == 0)
 Qb
 Qft) ∧
 ((Qv (vI n2)) ∧
 True))))))) ∧
 ((∃ n12 : Int,
 ((Says C 20 [(D.agg [D.nil, (dI x1), (dI x2), (dI x3)]), (D.agg [D.nil, (dI x5)]), (D.agg [(dI x6), (dI x7)])] [(D.agg [D.nil, (dI n12)])]) ∧
 (((Qv (Value.agg [(Value.slice none 0 0), (vI n1)].toArray)) ∧
 ((bcase (n2 == 0)
 Qb
 Qft) ∧
 ((Qv (vI n2)) ∧
 True))) ∧
 (((Says C 19 [(D.agg [D.nil, (dI n1)]), (D.agg [D.nil, (dI n12)])] kT) ∧
 ((Qb ∧
 ((bcase (n2 == 0)
 Qb
 Qft) ∧
 ((Qv (vI n2)) ∧
 True))) ∧
 (True ∧
 (k kT)))) ∨
 ((Says C 19 [(D.agg [D.nil, (dI n1)]), (D.agg [D.nil, (dI n12)])] kF) ∧
 ((Qf ∧
 ((bcase (n2 == 0)
 Qb
 Qft) ∧
 ((Qv (vI n2)) ∧
 True))) ∧
 (True ∧
 (k kF)))))))) ∨
 (∃ n12 : Nat,
 (∃ cs1 : List Go.Value,
 (∃ n13 : Int,
 ((Says C 20 [(D.agg [D.nil, (dI x1), (dI x2), (dI x3)]), (D.agg [D.nil, (dI x5)]), (D.agg [(dI x6), (dI x7)])] [(D.agg [(D.sl (n12) 1 (cs1)), (dI n13)])]) ∧
 (((Qv (Value.agg [(Value.slice none 0 0), (vI n1)].toArray)) ∧
 ((bcase (n2 == 0)
 Qb
 Qft) ∧
 ((Qv (vI n2)) ∧
 True))) ∧
 (bcase (dL n12 1 cs1)
 (((Says C 19 [(D.agg [D.nil, (dI n1)]), (D.agg [(Dw n12 1 cs1), (dI n13)])] kT) ∧
 ((Qb ∧
 ((bcase (n2 == 0)
 Qb
 Qft) ∧
 ((Qv (vI n2)) ∧
 True))) ∧
 (True ∧
 (k kT)))) ∨
 ((Says C 19 [(D.agg [D.nil, (dI n1)]), (D.agg [(Dw n12 1 cs1), (dI n13)])] kF) ∧
 ((Qf ∧
 ((bcase (n2 == 0)
 Qb
 Qft) ∧
 ((Qv (vI n2)) ∧
 True))) ∧
 (True ∧
 (k kF)))))
 False))))))))
 ((Qu ∧
 (Qu ∧
 (Qu ∧
 (Qu ∧
 (Qf ∧
 ((bcase (n2 == 0)
 Qtf
 Qf) ∧
 ((Qv (vI n2)) ∧
 True))))))) ∧
 ((Qu ∧
 ((bcase (n2 == 0)
 Qtf
 Qf) ∧
 ((Qv (vI n2)) ∧
 True))) ∧
 ((Qf ∧
 ((bcase (n2 == 0)
 Qtf
 Qf) ∧
 ((Qv (vI n2)) ∧
 True))) ∧
 (True ∧
 (k kF))))))))))))))))))))))))))))))))))))))))))))))) ∨
 (∃ n1 : Nat,
 (∃ cs1 : List Go.Value,
 (∃ n2 : Int,
 (∃ n3 : Int,
 ((Says C 7 [(D.agg [(D.sl 0 2 []), (dI x1), (dI x2), (dI x3)]), (D.agg [(D.sl 0 1 []), (dI x5)]), (D.agg [(dI x6), (dI x7)])] [(D.agg [(D.sl (n1) 1 (cs1)), (dI n2)]), (dI n3)]) ∧
 (((Qv (vI n3)) ∧
 ((Qv (Value.agg [(Sl 1009 (n1) (n1)), (vI n2)].toArray)) ∧
 ((Qv (Value.tuple [(Value.agg [(Sl 1009 (n1) (n1)), (vI n2)].toArray), (vI n3)].toArray)) ∧
 (((Qv (Pt 1006 0)) ∧
 (Qv (some (AObj.cells [(Value.slice none 0 0), (vI 0)] 31 false 2)))) ∧
 True)))) ∧
 (((Qv (vI n3)) ∧
 True) ∧
 (True ∧
 ((Says C 9 [(D.agg [D.nil, (dI x5)])] [(D.agg [(D.sl 0 1 []), (dI x5)])]) ∧
 (∃ n4 : Int,
 (∃ n5 : Int,
 (∃ n6 : Int,
 ((Says C 10 [(D.agg [(D.sl 0 1 []), (dI x5)])] [(D.agg [(dI n4), (dI n5)]), (dI n6)]) ∧
 (((Qv (Value.agg [(Value.slice none 0 0), (vI x1), (vI x2), (vI x3)].toArray)) ∧
 ((Qv (Value.agg [(Value.slice none 0 0), (vI x1), (vI x2), (vI x3)].toArray)) ∧
 True)) ∧
 ((Says C 8 [(D.agg [D.nil, (dI x1), (dI x2), (dI x3)])] [(D.agg [(D.sl 0 2 []), (dI x1), (dI x2), (dI x3)])]) ∧
 (((Qv (Value.agg [(Value.slice none 0 0), (vI x1), (vI x2), (vI x3)].toArray)) ∧
 True) ∧
 (∃ n7 : Int,
 ((Says C 11 [(D.agg [(D.sl 0 2 []), (dI x1), (dI x2), (dI x3)])] [(dI n7)]) ∧
 (((Qv (Value.agg [(Value.slice none 0 0), (vI x1), (vI x2), (vI x3)].toArray)) ∧
 True) ∧
 (∃ n8 : Int,
 ((Says C 12 [(D.agg [D.nil, (dI x1), (dI x2), (dI x3)])] [(dI n8)]) ∧
 (bcase (n7 != n8)
 ((Qu ∧
 (Qu ∧
 (Qb ∧
 ((bcase (n7 != n8)
 Qb
 Qft) ∧
 True)))) ∧
 ((Qu ∧
 ((bcase (n7 != n8)
 Qb
 Qft) ∧
 True)) ∧
 ((Qu ∧
 ((bcase (n7 != n8)
 Qb
 Qft) ∧
 True)) ∧
 ((Qb ∧
 (Qu ∧
 ((bcase (n7 != n8)
 Qb
 Qft) ∧
 True))) ∧
 (k kF)))))
 (((Qv (Value.agg [(Value.slice none 0 0), (vI x5)].toArray)) ∧
 ((Qv (Value.agg [(Value.slice none 0 0), (vI x5)].toArray)) ∧
 (Qf ∧
 ((bcase (n7 != n8)
 Qtf
 Qf) ∧
 True)))) ∧
 ((Says C 9 [(D.agg [D.nil, (dI x5)])] [(D.agg [(D.sl 0 1 []), (dI x5)])]) ∧
 (((Qv (Value.agg [(Value.slice none 0 0), (vI x5)].toArray)) ∧
 ((bcase (n7 != n8)
 Qtf
 Qf) ∧
 True)) ∧
 (∃ n9 : Int,
 ((Says C 13 [(D.agg [(D.sl 0 1 []), (dI x5)])] [(dI n9)]) ∧
 (((Qv (Value.agg [(Value.slice none 0 0), (vI x5)].toArray)) ∧
 ((bcase (n7 != n8)
 Qtf
 Qf) ∧
 True)) ∧
 (∃ n10 : Int,
 ((Says C 14 [(D.agg [D.nil, (dI x5)])] [(dI n10)]) ∧
 (bcase (n9 != n10)
 ((Qb ∧
 ((bcase (n9 != n10)
 Qb
 Qft) ∧
 ((bcase (n7 != n8)
 Qtf
 Qf) ∧
 True))) ∧
 (k kF))
 ((Qf ∧
 ((bcase (n9 != n10)
 Qtf
 Qf) ∧
 ((bcase (n7 != n8)
 Qtf
 Qf) ∧
 True))) ∧
 (∃ n11 : Int,
 ((Says C 14 [(D.agg [D.nil, (dI x5)])] [(dI n11)]) ∧
 (bcase (n11 != 0)
 (bcase (n6 != n11)
 ((Qu ∧
 (Qu ∧
 (Qu ∧
 (Qu ∧
 (Qu ∧
 (Qu ∧
 (Qu ∧
 (Qu ∧
 (Qb ∧
 (Qb ∧
 (Qb ∧
 (Qu ∧
 (Qu ∧
 (Qu ∧
 (Qb ∧
 ((bcase (n6 != n11)
 Qb
 Qft) ∧
 ((Qv (vI n11)) ∧
 ((Qv (vI n6)) ∧
 (Qb ∧
 ((bcase (n11 != 0)
 Qb
 Qft) ∧
 ((Qv (vI n11)) ∧
 True))))))))))))))))))))) ∧
 ((Qb ∧
 (Qu ∧
 (Qu ∧
 (Qu ∧
 (Qu ∧
 (Qu ∧
 (Qu ∧
 (Qu ∧
 (Qu ∧
 (Qu ∧
 (Qb ∧
 (Qb ∧
 (Qb ∧
 (Qu ∧
 (Qu ∧
 (Qu ∧
 (Qb ∧
 ((bcase (n6 != n11)
 Qb
 Qft) ∧
 ((Qv (vI n11)) ∧
 ((Qv (vI n6)) ∧
 (Qb ∧
 ((bcase (n11 != 0)
 Qb
 Qft) ∧
 ((Qv (vI n11)) ∧
 True))))))))))))))))))))))) ∧
 (k kF)))
 (bcase (if Bool.true = Bool.true then !(n4 == 0 && (n5 == 0 && Bool.true)) else n4 == 0 && (n5 == 0 && Bool.true))
 ((Qu ∧
 (Qu ∧
 (Qu ∧
 (Qu ∧
 (Qu ∧
 (Qu ∧
 (Qu ∧
 (Qu ∧
 (Qb ∧
 (Qb ∧
 (Qb ∧
 ((bcase (if Bool.true = Bool.true then !(n4 == 0 && (n5 == 0 && Bool.true)) else n4 == 0 && (n5 == 0 && Bool.true))
 Qb
 Qft) ∧
 ((Qv (Value.agg [(vI 0), (vI 0)].toArray)) ∧
 ((Qv (Value.agg [(vI n4), (vI n5)].toArray)) ∧
 (Qf ∧
 ((bcase (n6 != n11)
 Qtf
 Qf) ∧
 ((Qv (vI n11)) ∧
 ((Qv (vI n6)) ∧
 (Qb ∧
 ((bcase (n11 != 0)
 Qb
 Qft) ∧
 ((Qv (vI n11)) ∧
 True))))))))))))))))))))) ∧
 ((Qb ∧
 (Qu ∧
 (Qu ∧
 (Qu ∧
 (Qu ∧
 (Qu ∧
 (Qu ∧
 (Qu ∧
 (Qu ∧
 (Qu ∧
 (Qb ∧
 (Qb ∧
 (Qb ∧
 ((bcase (if Bool.true = Bool.true then !(n4 == 0 && (n5 == 0 && Bool.true)) else n4 == 0 && (n5 == 0 && Bool.true))
 Qb
 Qft) ∧
 ((Qv (Value.agg [(vI 0), (vI 0)].toArray)) ∧
 ((Qv (Value.agg [(vI n4), (vI n5)].toArray)) ∧
 (Qf ∧
 ((bcase (n6 != n11)
 Qtf
 Qf) ∧
 ((Qv (vI n11)) ∧
 ((Qv (vI n6)) ∧
 (Qb ∧
 ((bcase (n11 != 0)
 Qb
 Qft) ∧
 ((Qv (vI n11)) ∧
 True))))))))))))))))))))))) ∧
 (k kF)))
 (bcase (n11 == 0)
 (bcase (n6 != 0)
 ((Qu ∧
 (Qu ∧
 (Qb ∧
 ((bcase (n6 != 0)
 Qb
 Qft) ∧
 ((Qv (vI n6)) ∧
 (Qb ∧
 ((bcase (n11 == 0)
 Qb
 Qft) ∧
 ((Qv (vI n11)) ∧
 (Qf ∧
 (Qf ∧
 (Qf ∧
 ((bcase (if Bool.true = Bool.true then !(n4 == 0 && (n5 == 0 && Bool.true)) else n4 == 0 && (n5 == 0 && Bool.true))
 Qtf
 Qf) ∧
 ((Qv (Value.agg [(vI 0), (vI 0)].toArray)) ∧
 ((Qv (Value.agg [(vI n4), (vI n5)].toArray)) ∧
 (Qf ∧
 ((bcase (n6 != n11)
 Qtf
 Qf) ∧
 ((Qv (vI n11)) ∧
 ((Qv (vI n6)) ∧
 (Qb ∧
 ((bcase (n11 != 0)
 Qb
 Qft) ∧
 ((Qv (vI n11)) ∧
 True))))))))))))))))))))) ∧
 ((Qb ∧
 (Qb ∧
 (Qb ∧
 (Qu ∧
 (Qu ∧
 ((bcase (n6 != 0)
 Qb
 Qft) ∧
 ((Qv (vI n6)) ∧
 (Qb ∧
 ((bcase (n11 == 0)
 Qb
 Qft) ∧
 ((Qv (vI n11)) ∧
 (Qf ∧
 (Qf ∧
 (Qf ∧
 ((bcase (if Bool.true = Bool.true then !(n4 == 0 && (n5 == 0 && Bool.true)) else n4 == 0 && (n5 == 0 && Bool.true))
 Qtf
 Qf) ∧
 ((Qv (Value.agg [(vI 0), (vI 0)].toArray)) ∧
 ((Qv (Value.agg [(vI n4), (vI n5)].toArray)) ∧
 (Qf ∧
 ((bcase (n6 != n11)
 Qtf
 Qf) ∧
 ((Qv (vI n11)) ∧
 ((Qv (vI n6)) ∧
 (Qb ∧
 ((bcase (n11 != 0)
 Qb
 Qft) ∧
 ((Qv (vI n11)) ∧
 True))))))))))))))))))))))) ∧
 (k kF)))
 (((Qv (Value.agg [(Value.slice none 0 0), (vI x5)].toArray)) ∧
 ((Qv (Value.agg [(vI n4), (vI n5)].toArray)) ∧
 (Qf ∧
 ((bcase (n6 != 0)
 Qtf
 Qf) ∧
 ((Qv (vI n6)) ∧
 (Qb ∧
 ((bcase (n11 == 0)
 Qb
 Qft) ∧
 ((Qv (vI n11)) ∧
 (Qf ∧
 (Qf ∧
 (Qf ∧
 ((bcase (if Bool.true = Bool.true then !(n4 == 0 && (n5 == 0 && Bool.true)) else n4 == 0 && (n5 == 0 && Bool.true))
 Qtf
 Qf) ∧
 ((Qv (Value.agg [(vI 0), (vI 0)].toArray)) ∧
 ((Qv (Value.agg [(vI n4), (vI n5)].toArray)) ∧
 (Qf ∧
 ((bcase (n6 != n11)
 Qtf
 Qf) ∧
 ((Qv (vI n11)) ∧
 ((Qv (vI n6)) ∧
 (Qb ∧
 ((bcase (n11 != 0)
 Qb
 Qft) ∧
 ((Qv (vI n11)) ∧
 True))))))))))))))))))))) ∧
 (∃ n12 : Int,
 (∃ n13 : Int,
 ((Says C 15 [(D.agg [D.nil, (dI x5)])] [(D.agg [(dI n12), (dI n13)])]) ∧
 (bcase (if Bool.true = Bool.true then !(n4 == n12 && (n5 == n13 && Bool.true)) else n4 == n12 && (n5 == n13 && Bool.true))
 ((Qb ∧
 (Qb ∧
 (Qb ∧
 ((bcase (if Bool.true = Bool.true then !(n4 == n12 && (n5 == n13 && Bool.true)) else n4 == n12 && (n5 == n13 && Bool.true))
 Qb
 Qft) ∧
 ((Qv (Value.agg [(vI n4), (vI n5)].toArray)) ∧
 ((bcase (n6 != 0)
 Qtf
 Qf) ∧
 ((Qv (vI n6)) ∧
 (Qb ∧
 ((bcase (n11 == 0)
 Qb
 Qft) ∧
 ((Qv (vI n11)) ∧
 (Qf ∧
 (Qf ∧
 (Qf ∧
 ((bcase (if Bool.true = Bool.true then !(n4 == 0 && (n5 == 0 && Bool.true)) else n4 == 0 && (n5 == 0 && Bool.true))
 Qtf
 Qf) ∧
 ((Qv (Value.agg [(vI 0), (vI 0)].toArray)) ∧
 ((Qv (Value.agg [(vI n4), (vI n5)].toArray)) ∧
 (Qf ∧
 ((bcase (n6 != n11)
 Qtf
 Qf) ∧
 ((Qv (vI n11)) ∧
 ((Qv (vI n6)) ∧
 (Qb ∧
 ((bcase (n11 != 0)
 Qb
 Qft) ∧
 ((Qv (vI n11)) ∧
 True))))))))))))))))))))))) ∧
 (k kF))
 ((Qf ∧
 (Qf ∧
 (Qf ∧
 ((bcase (if Bool.true = Bool.true then !(n4 == n12 && (n5 == n13 && Bool.true)) else n4 == n12 && (n5 == n13 && Bool.true))
 Qtf
 Qf) ∧
 ((Qv (Value.agg [(vI n4), (vI n5)].toArray)) ∧
 ((bcase (n6 != 0)
 Qtf
 Qf) ∧
 ((Qv (vI n6)) ∧
 (Qb ∧
 ((bcase (n11 == 0)
 Qb
 Qft) ∧
 ((Qv (vI n11)) ∧
 (Qf ∧
 (Qf ∧
 (Qf ∧
 ((bcase (if Bool.true = Bool.true then !(n4 == 0 && (n5 == 0 && Bool.true)) else n4 == 0 && (n5 == 0 && Bool.true))
 Qtf
 Qf) ∧
 ((Qv (Value.agg [(vI 0), (vI 0)].toArray)) ∧
 ((Qv (Value.agg [(vI n4), (vI n5)].toArray)) ∧
 (Qf ∧
 ((bcase (n6 != n11)
 Qtf
 Qf) ∧
 ((Qv (vI n11)) ∧
 ((Qv (vI n6)) ∧
 (Qb ∧
 ((bcase (n11 != 0)
 Qb
 Qft) ∧
 ((Qv (vI n11)) ∧
 True))))))))))))))))))))))) ∧
 (∃ n14 : Int,
 ((Says C 16 [(D.agg [D.nil, (dI x1), (dI x2), (dI x3)]), (D.agg [D.nil, (dI x5)])] [(dI n14)]) ∧
 (bcase (n14 == 0)
 (∃ n15 : Int,
 ((Says C 17 [(dI x6)] [(dI n15)]) ∧
 (bcase (n15 == 0)
 (∃ n16 : Int,
 ((Says C 18 [(dI x7)] [(dI n16)]) ∧
 (bcase (n16 != 0)
 (bcase (n3 == n16)
 (bcase (dL n1 1 cs1)
 (((Says C 19 [(D.agg [(Dw n1 1 cs1), (dI n2)]), (D.agg [D.nil, (dI 0)])] kT) ∧
 (k kT)) ∨
 ((Says C 19 [(D.agg [(Dw n1 1 cs1), (dI n2)]), (D.agg [D.nil, (dI 0)])] kF) ∧
 (k kF)))
 False)
 (k kF))
 (bcase (n3 == 0)
 (((Qv (Value.agg [(vI x6), (vI x7)].toArray)) ∧
 ((Qv (Value.agg [(Value.slice none 0 0), (vI x5)].toArray)) ∧
 ((Qv (Value.agg [(Value.slice none 0 0), (vI x1), (vI x2), (vI x3)].toArray)) ∧
 ((Qv (Value.agg [(Sl 1009 (n1) (n1)), (vI n2)].toArray)) ∧
 (Qb ∧
 ((bcase (n3 == 0)
 Qb
 Qft) ∧
 ((Qv (vI n3)) ∧
 True))))))) ∧
 ((∃ n17 : Int,
 ((Says C 20 [(D.agg [D.nil, (dI x1), (dI x2), (dI x3)]), (D.agg [D.nil, (dI x5)]), (D.agg [(dI x6), (dI x7)])] [(D.agg [D.nil, (dI n17)])]) ∧
 (((Qv (Value.agg [(Sl 1009 (n1) (n1)), (vI n2)].toArray)) ∧
 ((bcase (n3 == 0)
 Qb
 Qft) ∧
 ((Qv (vI n3)) ∧
 True))) ∧
 (bcase (dL n1 1 cs1)
 (((Says C 19 [(D.agg [(Dw n1 1 cs1), (dI n2)]), (D.agg [D.nil, (dI n17)])] kT) ∧
 ((Qb ∧
 ((bcase (n3 == 0)
 Qb
 Qft) ∧
 ((Qv (vI n3)) ∧
 True))) ∧
 (True ∧
 (k kT)))) ∨
 ((Says C 19 [(D.agg [(Dw n1 1 cs1), (dI n2)]), (D.agg [D.nil, (dI n17)])] kF) ∧
 ((Qf ∧
 ((bcase (n3 == 0)
 Qb
 Qft) ∧
 ((Qv (vI n3)) ∧
 True))) ∧
 (True ∧
 (k kF)))))
 False)))) ∨
 (∃ n17 : Nat,
 (∃ cs2 : List Go.Value,
 (∃ n18 : Int,
 ((Says C 20 [(D.agg [D.nil, (dI x1), (dI x2), (dI x3)]), (D.agg [D.nil, (dI x5)]), (D.agg [(dI x6), (dI x7)])] [(D.agg [(D.sl (n17) 1 (cs2)), (dI n18)])]) ∧
 (((Qv (Value.agg [(Sl 1009 (n1) (n1)), (vI n2)].toArray)) ∧
 ((bcase (n3 == 0)
 Qb
 Qft) ∧
 ((Qv (vI n3)) ∧
 True))) ∧
 (bcase (dL n1 1 cs1)
 (bcase (dL n17 1 cs2)
 (((Says C 19 [(D.agg [(Dw n1 1 cs1), (dI n2)]), (D.agg [(Dw n17 1 cs2), (dI n18)])] kT) ∧
 ((Qb ∧
 ((bcase (n3 == 0)
 Qb
 Qft) ∧
 ((Qv (vI n3)) ∧
 True))) ∧
 (True ∧
 (k kT)))) ∨
 ((Says C 19 [(D.agg [(Dw n1 1 cs1), (dI n2)]), (D.agg [(Dw n17 1 cs2), (dI n18)])] kF) ∧
 ((Qf ∧
 ((bcase (n3 == 0)
 Qb
 Qft) ∧
 ((Qv (vI n3)) ∧
 True))) ∧
 (True ∧
 (k kF)))))
 False)
 False))))))))
 ((Qu ∧
 (Qu ∧
 (Qu ∧
 (Qu ∧
 (Qf ∧
 ((bcase (n3 == 0)
 Qtf
 Qf) ∧
 ((Qv (vI n3)) ∧
 True))))))) ∧
 ((Qu ∧
 ((bcase (n3 == 0)
 Qtf
 Qf) ∧
 ((Qv (vI n3)) ∧
 True))) ∧
 ((Qf ∧
 ((bcase (n3 == 0)
 Qtf
 Qf) ∧
 ((Qv (vI n3)) ∧
 True))) ∧
 (True ∧
 (k kF)))))))))
 (bcase (n15 != 0)
 (bcase (n3 == n15)
 (bcase (dL n1 1 cs1)
 (((Says C 19 [(D.agg [(Dw n1 1 cs1), (dI n2)]), (D.agg [D.nil, (dI 0)])] kT) ∧
 (k kT)) ∨
 ((Says C 19 [(D.agg [(Dw n1 1 cs1), (dI n2)]), (D.agg [D.nil, (dI 0)])] kF) ∧
 (k kF)))
 False)
 (k kF))
 (bcase (n3 == 0)
 (((Qv (Value.agg [(vI x6), (vI x7)].toArray)) ∧
 ((Qv (Value.agg [(Value.slice none 0 0), (vI x5)].toArray)) ∧
 ((Qv (Value.agg [(Value.slice none 0 0), (vI x1), (vI x2), (vI x3)].toArray)) ∧
 ((Qv (Value.agg [(Sl 1009 (n1) (n1)), (vI n2)].toArray)) ∧
 (Qb ∧
 ((bcase (n3 == 0)
 Qb
 Qft) ∧
 ((Qv (vI n3)) ∧
 True))))))) ∧
 ((∃ n16 : Int,
 ((Says C 20 [(D.agg [D.nil, (dI x1), (dI x2), (dI x3)]), (D.agg [D.nil, (dI x5)]), (D.agg [(dI x6), (dI x7)])] [(D.agg [D.nil, (dI n16)])]) ∧
 (((Qv (Value.agg [(Sl 1009 (n1) (n1)), (vI n2)].toArray)) ∧
 ((bcase (n3 == 0)
 Qb
 Qft) ∧
 ((Qv (vI n3)) ∧
 True))) ∧
 (bcase (dL n1 1 cs1)
 (((Says C 19 [(D.agg [(Dw n1 1 cs1), (dI n2)]), (D.agg [D.nil, (dI n16)])] kT) ∧
 ((Qb ∧
 ((bcase (n3 == 0)
 Qb
 Qft) ∧
 ((Qv (vI n3)) ∧
 True))) ∧
 (True ∧
 (k kT)))) ∨
 ((Says C 19 [(D.agg [(Dw n1 1 cs1), (dI n2)]), (D.agg [D.nil, (dI n16)])] kF) ∧
 ((Qf ∧
 ((bcase (n3 == 0)
 Qb
 Qft) ∧
 ((Qv (vI n3)) ∧
 True))) ∧
 (True ∧
 (k kF)))))
 False)))) ∨
 (∃ n16 : Nat,
 (∃ cs2 : List Go.Value,
 (∃ n17 : Int,
 ((Says C 20 [(D.agg [D.nil, (dI x1), (dI x2), (dI x3)]), (D.agg [D.nil, (dI x5)]), (D.agg [(dI x6), (dI x7)])] [(D.agg [(D.sl (n16) 1 (cs2)), (dI n17)])]) ∧
 (((Qv (Value.agg [(Sl 1009 (n1) (n1)), (vI n2)].toArray)) ∧
 ((bcase (n3 == 0)
 Qb
 Qft) ∧
 ((Qv (vI n3)) ∧
 True))) ∧
 (bcase (dL n1 1 cs1)
 (bcase (dL n16 1 cs2)
 (((Says C 19 [(D.agg [(Dw n1 1 cs1), (dI n2)]), (D.agg [(Dw n16 1 cs2), (dI n17)])] kT) ∧
 ((Qb ∧
 ((bcase (n3 == 0)
 Qb
 Qft) ∧
 ((Qv (vI n3)) ∧
 True))) ∧
 (True ∧
 (k kT)))) ∨
 ((Says C 19 [(D.agg [(Dw n1 1 cs1), (dI n2)]), (D.agg [(Dw n16 1 cs2), (dI n17)])] kF) ∧
 ((Qf ∧
 ((bcase (n3 == 0)
 Qb
 Qft) ∧
 ((Qv (vI n3)) ∧
 True))) ∧
 (True ∧
 (k kF)))))
 False)
 False))))))))
 ((Qu ∧
 (Qu ∧
 (Qu ∧
 (Qu ∧
 (Qf ∧
 ((bcase (n3 == 0)
 Qtf
 Qf) ∧
 ((Qv (vI n3)) ∧
 True))))))) ∧
 ((Qu ∧
 ((bcase (n3 == 0)
 Qtf
 Qf) ∧
 ((Qv (vI n3)) ∧
 True))) ∧
 ((Qf ∧
 ((bcase (n3 == 0)
 Qtf
 Qf) ∧
 ((Qv (vI n3)) ∧
 True))) ∧
 (True ∧
 (k kF))))))))))
 (bcase (n14 == 0)
 (∃ n15 : Int,
 ((Says C 18 [(dI x7)] [(dI n15)]) ∧
 (bcase (n15 != 0)
 (bcase (n3 == n15)
 (bcase (dL n1 1 cs1)
 (((Says C 19 [(D.agg [(Dw n1 1 cs1), (dI n2)]), (D.agg [D.nil, (dI 0)])] kT) ∧
 (k kT)) ∨
 ((Says C 19 [(D.agg [(Dw n1 1 cs1), (dI n2)]), (D.agg [D.nil, (dI 0)])] kF) ∧
 (k kF)))
 False)
 (k kF))
 (bcase (n3 == 0)
 (((Qv (Value.agg [(vI x6), (vI x7)].toArray)) ∧
 ((Qv (Value.agg [(Value.slice none 0 0), (vI x5)].toArray)) ∧
 ((Qv (Value.agg [(Value.slice none 0 0), (vI x1), (vI x2), (vI x3)].toArray)) ∧
 ((Qv (Value.agg [(Sl 1009 (n1) (n1)), (vI n2)].toArray)) ∧
 (Qb ∧
 ((bcase (n3 == 0)
 Qb
 Qft) ∧
 ((Qv (vI n3)) ∧
 True))))))) ∧
 ((∃ n16 : Int,
 ((Says C 20 [(D.agg [D.nil, (dI x1), (dI x2), (dI x3)]), (D.agg [D.nil, (dI x5)]), (D.agg [(dI x6), (dI x7)])] [(D.agg [D.nil, (dI n16)])]) ∧
 (((Qv (Value.agg [(Sl 1009 (n1) (n1)), (vI n2)].toArray)) ∧
 ((bcase (n3 == 0)
 Qb
 Qft) ∧
 ((Qv (vI n3)) ∧
 True))) ∧
 (bcase (dL n1 1 cs1)
 (((Says C 19 [(D.agg [(Dw n1 1 cs1), (dI n2)]), (D.agg [D.nil, (dI n16)])] kT) ∧
 ((Qb ∧
 ((bcase (n3 == 0)
 Qb
 Qft) ∧
 ((Qv (vI n3)) ∧
 True))) ∧
 (True ∧
 (k kT)))) ∨
 ((Says C 19 [(D.agg [(Dw n1 1 cs1), (dI n2)]), (D.agg [D.nil, (dI n16)])] kF) ∧
 ((Qf ∧
 ((bcase (n3 == 0)
 Qb
 Qft) ∧
 ((Qv (vI n3)) ∧
 True))) ∧
 (True ∧
 (k kF)))))
 False)))) ∨
 (∃ n16 : Nat,
 (∃ cs2 : List Go.Value,
 (∃ n17 : Int,
 ((Says C 20 [(D.agg [D.nil, (dI x1), (dI x2), (dI x3)]), (D.agg [D.nil, (dI x5)]), (D.agg [(dI x6), (dI x7)])] [(D.agg [(D.sl (n16) 1 (cs2)), (dI n17)])]) ∧
 (((Qv (Value.agg [(Sl 1009 (n1) (n1)), (vI n2)].toArray)) ∧
 ((bcase (n3 == 0)
 Qb
 Qft) ∧
 ((Qv (vI n3)) ∧
 True))) ∧
 (bcase (dL n1 1 cs1)
 (bcase (dL n16 1 cs2)
 (((Says C 19 [(D.agg [(Dw n1 1 cs1), (dI n2)]), (D.agg [(Dw n16 1 cs2), (dI n17)])] kT) ∧
 ((Qb ∧
 ((bcase (n3 == 0)
 Qb
 Qft) ∧
 ((Qv (vI n3)) ∧
 True))) ∧
 (True ∧
 (k kT)))) ∨
 ((Says C 19 [(D.agg [(Dw n1 1 cs1), (dI n2)]), (D.agg [(Dw n16 1 cs2), (dI n17)])] kF) ∧
 ((Qf ∧
 ((bcase (n3 == 0)
 Qb
 Qft) ∧
 ((Qv (vI n3)) ∧
 True))) ∧
 (True ∧
 (k kF)))))
 False)
 False))))))))
 ((Qu ∧
 (Qu ∧
 (Qu ∧
 (Qu ∧
 (Qf ∧
 ((bcase (n3 == 0)
 Qtf
 Qf) ∧
 ((Qv (vI n3)) ∧
 True))))))) ∧
 ((Qu ∧
 ((bcase (n3 == 0)
 Qtf
 Qf) ∧
 ((Qv (vI n3)) ∧
 True))) ∧
 ((Qf ∧
 ((bcase (n3 == 0)
 Qtf
 Qf) ∧
 ((Qv (vI n3)) ∧
 True))) ∧
 (True ∧
 (k kF)))))))))
 (bcase (n14 != 0)
 (bcase (n3 == n14)
 (bcase (dL n1 1 cs1)
 (((Says C 19 [(D.agg [(Dw n1 1 cs1), (dI n2)]), (D.agg [D.nil, (dI 0)])] kT) ∧
 (k kT)) ∨
 ((Says C 19 [(D.agg [(Dw n1 1 cs1), (dI n2)]), (D.agg [D.nil, (dI 0)])] kF) ∧
 (k kF)))
 False)
 (k kF))
 (bcase (n3 == 0)
 (((Qv (Value.agg [(vI x6), (vI x7)].toArray)) ∧
 ((Qv (Value.agg [(Value.slice none 0 0), (vI x5)].toArray)) ∧
 ((Qv (Value.agg [(Value.slice none 0 0), (vI x1), (vI x2), (vI x3)].toArray)) ∧
 ((Qv (Value.agg [(Sl 1009 (n1) (n1)), (vI n2)].toArray)) ∧
 (Qb ∧
 ((bcase (n3 == 0)
 Qb
 Qft) ∧
 ((Qv (vI n3)) ∧
 True))))))) ∧
 ((∃ n15 : Int,
 ((Says C 20 [(D.agg [D.nil, (dI x1), (dI x2), (dI x3)]), (D.agg [D.nil, (dI x5)]), (D.agg [(dI x6), (dI x7)])] [(D.agg [D.nil, (dI n15)])]) ∧
 (((Qv (Value.agg [(Sl 1009 (n1) (n1)), (vI n2)].toArray)) ∧
 ((bcase (n3 == 0)
 Qb
 Qft) ∧
 ((Qv (vI n3)) ∧
 True))) ∧
 (bcase (dL n1 1 cs1)
 (((Says C 19 [(D.agg [(Dw n1 1 cs1), (dI n2)]), (D.agg [D.nil, (dI n15)])] kT) ∧
 ((Qb ∧
 ((bcase (n3 == 0)
 Qb
 Qft) ∧
 ((Qv (vI n3)) ∧
 True))) ∧
 (True ∧
 (k kT)))) ∨
 ((Says C 19 [(D.agg [(Dw n1 1 cs1), (dI n2)]), (D.agg [D.nil, (dI n15)])] kF) ∧
 ((Qf ∧
 ((bcase (n3 == 0)
 Qb
 Qft) ∧
 ((Qv (vI n3)) ∧
 True))) ∧
 (True ∧
 (k kF)))))
 False)))) ∨
 (∃ n15 : Nat,
 (∃ cs2 : List Go.Value,
 (∃ n16 : Int,
 ((Says C 20 [(D.agg [D.nil, (dI x1), (dI x2), (dI x3)]), (D.agg [D.nil, (dI x5)]), (D.agg [(dI x6), (dI x7)])] [(D.agg [(D.sl (n15) 1 (cs2)), (dI n16)])]) ∧
 (((Qv (Value.agg [(Sl 1009 (n1) (n1)), (vI n2)].toArray)) ∧
 ((bcase (n3 == 0)
 Qb
 Qft) ∧
 ((Qv (vI n3)) ∧
 True))) ∧
 (bcase (dL n1 1 cs1)
 (bcase (dL n15 1 cs2)
 (((Says C 19 [(D.agg [(Dw n1 1 cs1), (dI n2)]), (D.agg [(Dw n15 1 cs2), (dI n16)])] kT) ∧
 ((Qb ∧
 ((bcase (n3 == 0)
 Qb
 Qft) ∧
 ((Qv (vI n3)) ∧
 True))) ∧
 (True ∧
 (k kT)))) ∨
 ((Says C 19 [(D.agg [(Dw n1 1 cs1), (dI n2)]), (D.agg [(Dw n15 1 cs2), (dI n16)])] kF) ∧
 ((Qf ∧
 ((bcase (n3 == 0)
 Qb
 Qft) ∧
 ((Qv (vI n3)) ∧
 True))) ∧
 (True ∧
 (k kF)))))
 False)
 False))))))))
 ((Qu ∧
 (Qu ∧
 (Qu ∧
 (Qu ∧
 (Qf ∧
 ((bcase (n3 == 0)
 Qtf
 Qf) ∧
 ((Qv (vI n3)) ∧
 True))))))) ∧
 ((Qu ∧
 ((bcase (n3 == 0)
 Qtf
 Qf) ∧
 ((Qv (vI n3)) ∧
 True))) ∧
 ((Qf ∧
 ((bcase (n3 == 0)
 Qtf
 Qf) ∧
 ((Qv (vI n3)) ∧
 True))) ∧
 (True ∧
 (k kF))))))))))))))))))
 ((Qu ∧
 (Qu ∧
 (Qu ∧
 (Qu ∧
 (Qu ∧
 (Qf ∧
 ((bcase (n11 == 0)
 Qtf
 Qf) ∧
 ((Qv (vI n11)) ∧
 (Qf ∧
 (Qf ∧
 (Qf ∧
 ((bcase (if Bool.true = Bool.true then !(n4 == 0 && (n5 == 0 && Bool.true)) else n4 == 0 && (n5 == 0 && Bool.true))
 Qtf
 Qf) ∧
 ((Qv (Value.agg [(vI 0), (vI 0)].toArray)) ∧
 ((Qv (Value.agg [(vI n4), (vI n5)].toArray)) ∧
 (Qf ∧
 ((bcase (n6 != n11)
 Qtf
 Qf) ∧
 ((Qv (vI n11)) ∧
 ((Qv (vI n6)) ∧
 (Qb ∧
 ((bcase (n11 != 0)
 Qb
 Qft) ∧
 ((Qv (vI n11)) ∧
 True))))))))))))))))))))) ∧
 ((Qf ∧
 (Qf ∧
 (Qu ∧
 (Qu ∧
 (Qu ∧
 (Qu ∧
 (Qu ∧
 (Qf ∧
 ((bcase (n11 == 0)
 Qtf
 Qf) ∧
 ((Qv (vI n11)) ∧
 (Qf ∧
 (Qf ∧
 (Qf ∧
 ((bcase (if Bool.true = Bool.true then !(n4 == 0 && (n5 == 0 && Bool.true)) else n4 == 0 && (n5 == 0 && Bool.true))
 Qtf
 Qf) ∧
 ((Qv (Value.agg [(vI 0), (vI 0)].toArray)) ∧
 ((Qv (Value.agg [(vI n4), (vI n5)].toArray)) ∧
 (Qf ∧
 ((bcase (n6 != n11)
 Qtf
 Qf) ∧
 ((Qv (vI n11)) ∧
 ((Qv (vI n6)) ∧
 (Qb ∧
 ((bcase (n11 != 0)
 Qb
 Qft) ∧
 ((Qv (vI n11)) ∧
 True))))))))))))))))))))))) ∧
 (∃ n12 : Int,
 ((Says C 16 [(D.agg [D.nil, (dI x1), (dI x2), (dI x3)]), (D.agg [D.nil, (dI x5)])] [(dI n12)]) ∧
 (bcase (n12 == 0)
 (∃ n13 : Int,
 ((Says C 17 [(dI x6)] [(dI n13)]) ∧
 (bcase (n13 == 0)
 (∃ n14 : Int,
 ((Says C 18 [(dI x7)] [(dI n14)]) ∧
 (bcase (n14 != 0)
 (bcase (n3 == n14)
 (bcase (dL n1 1 cs1)
 (((Says C 19 [(D.agg [(Dw n1 1 cs1), (dI n2)]), (D.agg [D.nil, (dI 0)])] kT) ∧
 (k kT)) ∨
 ((Says C 19 [(D.agg [(Dw n1 1 cs1), (dI n2)]), (D.agg [D.nil, (dI 0)])] kF) ∧
 (k kF)))
 False)
 (k kF))
 (bcase (n3 == 0)
 (((Qv (Value.agg [(vI x6), (vI x7)].toArray)) ∧
 ((Qv (Value.agg [(Value.slice none 0 0), (vI x5)].toArray)) ∧
 ((Qv (Value.agg [(Value.slice none 0 0), (vI x1), (vI x2), (vI x3)].toArray)) ∧
 ((Qv (Value.agg [(Sl 1009 (n1) (n1)), (vI n2)].toArray)) ∧
 (Qb ∧
 ((bcase (n3 == 0)
 Qb
 Qft) ∧
 ((Qv (vI n3)) ∧
 True))))))) ∧
 ((∃ n15 : Int,
 ((Says C 20 [(D.agg [D.nil, (dI x1), (dI x2), (dI x3)]), (D.agg [D.nil, (dI x5)]), (D.agg [(dI x6), (dI x7)])] [(D.agg [D.nil, (dI n15)])]) ∧
 (((Qv (Value.agg [(Sl 1009 (n1) (n1)), (vI n2)].toArray)) ∧
 ((bcase (n3 == 0)
 Qb
 Qft) ∧
 ((Qv (vI n3)) ∧
 True))) ∧
 (bcase (dL n1 1 cs1)
 (((Says C 19 [(D.agg [(Dw n1 1 cs1), (dI n2)]), (D.agg [D.nil, (dI n15)])] kT) ∧
 ((Qb ∧
 ((bcase (n3 == 0)
 Qb
 Qft) ∧
 ((Qv (vI n3)) ∧
 True))) ∧
 (True ∧
 (k kT)))) ∨
 ((Says C 19 [(D.agg [(Dw n1 1 cs1), (dI n2)]), (D.agg [D.nil, (dI n15)])] kF) ∧
 ((Qf ∧
 ((bcase (n3 == 0)
 Qb
 Qft) ∧
 ((Qv (vI n3)) ∧
 True))) ∧
 (True ∧
 (k kF)))))
 False)))) ∨
 (∃ n15 : Nat,
 (∃ cs2 : List Go.Value,
 (∃ n16 : Int,
 ((Says C 20 [(D.agg [D.nil, (dI x1), (dI x2), (dI x3)]), (D.agg [D.nil, (dI x5)]), (D.agg [(dI x6), (dI x7)])] [(D.agg [(D.sl (n15) 1 (cs2)), (dI n16)])]) ∧
 (((Qv (Value.agg [(Sl 1009 (n1) (n1)), (vI n2)].toArray)) ∧
 ((bcase (n3 == 0)
 Qb
 Qft) ∧
 ((Qv (vI n3)) ∧
 True))) ∧
 (bcase (dL n1 1 cs1)
 (bcase (dL n15 1 cs2)
 (((Says C 19 [(D.agg [(Dw n1 1 cs1), (dI n2)]), (D.agg [(Dw n15 1 cs2), (dI n16)])] kT) ∧
 ((Qb ∧
 ((bcase (n3 == 0)
 Qb
 Qft) ∧
 ((Qv (vI n3)) ∧
 True))) ∧
 (True ∧
 (k kT)))) ∨
 ((Says C 19 [(D.agg [(Dw n1 1 cs1), (dI n2)]), (D.agg [(Dw n15 1 cs2), (dI n16)])] kF) ∧
 ((Qf ∧
 ((bcase (n3 == 0)
 Qb
 Qft) ∧
 ((Qv (vI n3)) ∧
 True))) ∧
 (True ∧
 (k kF)))))
 False)
 False))))))))
 ((Qu ∧
 (Qu ∧
 (Qu ∧
 (Qu ∧
 (Qf ∧
 ((bcase (n3 == 0)
 Qtf
 Qf) ∧
 ((Qv (vI n3)) ∧
 True))))))) ∧
 ((Qu ∧
 ((bcase (n3 == 0)
 Qtf
 Qf) ∧
 ((Qv (vI n3)) ∧
 True))) ∧
 ((Qf ∧
 ((bcase (n3 == 0)
 Qtf
 Qf) ∧
 ((Qv (vI n3)) ∧
 True))) ∧
 (True ∧
 (k kF)))))))))
 (bcase (n13 != 0)
 (bcase (n3 == n13)
 (bcase (dL n1 1 cs1)
 (((Says C 19 [(D.agg [(Dw n1 1 cs1), (dI n2)]), (D.agg [D.nil, (dI 0)])] kT) ∧
 (k kT)) ∨
 ((Says C 19 [(D.agg [(Dw n1 1 cs1), (dI n2)]), (D.agg [D.nil, (dI 0)])] kF) ∧
 (k kF)))
 False)
 (k kF))
 (bcase (n3 == 0)
 (((Qv (Value.agg [(vI x6), (vI x7)].toArray)) ∧
 ((Qv (Value.agg [(Value.slice none 0 0), (vI x5)].toArray)) ∧
 ((Qv (Value.agg [(Value.slice none 0 0), (vI x1), (vI x2), (vI x3)].toArray)) ∧
 ((Qv (Value.agg [(Sl 1009 (n1) (n1)), (vI n2)].toArray)) ∧
 (Qb ∧
 ((bcase (n3 == 0)
 Qb
 Qft) ∧
 ((Qv (vI n3)) ∧
 True))))))) ∧
 ((∃ n14 : Int,
 ((Says C 20 [(D.agg [D.nil, (dI x1), (dI x2), (dI x3)]), (D.agg [D.nil, (dI x5)]), (D.agg [(dI x6), (dI x7)])] [(D.agg [D.nil, (dI n14)])]) ∧
 (((Qv (Value.agg [(Sl 1009 (n1) (n1)), (vI n2)].toArray)) ∧
 ((bcase (n3 == 0)
 Qb
 Qft) ∧
 ((Qv (vI n3)) ∧
 True))) ∧
 (bcase (dL n1 1 cs1)
 (((Says C 19 [(D.agg [(Dw n1 1 cs1), (dI n2)]), (D.agg [D.nil, (dI n14)])] kT) ∧
 ((Qb ∧
 ((bcase (n3 == 0)
 Qb
 Qft) ∧
 ((Qv (vI n3)) ∧
 True))) ∧
 (True ∧
 (k kT)))) ∨
 ((Says C 19 [(D.agg [(Dw n1 1 cs1), (dI n2)]), (D.agg [D.nil, (dI n14)])] kF) ∧
 ((Qf ∧
 ((bcase (n3 == 0)
 Qb
 Qft) ∧
 ((Qv (vI n3)) ∧
 True))) ∧
 (True ∧
 (k kF)))))
 False)))) ∨
 (∃ n14 : Nat,
 (∃ cs2 : List Go.Value,
 (∃ n15 : Int,
 ((Says C 20 [(D.agg [D.nil, (dI x1), (dI x2), (dI x3)]), (D.agg [D.nil, (dI x5)]), (D.agg [(dI x6), (dI x7)])] [(D.agg [(D.sl (n14) 1 (cs2)), (dI n15)])]) ∧
 (((Qv (Value.agg [(Sl 1009 (n1) (n1)), (vI n2)].toArray)) ∧
 ((bcase (n3 == 0)
 Qb
 Qft) ∧
 ((Qv (vI n3)) ∧
 True))) ∧
 (bcase (dL n1 1 cs1)
 (bcase (dL n14 1 cs2)
 (((Says C 19 [(D.agg [(Dw n1 1 cs1), (dI n2)]), (D.agg [(Dw n14 1 cs2), (dI n15)])] kT) ∧
 ((Qb ∧
 ((bcase (n3 == 0)
 Qb
 Qft) ∧
 ((Qv (vI n3)) ∧
 True))) ∧
 (True ∧
 (k kT)))) ∨
 ((Says C 19 [(D.agg [(Dw n1 1 cs1), (dI n2)]), (D.agg [(Dw n14 1 cs2), (dI n15)])] kF) ∧
 ((Qf ∧
 ((bcase (n3 == 0)
 Qb
 Qft) ∧
 ((Qv (vI n3)) ∧
 True))) ∧
 (True ∧
 (k kF)))))
 False)
 False))))))))
 ((Qu ∧
 (Qu ∧
 (Qu ∧
 (Qu ∧
 (Qf ∧
 ((bcase (n3 == 0)
 Qtf
 Qf) ∧
 ((Qv (vI n3)) ∧
 True))))))) ∧
 ((Qu ∧
 ((bcase (n3 == 0)
 Qtf
 Qf) ∧
 ((Qv (vI n3)) ∧
 True))) ∧
 ((Qf ∧
 ((bcase (n3 == 0)
 Qtf
 Qf) ∧
 ((Qv (vI n3)) ∧
 True))) ∧
 (True ∧
 (k kF))))))))))
 (bcase (n12 == 0)
 (∃ n13 : Int,
 ((Says C 18 [(dI x7)] [(dI n13)]) ∧
 (bcase (n13 != 0)
 (bcase (n3 == n13)
 (bcase (dL n1 1 cs1)
 (((Says C 19 [(D.agg [(Dw n1 1 cs1), (dI n2)]), (D.agg [D.nil, (dI 0)])] kT) ∧
 (k kT)) ∨
 ((Says C 19 [(D.agg [(Dw n1 1 cs1), (dI n2)]), (D.agg [D.nil, (dI 0)])] kF) ∧
 (k kF)))
 False)
 (k kF))
 (bcase (n3 == 0)
 (((Qv (Value.agg [(vI x6), (vI x7)].toArray)) ∧
 ((Qv (Value.agg [(Value.slice none 0 0), (vI x5)].toArray)) ∧
 ((Qv (Value.agg [(Value.slice none 0 0), (vI x1), (vI x2), (vI x3)].toArray)) ∧
 ((Qv (Value.agg [(Sl 1009 (n1) (n1)), (vI n2)].toArray)) ∧
 (Qb ∧
 ((bcase (n3 == 0)
 Qb
 Qft) ∧
 ((Qv (vI n3)) ∧
 True))))))) ∧
 ((∃ n14 : Int,
 ((Says C 20 [(D.agg [D.nil, (dI x1), (dI x2), (dI x3)]), (D.agg [D.nil, (dI x5)]), (D.agg [(dI x6), (dI x7)])] [(D.agg [D.nil, (dI n14)])]) ∧
 (((Qv (Value.agg [(Sl 1009 (n1) (n1)), (vI n2)].toArray)) ∧
 ((bcase (n3 == 0)
 Qb
 Qft) ∧
 ((Qv (vI n3)) ∧
 True))) ∧
 (bcase (dL n1 1 cs1)
 (((Says C 19 [(D.agg [(Dw n1 1 cs1), (dI n2)]), (D.agg [D.nil, (dI n14)])] kT) ∧
 ((Qb ∧
 ((bcase (n3 == 0)
 Qb
 Qft) ∧
 ((Qv (vI n3)) ∧
 True))) ∧
 (True ∧
 (k kT)))) ∨
 ((Says C 19 [(D.agg [(Dw n1 1 cs1), (dI n2)]), (D.agg [D.nil, (dI n14)])] kF) ∧
 ((Qf ∧
 ((bcase (n3 == 0)
 Qb
 Qft) ∧
 ((Qv (vI n3)) ∧
 True))) ∧
 (True ∧
 (k kF)))))
 False)))) ∨
 (∃ n14 : Nat,
 (∃ cs2 : List Go.Value,
 (∃ n15 : Int,
 ((Says C 20 [(D.agg [D.nil, (dI x1), (dI x2), (dI x3)]), (D.agg [D.nil, (dI x5)]), (D.agg [(dI x6), (dI x7)])] [(D.agg [(D.sl (n14) 1 (cs2)), (dI n15)])]) ∧
 (((Qv (Value.agg [(Sl 1009 (n1) (n1)), (vI n2)].toArray)) ∧
 ((bcase (n3 == 0)
 Qb
 Qft) ∧
 ((Qv (vI n3)) ∧
 True))) ∧
 (bcase (dL n1 1 cs1)
 (bcase (dL n14 1 cs2)
 (((Says C 19 [(D.agg [(Dw n1 1 cs1), (dI n2)]), (D.agg [(Dw n14 1 cs2), (dI n15)])] kT) ∧
 ((Qb ∧
 ((bcase (n3 == 0)
 Qb
 Qft) ∧
 ((Qv (vI n3)) ∧
 True))) ∧
 (True ∧
 (k kT)))) ∨
 ((Says C 19 [(D.agg [(Dw n1 1 cs1), (dI n2)]), (D.agg [(Dw n14 1 cs2), (dI n15)])] kF) ∧
 ((Qf ∧
 ((bcase (n3 == 0)
 Qb
 Qft) ∧
 ((Qv (vI n3)) ∧
 True))) ∧
 (True ∧
 (k kF)))))
 False)
 False))))))))
 ((Qu ∧
 (Qu ∧
 (Qu ∧
 (Qu ∧
 (Qf ∧
 ((bcase (n3 == 0)
 Qtf
 Qf) ∧
 ((Qv (vI n3)) ∧
 True))))))) ∧
 ((Qu ∧
 ((bcase (n3 == 0)
 Qtf
 Qf) ∧
 ((Qv (vI n3)) ∧
 True))) ∧
 ((Qf ∧
 ((bcase (n3 == 0)
 Qtf
 Qf) ∧
 ((Qv (vI n3)) ∧
 True))) ∧
 (True ∧
 (k kF)))))))))
 (bcase (n12 != 0)
 (bcase (n3 == n12)
 (bcase (dL n1 1 cs1)
 (((Says C 19 [(D.agg [(Dw n1 1 cs1), (dI n2)]), (D.agg [D.nil, (dI 0)])] kT) ∧
 (k kT)) ∨
 ((Says C 19 [(D.agg [(Dw n1 1 cs1), (dI n2)]), (D.agg [D.nil, (dI 0)])] kF) ∧
 (k kF)))
 False)
 (k kF))
 (bcase (n3 == 0)
 (((Qv (Value.agg [(vI x6), (vI x7)].toArray)) ∧
 ((Qv (Value.agg [(Value.slice none 0 0), (vI x5)].toArray)) ∧
 ((Qv (Value.agg [(Value.slice none 0 0), (vI x1), (vI x2), (vI x3)].toArray)) ∧
 ((Qv (Value.agg [(Sl 1009 (n1) (n1)), (vI n2)].toArray)) ∧
 (Qb ∧
 ((bcase (n3 == 0)
 Qb
 Qft) ∧
 ((Qv (vI n3)) ∧
 True))))))) ∧
 ((∃ n13 : Int,
 ((Says C 20 [(D.agg [D.nil, (dI x1), (dI x2), (dI x3)]), (D.agg [D.nil, (dI x5)]), (D.agg [(dI x6), (dI x7)])] [(D.agg [D.nil, (dI n13)])]) ∧
 (((Qv (Value.agg [(Sl 1009 (n1) (n1)), (vI n2)].toArray)) ∧
 ((bcase (n3 == 0)
 Qb
 Qft) ∧
 ((Qv (vI n3)) ∧
 True))) ∧
 (bcase (dL n1 1 cs1)
 (((Says C 19 [(D.agg [(Dw n1 1 cs1), (dI n2)]), (D.agg [D.nil, (dI n13)])] kT) ∧
 ((Qb ∧
 ((bcase (n3 == 0)
 Qb
 Qft) ∧
 ((Qv (vI n3)) ∧
 True))) ∧
 (True ∧
 (k kT)))) ∨
 ((Says C 19 [(D.agg [(Dw n1 1 cs1), (dI n2)]), (D.agg [D.nil, (dI n13)])] kF) ∧
 ((Qf ∧
 ((bcase (n3 == 0)
 Qb
 Qft) ∧
 ((Qv (vI n3)) ∧
 True))) ∧
 (True ∧
 (k kF)))))
 False)))) ∨
 (∃ n13 : Nat,
 (∃ cs2 : List Go.Value,
 (∃ n14 : Int,
 ((Says C 20 [(D.agg [D.nil, (dI x1), (dI x2), (dI x3)]), (D.agg [D.nil, (dI x5)]), (D.agg [(dI x6), (dI x7)])] [(D.agg [(D.sl (n13) 1 (cs2)), (dI n14)])]) ∧
 (((Qv (Value.agg [(Sl 1009 (n1) (n1)), (vI n2)].toArray)) ∧
 ((bcase (n3 == 0)
 Qb
 Qft) ∧
 ((Qv (vI n3)) ∧
 True))) ∧
 (bcase (dL n1 1 cs1)
 (bcase (dL n13 1 cs2)
 (((Says C 19 [(D.agg [(Dw n1 1 cs1), (dI n2)]), (D.agg [(Dw n13 1 cs2), (dI n14)])] kT) ∧
 ((Qb ∧
 ((bcase (n3 == 0)
 Qb
 Qft) ∧
 ((Qv (vI n3)) ∧
 True))) ∧
 (True ∧
 (k kT)))) ∨
 ((Says C 19 [(D.agg [(Dw n1 1 cs1), (dI n2)]), (D.agg [(Dw n13 1 cs2), (dI n14)])] kF) ∧
 ((Qf ∧
 ((bcase (n3 == 0)
 Qb
 Qft) ∧
 ((Qv (vI n3)) ∧
 True))) ∧
 (True ∧
 (k kF)))))
 False)
 False))))))))
 ((Qu ∧
 (Qu ∧
 (Qu ∧
 (Qu ∧
 (Qf ∧
 ((bcase (n3 == 0)
 Qtf
 Qf) ∧
 ((Qv (vI n3)) ∧
 True))))))) ∧
 ((Qu ∧
 ((bcase (n3 == 0)
 Qtf
 Qf) ∧
 ((Qv (vI n3)) ∧
 True))) ∧
 ((Qf ∧
 ((bcase (n3 == 0)
 Qtf
 Qf) ∧
 ((Qv (vI n3)) ∧
 True))) ∧
 (True ∧
 (k kF))))))))))))))))
 (bcase (n11 == 0)
 (bcase (n6 != 0)
 ((Qu ∧
 (Qu ∧
 (Qb ∧
 ((bcase (n6 != 0)
 Qb
 Qft) ∧
 ((Qv (vI n6)) ∧
 (Qb ∧
 ((bcase (n11 == 0)
 Qb
 Qft) ∧
 ((Qv (vI n11)) ∧
 (Qf ∧
 (Qf ∧
 (Qu ∧
 (Qu ∧
 (Qu ∧
 (Qu ∧
 (Qu ∧
 (Qu ∧
 (Qu ∧
 (Qu ∧
 (Qf ∧
 ((bcase (n11 != 0)
 Qtf
 Qf) ∧
 ((Qv (vI n11)) ∧
 True))))))))))))))))))))) ∧
 ((Qb ∧
 (Qb ∧
 (Qb ∧
 (Qu ∧
 (Qu ∧
 ((bcase (n6 != 0)
 Qb
 Qft) ∧
 ((Qv (vI n6)) ∧
 (Qb ∧
 ((bcase (n11 == 0)
 Qb
 Qft) ∧
 ((Qv (vI n11)) ∧
 (Qf ∧
 (Qf ∧
 (Qu ∧
 (Qu ∧
 (Qu ∧
 (Qu ∧
 (Qu ∧
 (Qu ∧
 (Qu ∧
 (Qu ∧
 (Qf ∧
 ((bcase (n11 != 0)
 Qtf
 Qf) ∧
 ((Qv (vI n11)) ∧
 True))))))))))))))))))))))) ∧
 (k kF)))
 (((Qv (Value.agg [(Value.slice none 0 0), (vI x5)].toArray)) ∧
 ((Qv (Value.agg [(vI n4), (vI n5)].toArray)) ∧
 (Qf ∧
 ((bcase (n6 != 0)
 Qtf
 Qf) ∧
 ((Qv (vI n6)) ∧
 (Qb ∧
 ((bcase (n11 == 0)
 Qb
 Qft) ∧
 ((Qv (vI n11)) ∧
 (Qf ∧
 (Qf ∧
 (Qu ∧
 (Qu ∧
 (Qu ∧
 (Qu ∧
 (Qu ∧
 (Qu ∧
 (Qu ∧
 (Qu ∧
 (Qf ∧
 ((bcase (n11 != 0)
 Qtf
 Qf) ∧
 ((Qv (vI n11)) ∧
 True))))))))))))))))))))) ∧
 (∃ n12 : Int,
 (∃ n13 : Int,
 ((Says C 15 [(D.agg [D.nil, (dI x5)])] [(D.agg [(dI n12), (dI n13)])]) ∧
 (bcase (if Bool.true = Bool.true then !(n4 == n12 && (n5 == n13 && Bool.true)) else n4 == n12 && (n5 == n13 && Bool.true))
 ((Qb ∧
 (Qb ∧
 (Qb ∧
 ((bcase (if Bool.true = Bool.true then !(n4 == n12 && (n5 == n13 && Bool.true)) else n4 == n12 && (n5 == n13 && Bool.true))
 Qb
 Qft) ∧
 ((Qv (Value.agg [(vI n4), (vI n5)].toArray)) ∧
 ((bcase (n6 != 0)
 Qtf
 Qf) ∧
 ((Qv (vI n6)) ∧
 (Qb ∧
 ((bcase (n11 == 0)
 Qb
 Qft) ∧
 ((Qv (vI n11)) ∧
 (Qf ∧
 (Qf ∧
 (Qu ∧
 (Qu ∧
 (Qu ∧
 (Qu ∧
 (Qu ∧
 (Qu ∧
 (Qu ∧
 (Qu ∧
 (Qf ∧
 ((bcase (n11 != 0)
 Qtf
 Qf) ∧
 ((Qv (vI n11)) ∧
 True))))))))))))))))))))))) ∧
 (k kF))
 ((Qf ∧
 (Qf ∧
 (Qf ∧
 ((bcase (if Bool.true = Bool.true then !(n4 == n12 && (n5 == n13 && Bool.true)) else n4 == n12 && (n5 == n13 && Bool.true))
 Qtf
 Qf) ∧
 ((Qv (Value.agg [(vI n4), (vI n5)].toArray)) ∧
 ((bcase (n6 != 0)
 Qtf
 Qf) ∧
 ((Qv (vI n6)) ∧
 (Qb ∧
 ((bcase (n11 == 0)
 Qb
 Qft) ∧
 ((Qv (vI n11)) ∧
 (Qf ∧
 (Qf ∧
 (Qu ∧
 (Qu ∧
 (Qu ∧
 (Qu ∧
 (Qu ∧
 (Qu ∧
 (Qu ∧
 (Qu ∧
 (Qf ∧
 ((bcase (n11 != 0)
 Qtf
 Qf) ∧
 ((Qv (vI n11)) ∧
 True))))))))))))))))))))))) ∧
 (∃ n14 : Int,
 ((Says C 16 [(D.agg [D.nil, (dI x1), (dI x2), (dI x3)]), (D.agg [D.nil, (dI x5)])] [(dI n14)]) ∧
 (bcase (n14 == 0)
 (∃ n15 : Int,
 ((Says C 17 [(dI x6)] [(dI n15)]) ∧
 (bcase (n15 == 0)
 (∃ n16 : Int,
 ((Says C 18 [(dI x7)] [(dI n16)]) ∧
 (bcase (n16 != 0)
 (bcase (n3 == n16)
 (bcase (dL n1 1 cs1)
 (((Says C 19 [(D.agg [(Dw n1 1 cs1), (dI n2)]), (D.agg [D.nil, (dI 0)])] kT) ∧
 (k kT)) ∨
 ((Says C 19 [(D.agg [(Dw n1 1 cs1), (dI n2)]), (D.agg [D.nil, (dI 0)])] kF) ∧
 (k kF)))
 False)
 (k kF))
 (bcase (n3 == 0)
 (((Qv (Value.agg [(vI x6), (vI x7)].toArray)) ∧
 ((Qv (Value.agg [(Value.slice none 0 0), (vI x5)].toArray)) ∧
 ((Qv (Value.agg [(Value.slice none 0 0), (vI x1), (vI x2), (vI x3)].toArray)) ∧
 ((Qv (Value.agg [(Sl 1009 (n1) (n1)), (vI n2)].toArray)) ∧
 (Qb ∧
 ((bcase (n3 == 0)
 Qb
 Qft) ∧
 ((Qv (vI n3)) ∧
 True))))))) ∧
 ((∃ n17 : Int,
 ((Says C 20 [(D.agg [D.nil, (dI x1), (dI x2), (dI x3)]), (D.agg [D.nil, (dI x5)]), (D.agg [(dI x6), (dI x7)])] [(D.agg [D.nil, (dI n17)])]) ∧
 (((Qv (Value.agg [(Sl 1009 (n1) (n1)), (vI n2)].toArray)) ∧
 ((bcase (n3 == 0)
 Qb
 Qft) ∧
 ((Qv (vI n3)) ∧
 True))) ∧
 (bcase (dL n1 1 cs1)
 (((Says C 19 [(D.agg [(Dw n1 1 cs1), (dI n2)]), (D.agg [D.nil, (dI n17)])] kT) ∧
 ((Qb ∧
 ((bcase (n3 == 0)
 Qb
 Qft) ∧
 ((Qv (vI n3)) ∧
 True))) ∧
 (True ∧
 (k kT)))) ∨
 ((Says C 19 [(D.agg [(Dw n1 1 cs1), (dI n2)]), (D.agg [D.nil, (dI n17)])] kF) ∧
 ((Qf ∧
 ((bcase (n3 == 0)
 Qb
 Qft) ∧
 ((Qv (vI n3)) ∧
 True))) ∧
 (True ∧
 (k kF)))))
 False)))) ∨
 (∃ n17 : Nat,
 (∃ cs2 : List Go.Value,
 (∃ n18 : Int,
 ((Says C 20 [(D.agg [D.nil, (dI x1), (dI x2), (dI x3)]), (D.agg [D.nil, (dI x5)]), (D.agg [(dI x6), (dI x7)])] [(D.agg [(D.sl (n17) 1 (cs2)), (dI n18)])]) ∧
 (((Qv (Value.agg [(Sl 1009 (n1) (n1)), (vI n2)].toArray)) ∧
 ((bcase (n3 == 0)
 Qb
 Qft) ∧
 ((Qv (vI n3)) ∧
 True))) ∧
 (bcase (dL n1 1 cs1)
 (bcase (dL n17 1 cs2)
 (((Says C 19 [(D.agg [(Dw n1 1 cs1), (dI n2)]), (D.agg [(Dw n17 1 cs2), (dI n18)])] kT) ∧
 ((Qb ∧
 ((bcase (n3 == 0)
 Qb
 Qft) ∧
 ((Qv (vI n3)) ∧
 True))) ∧
 (True ∧
 (k kT)))) ∨
 ((Says C 19 [(D.agg [(Dw n1 1 cs1), (dI n2)]), (D.agg [(Dw n17 1 cs2), (dI n18)])] kF) ∧
 ((Qf ∧
 ((bcase (n3 == 0)
 Qb
 Qft) ∧
 ((Qv (vI n3)) ∧
 True))) ∧
 (True ∧
 (k kF)))))
 False)
 False))))))))
 ((Qu ∧
 (Qu ∧
 (Qu ∧
 (Qu ∧
 (Qf ∧
 ((bcase (n3 == 0)
 Qtf
 Qf) ∧
 ((Qv (vI n3)) ∧
 True))))))) ∧
 ((Qu ∧
 ((bcase (n3 == 0)
 Qtf
 Qf) ∧
 ((Qv (vI n3)) ∧
 True))) ∧
 ((Qf ∧
 ((bcase (n3 == 0)
 Qtf
 Qf) ∧
 ((Qv (vI n3)) ∧
 True))) ∧
 (True ∧
 (k kF)))))))))
 (bcase (n15 != 0)
 (bcase (n3 == n15)
 (bcase (dL n1 1 cs1)
 (((Says C 19 [(D.agg [(Dw n1 1 cs1), (dI n2)]), (D.agg [D.nil, (dI 0)])] kT) ∧
 (k kT)) ∨
 ((Says C 19 [(D.agg [(Dw n1 1 cs1), (dI n2)]), (D.agg [D.nil, (dI 0)])] kF) ∧
 (k kF)))
 False)
 (k kF))
 (bcase (n3 == 0)
 (((Qv (Value.agg [(vI x6), (vI x7)].toArray)) ∧
 ((Qv (Value.agg [(Value.slice none 0 0), (vI x5)].toArray)) ∧
 ((Qv (Value.agg [(Value.slice none 0 0), (vI x1), (vI x2), (vI x3)].toArray)) ∧
 ((Qv (Value.agg [(Sl 1009 (n1) (n1)), (vI n2)].toArray)) ∧
 (Qb ∧
 ((bcase (n3 == 0)
 Qb
 Qft) ∧
 ((Qv (vI n3)) ∧
 True))))))) ∧
 ((∃ n16 : Int,
 ((Says C 20 [(D.agg [D.nil, (dI x1), (dI x2), (dI x3)]), (D.agg [D.nil, (dI x5)]), (D.agg [(dI x6), (dI x7)])] [(D.agg [D.nil, (dI n16)])]) ∧
 (((Qv (Value.agg [(Sl 1009 (n1) (n1)), (vI n2)].toArray)) ∧
 ((bcase (n3 == 0)
 Qb
 Qft) ∧
 ((Qv (vI n3)) ∧
 True))) ∧
 (bcase (dL n1 1 cs1)
 (((Says C 19 [(D.agg [(Dw n1 1 cs1), (dI n2)]), (D.agg [D.nil, (dI n16)])] kT) ∧
 ((Qb ∧
 ((bcase (n3 == 0)
 Qb
 Qft) ∧
 ((Qv (vI n3)) ∧
 True))) ∧
 (True ∧
 (k kT)))) ∨
 ((Says C 19 [(D.agg [(Dw n1 1 cs1), (dI n2)]), (D.agg [D.nil, (dI n16)])] kF) ∧
 ((Qf ∧
 ((bcase (n3 == 0)
 Qb
 Qft) ∧
 ((Qv (vI n3)) ∧
 True))) ∧
 (True ∧
 (k kF)))))
 False)))) ∨
 (∃ n16 : Nat,
 (∃ cs2 : List Go.Value,
 (∃ n17 : Int,
 ((Says C 20 [(D.agg [D.nil, (dI x1), (dI x2), (dI x3)]), (D.agg [D.nil, (dI x5)]), (D.agg [(dI x6), (dI x7)])] [(D.agg [(D.sl (n16) 1 (cs2)), (dI n17)])]) ∧
 (((Qv (Value.agg [(Sl 1009 (n1) (n1)), (vI n2)].toArray)) ∧
 ((bcase (n3 == 0)
 Qb
 Qft) ∧
 ((Qv (vI n3)) ∧
 True))) ∧
 (bcase (dL n1 1 cs1)
 (bcase (dL n16 1 cs2)
 (((Says C 19 [(D.agg [(Dw n1 1 cs1), (dI n2)]), (D.agg [(Dw n16 1 cs2), (dI n17)])] kT) ∧
 ((Qb ∧
 ((bcase (n3 == 0)
 Qb
 Qft) ∧
 ((Qv (vI n3)) ∧
 True))) ∧
 (True ∧
 (k kT)))) ∨
 ((Says C 19 [(D.agg [(Dw n1 1 cs1), (dI n2)]), (D.agg [(Dw n16 1 cs2), (dI n17)])] kF) ∧
 ((Qf ∧
 ((bcase (n3 == 0)
 Qb
 Qft) ∧
 ((Qv (vI n3)) ∧
 True))) ∧
 (True ∧
 (k kF)))))
 False)
 False))))))))
 ((Qu ∧
 (Qu ∧
 (Qu ∧
 (Qu ∧
 (Qf ∧
 ((bcase (n3 == 0)
 Qtf
 Qf) ∧
 ((Qv (vI n3)) ∧
 True))))))) ∧
 ((Qu ∧
 ((bcase (n3 == 0)
 Qtf
 Qf) ∧
 ((Qv (vI n3)) ∧
 True))) ∧
 ((Qf ∧
 ((bcase (n3 == 0)
 Qtf
 Qf) ∧
 ((Qv (vI n3)) ∧
 True))) ∧
 (True ∧
 (k kF))))))))))
 (bcase (n14 == 0)
 (∃ n15 : Int,
 ((Says C 18 [(dI x7)] [(dI n15)]) ∧
 (bcase (n15 != 0)
 (bcase (n3 == n15)
 (bcase (dL n1 1 cs1)
 (((Says C 19 [(D.agg [(Dw n1 1 cs1), (dI n2)]), (D.agg [D.nil, (dI 0)])] kT) ∧
 (k kT)) ∨
 ((Says C 19 [(D.agg [(Dw n1 1 cs1), (dI n2)]), (D.agg [D.nil, (dI 0)])] kF) ∧
 (k kF)))
 False)
 (k kF))
 (bcase (n3 == 0)
 (((Qv (Value.agg [(vI x6), (vI x7)].toArray)) ∧
 ((Qv (Value.agg [(Value.slice none 0 0), (vI x5)].toArray)) ∧
 ((Qv (Value.agg [(Value.slice none 0 0), (vI x1), (vI x2), (vI x3)].toArray)) ∧
 ((Qv (Value.agg [(Sl 1009 (n1) (n1)), (vI n2)].toArray)) ∧
 (Qb ∧
 ((bcase (n3 == 0)
 Qb
 Qft) ∧
 ((Qv (vI n3)) ∧
 True))))))) ∧
 ((∃ n16 : Int,
 ((Says C 20 [(D.agg [D.nil, (dI x1), (dI x2), (dI x3)]), (D.agg [D.nil, (dI x5)]), (D.agg [(dI x6), (dI x7)])] [(D.agg [D.nil, (dI n16)])]) ∧
 (((Qv (Value.agg [(Sl 1009 (n1) (n1)), (vI n2)].toArray)) ∧
 ((bcase (n3 == 0)
 Qb
 Qft) ∧
 ((Qv (vI n3)) ∧
 True))) ∧
 (bcase (dL n1 1 cs1)
 (((Says C 19 [(D.agg [(Dw n1 1 cs1), (dI n2)]), (D.agg [D.nil, (dI n16)])] kT) ∧
 ((Qb ∧
 ((bcase (n3 == 0)
 Qb
 Qft) ∧
 ((Qv (vI n3)) ∧
 True))) ∧
 (True ∧
 (k kT)))) ∨
 ((Says C 19 [(D.agg [(Dw n1 1 cs1), (dI n2)]), (D.agg [D.nil, (dI n16)])] kF) ∧
 ((Qf ∧
 ((bcase (n3 == 0)
 Qb
 Qft) ∧
 ((Qv (vI n3)) ∧
 True))) ∧
 (True ∧
 (k kF)))))
 False)))) ∨
 (∃ n16 : Nat,
 (∃ cs2 : List Go.Value,
 (∃ n17 : Int,
 ((Says C 20 [(D.agg [D.nil, (dI x1), (dI x2), (dI x3)]), (D.agg [D.nil, (dI x5)]), (D.agg [(dI x6), (dI x7)])] [(D.agg [(D.sl (n16) 1 (cs2)), (dI n17)])]) ∧
 (((Qv (Value.agg [(Sl 1009 (n1) (n1)), (vI n2)].toArray)) ∧
 ((bcase (n3 == 0)
 Qb
 Qft) ∧
 ((Qv (vI n3)) ∧
 True))) ∧
 (bcase (dL n1 1 cs1)
 (bcase (dL n16 1 cs2)
 (((Says C 19 [(D.agg [(Dw n1 1 cs1), (dI n2)]), (D.agg [(Dw n16 1 cs2), (dI n17)])] kT) ∧
 ((Qb ∧
 ((bcase (n3 == 0)
 Qb
 Qft) ∧
 ((Qv (vI n3)) ∧
 True))) ∧
 (True ∧
 (k kT)))) ∨
 ((Says C 19 [(D.agg [(Dw n1 1 cs1), (dI n2)]), (D.agg [(Dw n16 1 cs2), (dI n17)])] kF) ∧
 ((Qf ∧
 ((bcase (n3 == 0)
 Qb
 Qft) ∧
 ((Qv (vI n3)) ∧
 True))) ∧
 (True ∧
 (k kF)))))
 False)
 False))))))))
 ((Qu ∧
 (Qu ∧
 (Qu ∧
 (Qu ∧
 (Qf ∧
 ((bcase (n3 == 0)
 Qtf
 Qf) ∧
 ((Qv (vI n3)) ∧
 True))))))) ∧
 ((Qu ∧
 ((bcase (n3 == 0)
 Qtf
 Qf) ∧
 ((Qv (vI n3)) ∧
 True))) ∧
 ((Qf ∧
 ((bcase (n3 == 0)
 Qtf
 Qf) ∧
 ((Qv (vI n3)) ∧
 True))) ∧
 (True ∧
 (k kF)))))))))
 (bcase (n14 != 0)
 (bcase (n3 == n14)
 (bcase (dL n1 1 cs1)
 (((Says C 19 [(D.agg [(Dw n1 1 cs1), (dI n2)]), (D.agg [D.nil, (dI 0)])] kT) ∧
 (k kT)) ∨
 ((Says C 19 [(D.agg [(Dw n1 1 cs1), (dI n2)]), (D.agg [D.nil, (dI 0)])] kF) ∧
 (k kF)))
 False)
 (k kF))
 (bcase (n3 == 0)
 (((Qv (Value.agg [(vI x6), (vI x7)].toArray)) ∧
 ((Qv (Value.agg [(Value.slice none 0 0), (vI x5)].toArray)) ∧
 ((Qv (Value.agg [(Value.slice none 0 0), (vI x1), (vI x2), (vI x3)].toArray)) ∧
 ((Qv (Value.agg [(Sl 1009 (n1) (n1)), (vI n2)].toArray)) ∧
 (Qb ∧
 ((bcase (n3 == 0)
 Qb
 Qft) ∧
 ((Qv (vI n3)) ∧
 True))))))) ∧
 ((∃ n15 : Int,
 ((Says C 20 [(D.agg [D.nil, (dI x1), (dI x2), (dI x3)]), (D.agg [D.nil, (dI x5)]), (D.agg [(dI x6), (dI x7)])] [(D.agg [D.nil, (dI n15)])]) ∧
 (((Qv (Value.agg [(Sl 1009 (n1) (n1)), (vI n2)].toArray)) ∧
 ((bcase (n3 == 0)
 Qb
 Qft) ∧
 ((Qv (vI n3)) ∧
 True))) ∧
 (bcase (dL n1 1 cs1)
 (((Says C 19 [(D.agg [(Dw n1 1 cs1), (dI n2)]), (D.agg [D.nil, (dI n15)])] kT) ∧
 ((Qb ∧
 ((bcase (n3 == 0)
 Qb
 Qft) ∧
 ((Qv (vI n3)) ∧
 True))) ∧
 (True ∧
 (k kT)))) ∨
 ((Says C 19 [(D.agg [(Dw n1 1 cs1), (dI n2)]), (D.agg [D.nil, (dI n15)])] kF) ∧
 ((Qf ∧
 ((bcase (n3 == 0)
 Qb
 Qft) ∧
 ((Qv (vI n3)) ∧
 True))) ∧
 (True ∧
 (k kF)))))
 False)))) ∨
 (∃ n15 : Nat,
 (∃ cs2 : List Go.Value,
 (∃ n16 : Int,
 ((Says C 20 [(D.agg [D.nil, (dI x1), (dI x2), (dI x3)]), (D.agg [D.nil, (dI x5)]), (D.agg [(dI x6), (dI x7)])] [(D.agg [(D.sl (n15) 1 (cs2)), (dI n16)])]) ∧
 (((Qv (Value.agg [(Sl 1009 (n1) (n1)), (vI n2)].toArray)) ∧
 ((bcase (n3 == 0)
 Qb
 Qft) ∧
 ((Qv (vI n3)) ∧
 True))) ∧
 (bcase (dL n1 1 cs1)
 (bcase (dL n15 1 cs2)
 (((Says C 19 [(D.agg [(Dw n1 1 cs1), (dI n2)]), (D.agg [(Dw n15 1 cs2), (dI n16)])] kT) ∧
 ((Qb ∧
 ((bcase (n3 == 0)
 Qb
 Qft) ∧
 ((Qv (vI n3)) ∧
 True))) ∧
 (True ∧
 (k kT)))) ∨
 ((Says C 19 [(D.agg [(Dw n1 1 cs1), (dI n2)]), (D.agg [(Dw n15 1 cs2), (dI n16)])] kF) ∧
 ((Qf ∧
 ((bcase (n3 == 0)
 Qb
 Qft) ∧
 ((Qv (vI n3)) ∧
 True))) ∧
 (True ∧
 (k kF)))))
 False)
 False))))))))
 ((Qu ∧
 (Qu ∧
 (Qu ∧
 (Qu ∧
 (Qf ∧
 ((bcase (n3 == 0)
 Qtf
 Qf) ∧
 ((Qv (vI n3)) ∧
 True))))))) ∧
 ((Qu ∧
 ((bcase (n3 == 0)
 Qtf
 Qf) ∧
 ((Qv (vI n3)) ∧
 True))) ∧
 ((Qf ∧
 ((bcase (n3 == 0)
 Qtf
 Qf) ∧
 ((Qv (vI n3)) ∧
 True))) ∧
 (True ∧
 (k kF))))))))))))))))))
 ((Qu ∧
 (Qu ∧
 (Qu ∧
 (Qu ∧
 (Qu ∧
 (Qf ∧
 ((bcase (n11 == 0)
 Qtf
 Qf) ∧
 ((Qv (vI n11)) ∧
 (Qf ∧
 (Qf ∧
 (Qu ∧
 (Qu ∧
 (Qu ∧
 (Qu ∧
 (Qu ∧
 (Qu ∧
 (Qu ∧
 (Qu ∧
 (Qf ∧
 ((bcase (n11 != 0)
 Qtf
 Qf) ∧
 ((Qv (vI n11)) ∧
 True))))))))))))))))))))) ∧
 ((Qf ∧
 (Qf ∧
 (Qu ∧
 (Qu ∧
 (Qu ∧
 (Qu ∧
 (Qu ∧
 (Qf ∧
 ((bcase (n11 == 0)
 Qtf
 Qf) ∧
 ((Qv (vI n11)) ∧
 (Qf ∧
 (Qf ∧
 (Qu ∧
 (Qu ∧
 (Qu ∧
 (Qu ∧
 (Qu ∧
 (Qu ∧
 (Qu ∧
 (Qu ∧
 (Qf ∧
 ((bcase (n11 != 0)
 Qtf
 Qf) ∧
 ((Qv (vI n11)) ∧
 True))))))))))))))))))))))) ∧
 (∃ n12 : Int,
 ((Says C 16 [(D.agg [D.nil, (dI x1), (dI x2), (dI x3)]), (D.agg [D.nil, (dI x5)])] [(dI n12)]) ∧
 (bcase (n12 == 0)
 (∃ n13 : Int,
 ((Says C 17 [(dI x6)] [(dI n13)]) ∧
 (bcase (n13 == 0)
 (∃ n14 : Int,
 ((Says C 18 [(dI x7)] [(dI n14)]) ∧
 (bcase (n14 != 0)
 (bcase (n3 == n14)
 (bcase (dL n1 1 cs1)
 (((Says C 19 [(D.agg [(Dw n1 1 cs1), (dI n2)]), (D.agg [D.nil, (dI 0)])] kT) ∧
 (k kT)) ∨
 ((Says C 19 [(D.agg [(Dw n1 1 cs1), (dI n2)]), (D.agg [D.nil, (dI 0)])] kF) ∧
 (k kF)))
 False)
 (k kF))
 (bcase (n3 == 0)
 (((Qv (Value.agg [(vI x6), (vI x7)].toArray)) ∧
 ((Qv (Value.agg [(Value.slice none 0 0), (vI x5)].toArray)) ∧
 ((Qv (Value.agg [(Value.slice none 0 0), (vI x1), (vI x2), (vI x3)].toArray)) ∧
 ((Qv (Value.agg [(Sl 1009 (n1) (n1)), (vI n2)].toArray)) ∧
 (Qb ∧
 ((bcase (n3 == 0)
 Qb
 Qft) ∧
 ((Qv (vI n3)) ∧
 True))))))) ∧
 ((∃ n15 : Int,
 ((Says C 20 [(D.agg [D.nil, (dI x1), (dI x2), (dI x3)]), (D.agg [D.nil, (dI x5)]), (D.agg [(dI x6), (dI x7)])] [(D.agg [D.nil, (dI n15)])]) ∧
 (((Qv (Value.agg [(Sl 1009 (n1) (n1)), (vI n2)].toArray)) ∧
 ((bcase (n3 == 0)
 Qb
 Qft) ∧
 ((Qv (vI n3)) ∧
 True))) ∧
 (bcase (dL n1 1 cs1)
 (((Says C 19 [(D.agg [(Dw n1 1 cs1), (dI n2)]), (D.agg [D.nil, (dI n15)])] kT) ∧
 ((Qb ∧
 ((bcase (n3 == 0)
 Qb
 Qft) ∧
 ((Qv (vI n3)) ∧
 True))) ∧
 (True ∧
 (k kT)))) ∨
 ((Says C 19 [(D.agg [(Dw n1 1 cs1), (dI n2)]), (D.agg [D.nil, (dI n15)])] kF) ∧
 ((Qf ∧
 ((bcase (n3 == 0)
 Qb
 Qft) ∧
 ((Qv (vI n3)) ∧
 True))) ∧
 (True ∧
 (k kF)))))
 False)))) ∨
 (∃ n15 : Nat,
 (∃ cs2 : List Go.Value,
 (∃ n16 : Int,
 ((Says C 20 [(D.agg [D.nil, (dI x1), (dI x2), (dI x3)]), (D.agg [D.nil, (dI x5)]), (D.agg [(dI x6), (dI x7)])] [(D.agg [(D.sl (n15) 1 (cs2)), (dI n16)])]) ∧
 (((Qv (Value.agg [(Sl 1009 (n1) (n1)), (vI n2)].toArray)) ∧
 ((bcase (n3 == 0)
 Qb
 Qft) ∧
 ((Qv (vI n3)) ∧
 True))) ∧
 (bcase (dL n1 1 cs1)
 (bcase (dL n15 1 cs2)
 (((Says C 19 [(D.agg [(Dw n1 1 cs1), (dI n2)]), (D.agg [(Dw n15 1 cs2), (dI n16)])] kT) ∧
 ((Qb ∧
 ((bcase (n3 == 0)
 Qb
 Qft) ∧
 ((Qv (vI n3)) ∧
 True))) ∧
 (True ∧
 (k kT)))) ∨
 ((Says C 19 [(D.agg [(Dw n1 1 cs1), (dI n2)]), (D.agg [(Dw n15 1 cs2), (dI n16)])] kF) ∧
 ((Qf ∧
 ((bcase (n3 == 0)
 Qb
 Qft) ∧
 ((Qv (vI n3)) ∧
 True))) ∧
 (True ∧
 (k kF)))))
 False)
 False))))))))
 ((Qu ∧
 (Qu ∧
 (Qu ∧
 (Qu ∧
 (Qf ∧
 ((bcase (n3 == 0)
 Qtf
 Qf) ∧
 ((Qv (vI n3)) ∧
 True))))))) ∧
 ((Qu ∧
 ((bcase (n3 == 0)
 Qtf
 Qf) ∧
 ((Qv (vI n3)) ∧
 True))) ∧
 ((Qf ∧
 ((bcase (n3 == 0)
 Qtf
 Qf) ∧
 ((Qv (vI n3)) ∧
 True))) ∧
 (True ∧
 (k kF)))))))))
 (bcase (n13 != 0)
 (bcase (n3 == n13)
 (bcase (dL n1 1 cs1)
 (((Says C 19 [(D.agg [(Dw n1 1 cs1), (dI n2)]), (D.agg [D.nil, (dI 0)])] kT) ∧
 (k kT)) ∨
 ((Says C 19 [(D.agg [(Dw n1 1 cs1), (dI n2)]), (D.agg [D.nil, (dI 0)])] kF) ∧
 (k kF)))
 False)
 (k kF))
 (bcase (n3 == 0)
 (((Qv (Value.agg [(vI x6), (vI x7)].toArray)) ∧
 ((Qv (Value.agg [(Value.slice none 0 0), (vI x5)].toArray)) ∧
 ((Qv (Value.agg [(Value.slice none 0 0), (vI x1), (vI x2), (vI x3)].toArray)) ∧
 ((Qv (Value.agg [(Sl 1009 (n1) (n1)), (vI n2)].toArray)) ∧
 (Qb ∧
 ((bcase (n3 == 0)
 Qb
 Qft) ∧
 ((Qv (vI n3)) ∧
 True))))))) ∧
 ((∃ n14 : Int,
 ((Says C 20 [(D.agg [D.nil, (dI x1), (dI x2), (dI x3)]), (D.agg [D.nil, (dI x5)]), (D.agg [(dI x6), (dI x7)])] [(D.agg [D.nil, (dI n14)])]) ∧
 (((Qv (Value.agg [(Sl 1009 (n1) (n1)), (vI n2)].toArray)) ∧
 ((bcase (n3 == 0)
 Qb
 Qft) ∧
 ((Qv (vI n3)) ∧
 True))) ∧
 (bcase (dL n1 1 cs1)
 (((Says C 19 [(D.agg [(Dw n1 1 cs1), (dI n2)]), (D.agg [D.nil, (dI n14)])] kT) ∧
 ((Qb ∧
 ((bcase (n3 == 0)
 Qb
 Qft) ∧
 ((Qv (vI n3)) ∧
 True))) ∧
 (True ∧
 (k kT)))) ∨
 ((Says C 19 [(D.agg [(Dw n1 1 cs1), (dI n2)]), (D.agg [D.nil, (dI n14)])] kF) ∧
 ((Qf ∧
 ((bcase (n3 == 0)
 Qb
 Qft) ∧
 ((Qv (vI n3)) ∧
 True))) ∧
 (True ∧
 (k kF)))))
 False)))) ∨
 (∃ n14 : Nat,
 (∃ cs2 : List Go.Value,
 (∃ n15 : Int,
 ((Says C 20 [(D.agg [D.nil, (dI x1), (dI x2), (dI x3)]), (D.agg [D.nil, (dI x5)]), (D.agg [(dI x6), (dI x7)])] [(D.agg [(D.sl (n14) 1 (cs2)), (dI n15)])]) ∧
 (((Qv (Value.agg [(Sl 1009 (n1) (n1)), (vI n2)].toArray)) ∧
 ((bcase (n3 == 0)
 Qb
 Qft) ∧
 ((Qv (vI n3)) ∧
 True))) ∧
 (bcase (dL n1 1 cs1)
 (bcase (dL n14 1 cs2)
 (((Says C 19 [(D.agg [(Dw n1 1 cs1), (dI n2)]), (D.agg [(Dw n14 1 cs2), (dI n15)])] kT) ∧
 ((Qb ∧
 ((bcase (n3 == 0)
 Qb
 Qft) ∧
 ((Qv (vI n3)) ∧
 True))) ∧
 (True ∧
 (k kT)))) ∨
 ((Says C 19 [(D.agg [(Dw n1 1 cs1), (dI n2)]), (D.agg [(Dw n14 1 cs2), (dI n15)])] kF) ∧
 ((Qf ∧
 ((bcase (n3 == 0)
 Qb
 Qft) ∧
 ((Qv (vI n3)) ∧
 True))) ∧
 (True ∧
 (k kF)))))
 False)
 False))))))))
 ((Qu ∧
 (Qu ∧
 (Qu ∧
 (Qu ∧
 (Qf ∧
 ((bcase (n3 == 0)
 Qtf
 Qf) ∧
 ((Qv (vI n3)) ∧
 True))))))) ∧
 ((Qu ∧
 ((bcase (n3 == 0)
 Qtf
 Qf) ∧
 ((Qv (vI n3)) ∧
 True))) ∧
 ((Qf ∧
 ((bcase (n3 == 0)
 Qtf
 Qf) ∧
 ((Qv (vI n3)) ∧
 True))) ∧
 (True ∧
 (k kF))))))))))
 (bcase (n12 == 0)
 (∃ n13 : Int,
 ((Says C 18 [(dI x7)] [(dI n13)]) ∧
 (bcase (n13 != 0)
 (bcase (n3 == n13)
 (bcase (dL n1 1 cs1)
 (((Says C 19 [(D.agg [(Dw n1 1 cs1), (dI n2)]), (D.agg [D.nil, (dI 0)])] kT) ∧
 (k kT)) ∨
 ((Says C 19 [(D.agg [(Dw n1 1 cs1), (dI n2)]), (D.agg [D.nil, (dI 0)])] kF) ∧
 (k kF)))
 False)
 (k kF))
 (bcase (n3 == 0)
 (((Qv (Value.agg [(vI x6), (vI x7)].toArray)) ∧
 ((Qv (Value.agg [(Value.slice none 0 0), (vI x5)].toArray)) ∧
 ((Qv (Value.agg [(Value.slice none 0 0), (vI x1), (vI x2), (vI x3)].toArray)) ∧
 ((Qv (Value.agg [(Sl 1009 (n1) (n1)), (vI n2)].toArray)) ∧
 (Qb ∧
 ((bcase (n3 == 0)
 Qb
 Qft) ∧
 ((Qv (vI n3)) ∧
 True))))))) ∧
 ((∃ n14 : Int,
 ((Says C 20 [(D.agg [D.nil, (dI x1), (dI x2), (dI x3)]), (D.agg [D.nil, (dI x5)]), (D.agg [(dI x6), (dI x7)])] [(D.agg [D.nil, (dI n14)])]) ∧
 (((Qv (Value.agg [(Sl 1009 (n1) (n1)), (vI n2)].toArray)) ∧
 ((bcase (n3 == 0)
 Qb
 Qft) ∧
 ((Qv (vI n3)) ∧
 True))) ∧
 (bcase (dL n1 1 cs1)
 (((Says C 19 [(D.agg [(Dw n1 1 cs1), (dI n2)]), (D.agg [D.nil, (dI n14)])] kT) ∧
 ((Qb ∧
 ((bcase (n3 == 0)
 Qb
 Qft) ∧
 ((Qv (vI n3)) ∧
 True))) ∧
 (True ∧
 (k kT)))) ∨
 ((Says C 19 [(D.agg [(Dw n1 1 cs1), (dI n2)]), (D.agg [D.nil, (dI n14)])] kF) ∧
 ((Qf ∧
 ((bcase (n3 == 0)
 Qb
 Qft) ∧
 ((Qv (vI n3)) ∧
 True))) ∧
 (True ∧
 (k kF)))))
 False)))) ∨
 (∃ n14 : Nat,
 (∃ cs2 : List Go.Value,
 (∃ n15 : Int,
 ((Says C 20 [(D.agg [D.nil, (dI x1), (dI x2), (dI x3)]), (D.agg [D.nil, (dI x5)]), (D.agg [(dI x6), (dI x7)])] [(D.agg [(D.sl (n14) 1 (cs2)), (dI n15)])]) ∧
 (((Qv (Value.agg [(Sl 1009 (n1) (n1)), (vI n2)].toArray)) ∧
 ((bcase (n3 == 0)
 Qb
 Qft) ∧
 ((Qv (vI n3)) ∧
 True))) ∧
 (bcase (dL n1 1 cs1)
 (bcase (dL n14 1 cs2)
 (((Says C 19 [(D.agg [(Dw n1 1 cs1), (dI n2)]), (D.agg [(Dw n14 1 cs2), (dI n15)])] kT) ∧
 ((Qb ∧
 ((bcase (n3 == 0)
 Qb
 Qft) ∧
 ((Qv (vI n3)) ∧
 True))) ∧
 (True ∧
 (k kT)))) ∨
 ((Says C 19 [(D.agg [(Dw n1 1 cs1), (dI n2)]), (D.agg [(Dw n14 1 cs2), (dI n15)])] kF) ∧
 ((Qf ∧
 ((bcase (n3 == 0)
 Qb
 Qft) ∧
 ((Qv (vI n3)) ∧
 True))) ∧
 (True ∧
 (k kF)))))
 False)
 False))))))))
 ((Qu ∧
 (Qu ∧
 (Qu ∧
 (Qu ∧
 (Qf ∧
 ((bcase (n3 == 0)
 Qtf
 Qf) ∧
 ((Qv (vI n3)) ∧
 True))))))) ∧
 ((Qu ∧
 ((bcase (n3 == 0)
 Qtf
 Qf) ∧
 ((Qv (vI n3)) ∧
 True))) ∧
 ((Qf ∧
 ((bcase (n3 == 0)
 Qtf
 Qf) ∧
 ((Qv (vI n3)) ∧
 True))) ∧
 (True ∧
 (k kF)))))))))
 (bcase (n12 != 0)
 (bcase (n3 == n12)
 (bcase (dL n1 1 cs1)
 (((Says C 19 [(D.agg [(Dw n1 1 cs1), (dI n2)]), (D.agg [D.nil, (dI 0)])] kT) ∧
 (k kT)) ∨
 ((Says C 19 [(D.agg [(Dw n1 1 cs1), (dI n2)]), (D.agg [D.nil, (dI 0)])] kF) ∧
 (k kF)))
 False)
 (k kF))
 (bcase (n3 == 0)
 (((Qv (Value.agg [(vI x6), (vI x7)].toArray)) ∧
 ((Qv (Value.agg [(Value.slice none 0 0), (vI x5)].toArray)) ∧
 ((Qv (Value.agg [(Value.slice none 0 0), (vI x1), (vI x2), (vI x3)].toArray)) ∧
 ((Qv (Value.agg [(Sl 1009 (n1) (n1)), (vI n2)].toArray)) ∧
 (Qb ∧
 ((bcase (n3 == 0)
 Qb
 Qft) ∧
 ((Qv (vI n3)) ∧
 True))))))) ∧
 ((∃ n13 : Int,
 ((Says C 20 [(D.agg [D.nil, (dI x1), (dI x2), (dI x3)]), (D.agg [D.nil, (dI x5)]), (D.agg [(dI x6), (dI x7)])] [(D.agg [D.nil, (dI n13)])]) ∧
 (((Qv (Value.agg [(Sl 1009 (n1) (n1)), (vI n2)].toArray)) ∧
 ((bcase (n3 == 0)
 Qb
 Qft) ∧
 ((Qv (vI n3)) ∧
 True))) ∧
 (bcase (dL n1 1 cs1)
 (((Says C 19 [(D.agg [(Dw n1 1 cs1), (dI n2)]), (D.agg [D.nil, (dI n13)])] kT) ∧
 ((Qb ∧
 ((bcase (n3 == 0)
 Qb
 Qft) ∧
 ((Qv (vI n3)) ∧
 True))) ∧
 (True ∧
 (k kT)))) ∨
 ((Says C 19 [(D.agg [(Dw n1 1 cs1), (dI n2)]), (D.agg [D.nil, (dI n13)])] kF) ∧
 ((Qf ∧
 ((bcase (n3 == 0)
 Qb
 Qft) ∧
 ((Qv (vI n3)) ∧
 True))) ∧
 (True ∧
 (k kF)))))
 False)))) ∨
 (∃ n13 : Nat,
 (∃ cs2 : List Go.Value,
 (∃ n14 : Int,
 ((Says C 20 [(D.agg [D.nil, (dI x1), (dI x2), (dI x3)]), (D.agg [D.nil, (dI x5)]), (D.agg [(dI x6), (dI x7)])] [(D.agg [(D.sl (n13) 1 (cs2)), (dI n14)])]) ∧
 (((Qv (Value.agg [(Sl 1009 (n1) (n1)), (vI n2)].toArray)) ∧
 ((bcase (n3 == 0)
 Qb
 Qft) ∧
 ((Qv (vI n3)) ∧
 True))) ∧
 (bcase (dL n1 1 cs1)
 (bcase (dL n13 1 cs2)
 (((Says C 19 [(D.agg [(Dw n1 1 cs1), (dI n2)]), (D.agg [(Dw n13 1 cs2), (dI n14)])] kT) ∧
 ((Qb ∧
 ((bcase (n3 == 0)
 Qb
 Qft) ∧
 ((Qv (vI n3)) ∧
 True))) ∧
 (True ∧
 (k kT)))) ∨
 ((Says C 19 [(D.agg [(Dw n1 1 cs1), (dI n2)]), (D.agg [(Dw n13 1 cs2), (dI n14)])] kF) ∧
 ((Qf ∧
 ((bcase (n3 == 0)
 Qb
 Qft) ∧
 ((Qv (vI n3)) ∧
 True))) ∧
 (True ∧
 (k kF)))))
 False)
 False))))))))
 ((Qu ∧
 (Qu ∧
 (Qu ∧
 (Qu ∧
 (Qf ∧
 ((bcase (n3 == 0)
 Qtf
 Qf) ∧
 ((Qv (vI n3)) ∧
 True))))))) ∧
 ((Qu ∧
 ((bcase (n3 == 0)
 Qtf
 Qf) ∧
 ((Qv (vI n3)) ∧
 True))) ∧
 ((Qf ∧
 ((bcase (n3 == 0)
 Qtf
 Qf) ∧
 ((Qv (vI n3)) ∧
 True))) ∧
 (True ∧
 (k kF)))))))))))))))))))))))))))))))))))))))))))))))))))))))) ∨
 ((Says C 5 [] kF) ∧
 (k kF))) := by kernel_rfl
end Go.Proofs.G5h

/- FurnaceSteps in data: a slab without nodes, a table without points. -/
namespace Go.Proofs.G5h
open Go Go.Abs Go.Proofs Go.Proofs.G2
set_option maxRecDepth 100000
theorem slE_nil (bo : Int) : slE [] bo = 10 := rfl
theorem rulE_nil (m lo hi : Int) : rulE [] m lo hi = 10 := rfl
theorem both_ne {a b : Int} (h : b ≠ 0) : both a b ≠ 0 := by unfold both; split <;> assumption
theorem he_both {ps : List Pt} {m lo hi : Int} {l : List Int} {bo em set : Int} (hs : slE l bo ≠ 0) : heE ps m lo hi l bo em set = both (rulE ps m lo hi) (slE l bo) := by
  unfold heE both; rw [fst0_three, fst0_two]
  by_cases h1 : rulE ps m lo hi = 0
  · rw [if_pos h1, if_neg hs, if_neg (by omega)]
  · rw [if_neg h1, if_neg h1, if_pos h1]
theorem he_rul {ps : List Pt} {m lo hi : Int} {l : List Int} {bo em set : Int} (hr : rulE ps m lo hi ≠ 0) : heE ps m lo hi l bo em set = rulE ps m lo hi := by
  unfold heE; rw [fst0_three, fst0_two, if_neg hr, if_neg hr]
theorem lawSN (ps : List Pt) (m lo hi bo em set : Int) : C5 3 [dRu ps m lo hi, dSn bo, .agg [dI em, dI set]] [.val (.bool true)] := by
  refine con_flat hokH mixed Try.func3 rfl (by show 1 ≤ 400; omega) rfl (by kernel_rfl) (fun caps => ?_)
  show gLsa _ _ ps.length (caps 500) (vp ps) m lo hi bo em set _
  rw [gLsa_text]
  refine .inl ⟨⟨conA⟩, bc_dec (fun h12 => ?_) (fun _ => rfl)⟩
  have cYr := conYr ps (by omega) m lo hi
  have cYs := conYsn bo
  have cHe := conHe ps (by omega) m lo hi [] (by decide) bo em set
  have cMO := conMO [] (by decide) bo
  have cCR := conCR ps (by omega) m lo hi
  have cRE := conRE ps (by omega) m lo hi
  have cCS := conCS [] (by decide) bo
  have cSE := conSEn bo
  have cbE := conbE1 ps (by omega) m lo hi bo
  have hs : (10 : Int) ≠ 0 := by decide
  have hd : both (rulE ps m lo hi) 10 ≠ 0 := both_ne hs
  rw [he_both (by rw [slE_nil]; exact hs), slE_nil, if_neg hd] at cHe
  rw [slE_nil, if_neg hs] at cMO
  rw [slE_nil] at cCS
  simp only [Dw, Tk, vp_whole, bc_t (v2le ps), eq_self, true_and, and_true]
  refine ⟨⟨cYr⟩, ⟨cYs⟩, .inl ⟨_, _, ⟨cHe⟩, ⟨cYs⟩, _, _, _, ⟨cMO⟩, ⟨cYr⟩, _, ⟨cCR⟩, _, ⟨cRE⟩, ?_⟩⟩
  simp only [bc_nf, true_and]
  refine ⟨⟨cYs⟩, _, ⟨cCS⟩, _, ⟨cSE⟩, ?_⟩
  simp only [bc_nf, true_and]
  refine ⟨_, ⟨cSE⟩, ?_⟩
  simp only [bc_nf, bc_n hs, bc_q hs, beq_self_eq_true, Bool.and_self, Bool.not_true, if_true, bcF, true_and, and_true]
  refine ⟨_, ⟨cbE⟩, ?_⟩
  simp only [bc_n hd, bc_q hd, bc_qt, true_and]
  exact .inl ⟨conSSn⟩
theorem lawNS (m lo hi : Int) (l : List Int) (bo em set : Int) : C5 3 [dRn m lo hi, dSl l bo, .agg [dI em, dI set]] [.val (.bool true)] := by
  refine con_flat hokH mixed Try.func3 rfl (by show 1 ≤ 400; omega) rfl (by kernel_rfl) (fun caps => ?_)
  show gLsb _ _ m lo hi l.length (caps 500) (vi l) bo em set _
  rw [gLsb_text]
  refine .inl ⟨⟨conA⟩, bc_dec (fun h10 => ?_) (fun _ => rfl)⟩
  have cYr := conYrn m lo hi
  have cYs := conYs l (by omega) bo
  have cHe := conHe [] (by decide) m lo hi l (by omega) bo em set
  have cMO := conMO l (by omega) bo
  have cCR := conCR [] (by decide) m lo hi
  have cRE := conREn m lo hi
  have cCS := conCS l (by omega) bo
  have cSE := conSE l (by omega) bo
  have cbE := conbE2 m lo hi l bo
  have hd : (10 : Int) ≠ 0 := by decide
  rw [he_rul (by rw [rulE_nil]; exact hd), rulE_nil, if_neg hd] at cHe
  rw [rulE_nil] at cCR
  simp only [Dw, Tk, vi_whole, bc_t (v1le l), eq_self, true_and, and_true]
  by_cases hs : slE l bo = 0
  · have cRM := conRM l bo hs
    rw [if_pos hs] at cMO
    rw [hs] at cCS cSE
    refine ⟨⟨cYr⟩, ⟨cYs⟩, .inl ⟨_, _, ⟨cHe⟩, ⟨cYs⟩, _, _, _, ⟨cMO⟩, ⟨cYr⟩, _, ⟨cCR⟩, _, ⟨cRE⟩, ?_⟩⟩
    simp only [bc_nf, true_and]
    refine ⟨⟨cYs⟩, _, ⟨cCS⟩, _, ⟨cSE⟩, ?_⟩
    simp only [bc_nf, true_and]
    refine ⟨_, ⟨cSE⟩, ?_⟩
    simp only [bc_nf, bc_qt, true_and, and_true]
    refine ⟨_, _, ⟨cRM⟩, ?_⟩
    simp only [beq_self_eq_true, Bool.and_self, Bool.not_true, if_true, bcF, true_and]
    refine ⟨_, ⟨cbE⟩, ?_⟩
    simp only [bc_n hd, bc_q hd, bc_qt, true_and]
    exact .inl ⟨conSSn⟩
  · rw [if_neg hs] at cMO
    refine ⟨⟨cYr⟩, ⟨cYs⟩, .inl ⟨_, _, ⟨cHe⟩, ⟨cYs⟩, _, _, _, ⟨cMO⟩, ⟨cYr⟩, _, ⟨cCR⟩, _, ⟨cRE⟩, ?_⟩⟩
    simp only [bc_nf, true_and]
    refine ⟨⟨cYs⟩, _, ⟨cCS⟩, _, ⟨cSE⟩, ?_⟩
    simp only [bc_nf, true_and]
    refine ⟨_, ⟨cSE⟩, ?_⟩
    simp only [bc_nf, bc_n hs, bc_q hs, beq_self_eq_true, Bool.and_self, Bool.not_true, if_true, bcF, true_and, and_true]
    refine ⟨_, ⟨cbE⟩, ?_⟩
    simp only [bc_n hd, bc_q hd, bc_qt, true_and]
    exact .inl ⟨conSSn⟩
theorem lawNN (m lo hi bo em set : Int) : C5 3 [dRn m lo hi, dSn bo, .agg [dI em, dI set]] [.val (.bool true)] := by
  refine con_flat hokH mixed Try.func3 rfl (by show 0 ≤ 400; omega) rfl (by kernel_rfl) (fun caps => ?_)
  show gLsc _ _ m lo hi bo em set _
  rw [gLsc_text]
  refine .inl ⟨⟨conA⟩, ?_⟩
  have cYr := conYrn m lo hi
  have cYs := conYsn bo
  have cHe := conHe [] (by decide) m lo hi [] (by decide) bo em set
  have cMO := conMO [] (by decide) bo
  have cCR := conCR [] (by decide) m lo hi
  have cRE := conREn m lo hi
  have cCS := conCS [] (by decide) bo
  have cSE := conSEn bo
  have cbE := conbE3 m lo hi bo
  have hd : (10 : Int) ≠ 0 := by decide
  have hs : (10 : Int) ≠ 0 := by decide
  rw [he_rul (by rw [rulE_nil]; exact hd), rulE_nil, if_neg hd] at cHe
  rw [rulE_nil] at cCR
  rw [slE_nil, if_neg hs] at cMO
  rw [slE_nil] at cCS
  simp only [eq_self, true_and, and_true]
  refine ⟨⟨cYr⟩, ⟨cYs⟩, .inl ⟨_, _, ⟨cHe⟩, ⟨cYs⟩, _, _, _, ⟨cMO⟩, ⟨cYr⟩, _, ⟨cCR⟩, _, ⟨cRE⟩, ?_⟩⟩
  simp only [bc_nf, true_and]
  refine ⟨⟨cYs⟩, _, ⟨cCS⟩, _, ⟨cSE⟩, ?_⟩
  simp only [bc_nf, true_and]
  refine ⟨_, ⟨cSE⟩, ?_⟩
  simp only [bc_nf, bc_n hs, bc_q hs, beq_self_eq_true, Bool.and_self, Bool.not_true, if_true, bcF, true_and, and_true]
  refine ⟨_, ⟨cbE⟩, ?_⟩
  simp only [bc_n hd, bc_q hd, bc_qt, true_and]
  exact .inl ⟨conSSn⟩
end Go.Proofs.G5h

/- FurnaceSteps: whatever the input, it returns true, and the input reads as it did. No condition. -/
namespace Go.Proofs.Ytoelmajokkdeoaa.K
open Go Go.Abs Go.RowKit Go.ChangeShapes Go.WideShapes Go.ChangeAt Go.Proofs Go.Flat Go.Proofs.G5h
set_option maxRecDepth 100000
namespace FurnaceSteps
abbrev shs : List Sh := [.agg [22, 3, 3, 3], .agg [29, 3], .agg [3, 3]]
theorem shapes : Try.f3.params.toList.mapM (argSh Try.prog) = some shs := by kernel_rfl
theorem all (ds : List D) (h : ShDs Try.prog shs ds) : Con Try.prog 3 ds [.val (.bool true)] := by
  cases h with | cons h1 t => cases t with | cons h2 t => cases t with | cons h3 t =>
  cases t
  obtain ⟨d1, rfl, h1⟩ := h1
  obtain ⟨d2, rfl, h2⟩ := h2
  obtain ⟨d3, rfl, h3⟩ := h3
  cases h1 with | cons p1 t => cases t with | cons p2 t => cases t with | cons p3 t => cases t with | cons p4 t =>
  cases t
  cases h2 with | cons q1 t => cases t with | cons q2 t =>
  cases t
  cases h3 with | cons r1 t => cases t with | cons r2 t =>
  cases t
  obtain ⟨m, rfl, _⟩ := leaf_int Try.underlying3 p2
  obtain ⟨lo, rfl, _⟩ := leaf_int Try.underlying3 p3
  obtain ⟨hi, rfl, _⟩ := leaf_int Try.underlying3 p4
  obtain ⟨bo, rfl, _⟩ := leaf_int Try.underlying3 q2
  obtain ⟨em, rfl, _⟩ := leaf_int Try.underlying3 r1
  obtain ⟨set, rfl, _⟩ := leaf_int Try.underlying3 r2
  rcases leaf_prs Try.underlying22 (by kernel_rfl) p1 with rfl | ⟨ps, rfl, _⟩
  · rcases leaf_ints Try.underlying29 (by kernel_rfl) q1 with rfl | ⟨l, rfl⟩
    · exact lawNN m lo hi bo em set
    · exact lawNS m lo hi l bo em set
  · rcases leaf_ints Try.underlying29 (by kernel_rfl) q1 with rfl | ⟨l, rfl⟩
    · exact lawSN ps m lo hi bo em set
    · exact lawSS ps m lo hi l bo em set
theorem lifted (os : Os) (started : os.Started) (H : Type) (enc : TypeId × Value → H) :
    ReturnsInHanded {} Try.checked os 3 .any (Rows.furnaceStepsSpec.pre6 enc Try.prog Try.f3 Rows.furnaceStepsRow.domain false) (Rows.furnaceStepsSpec.post enc Try.prog Try.f3 false true false false) := by
  refine returnsInHanded_of_change (C := Try.checked) own started (by kernel_rfl) Try.func3
    (ChangeSpec.witness6 (enc := enc) (C := Try.checked) false ⟨#[], #[.agg #[.slice none 0 0, .int .i64 0, .int .i64 0, .int .i64 0], .agg #[.slice none 0 0, .int .i64 0], .agg #[.int .i64 0, .int .i64 0]], []⟩ 8 (by kernel_rfl) (by kernel_rfl) (by kernel_rfl) (by kernel_rfl)) ?_
  intro W base args ds gs before hval hW _ _
  exact law_shapes (tb := 4) (s := Rows.furnaceStepsSpec) shapes all laidP mapsP slicesP (tsP (by kernel_rfl)) rfl Try.underlying4 rfl (fun ds h => by
    match ds, h with
    | [_, _, _], _ => exact ⟨rfl, rfl, rfl⟩) hval hW (good0 W)
theorem holds : Rows.FurnaceStepsSaid :=
  OpenClaim.holds_of_wide 3 Try.f3 rfl rfl rfl rfl rfl rfl rfl ⟨rfl, rfl, rfl, rfl, rfl⟩ rfl rfl rfl rfl rfl (by kernel_rfl) Try.func3 (by kernel_rfl)
    (of_decide_eq_true (by kernel_rfl)) (by unfold Func.isWrapper; first | (rw [if_pos (by decide +kernel)]; kernel_rfl) | (rw [if_neg (by decide +kernel)]; exact ⟨rfl, rfl⟩))
    (fun os started H enc _ => lifted os started H enc)
#print axioms holds
end FurnaceSteps
end Go.Proofs.Ytoelmajokkdeoaa.K
