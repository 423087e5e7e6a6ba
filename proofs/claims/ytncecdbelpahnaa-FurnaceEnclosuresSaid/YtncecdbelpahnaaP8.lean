/- Texts of the proof, put together: GgTK4, GgEGL, GgEGL2, GgEGK. -/
import Derived.Test.YtncecdbelpahnaaP6
import Derived.Test.YtncecdbelpahnaaP5
import Derived.Test.YtncecdbelpahnaaP7
import Derived.Test.YtncecdbelpahnaaP4
/- What is left to show of each function, written out; the kernel reckons it. -/
namespace Go.Proofs.G5g
open Go Go.Abs Go.Proofs
set_option maxRecDepth 100000
set_option linter.unusedVariables false
def preL (C : Ct) : FuncId → Option Handler := fun g => if g == 10 then some (fixH C copyRou) else if g == 12 then some (fixH C copyGoa) else preZ C g
abbrev hL (C : Ct) : Handler := handlerX Try.prog (preL C) 12 6
def gLsss (C : Ct) (L : AtLoop) (n0 : Nat) (c0 : Nat) (l0 : List Value) (x1 : Int) (x2 : Int) (x3 : Int) (n4 : Nat) (c4 : Nat) (l4 : List Value) (x5 : Int) (n6 : Nat) (c6 : Nat) (l6 : List Value) (x7 : Int) (x8 : Int) (k : List D → Prop) : Prop := wpFn Try.prog (hL C) L 0 3 #[.agg #[.slice (some ⟨500, 0, none⟩) n0 c0, .int .i64 x1, .int .i64 x2, .int .i64 x3], .agg #[.slice (some ⟨501, 0, none⟩) n4 c4, .int .i64 x5], .agg #[.slice (some ⟨502, 0, none⟩) n6 c6, .int .i64 x7, .int .i64 x8]] (heapOf [(500, .sym l0 false 2), (501, .sym l4 false 1), (502, .sym l6 false 2)]) (dataK k)
theorem gLsss_text (C : Ct) (L : AtLoop) (n0 : Nat) (c0 : Nat) (l0 : List Go.Value) (x1 : Int) (x2 : Int) (x3 : Int) (n4 : Nat) (c4 : Nat) (l4 : List Go.Value) (x5 : Int) (n6 : Nat) (c6 : Nat) (l6 : List Go.Value) (x7 : Int) (x8 : Int) (k : List D → Prop) : gLsss C L n0 c0 l0 x1 x2 x3 n4 c4 l4 x5 n6 c6 l6 x7 x8 k =
 (((Says C 5 [] kT) ∧
 (bcase (decide ((↑n0 : Int) ≤ 12))
 (bcase (decide ((↑n4 : Int) ≤ 10))
 (bcase (decide ((↑n6 : Int) > 7))
 (k kT)
 (((Qv (Sl 502 (n6) (c6))) ∧
 ((Qv (Pt 1002 0)) ∧
 ((Qv (Value.agg [(Sl 501 (n4) (c4)), (vI x5)].toArray)) ∧
 ((Qv (Value.agg [(Sl 500 (n0) (c0)), (vI x1), (vI x2), (vI x3)].toArray)) ∧
 True)))) ∧
 (bcase (dL n0 2 l0)
 ((Says C 8 [(D.agg [(Dw n0 2 l0), (dI x1), (dI x2), (dI x3)])] [(D.agg [(Dw n0 2 l0), (dI x1), (dI x2), (dI x3)])]) ∧
 (((Qv (Sl 502 (n6) (c6))) ∧
 ((Qv (Pt 1002 0)) ∧
 ((Qv (Value.agg [(Sl 501 (n4) (c4)), (vI x5)].toArray)) ∧
 True))) ∧
 (bcase (dL n4 1 l4)
 ((Says C 9 [(D.agg [(Dw n4 1 l4), (dI x5)])] [(D.agg [(Dw n4 1 l4), (dI x5)])]) ∧
 (((Qv (Sl 502 (n6) (c6))) ∧
 ((Qv (Pt 1002 0)) ∧
 True)) ∧
 (bcase (dL n6 2 l6)
 ((Says C 10 [(Dw n6 2 l6)] [(Dw n6 2 l6)]) ∧
 (((Qv (Pt 1002 0)) ∧
 True) ∧
 (bcase (dL n0 2 (Tk n0 2 l0))
 (bcase (dL n4 1 (Tk n4 1 l4))
 (bcase (dL n6 2 (Tk n6 2 l6))
 ((∃ n1 : Int,
 ((Says C 7 [(D.agg [(Dw n0 2 (Tk n0 2 l0)), (dI x1), (dI x2), (dI x3)]), (D.agg [(Dw n4 1 (Tk n4 1 l4)), (dI x5)]), (Dw n6 2 (Tk n6 2 l6))] [D.nil, (dI n1)]) ∧
 (((Qv (vI n1)) ∧
 ((Qv (Value.slice none 0 0)) ∧
 ((Qv (Value.tuple [(Value.slice none 0 0), (vI n1)].toArray)) ∧
 ((Qv (Pt 1002 0)) ∧
 True)))) ∧
 (((Qv (vI n1)) ∧
 True) ∧
 (True ∧
 (((Qv (Value.agg [(Sl 502 (n6) (c6)), (vI x7), (vI x8)].toArray)) ∧
 ((Qv (Value.agg [(Sl 501 (n4) (c4)), (vI x5)].toArray)) ∧
 ((Qv (Value.agg [(Sl 500 (n0) (c0)), (vI x1), (vI x2), (vI x3)].toArray)) ∧
 True))) ∧
 (bcase (dL n0 2 l0)
 ((Says C 8 [(D.agg [(Dw n0 2 l0), (dI x1), (dI x2), (dI x3)])] [(D.agg [(Dw n0 2 l0), (dI x1), (dI x2), (dI x3)])]) ∧
 (((Qv (Value.agg [(Sl 502 (n6) (c6)), (vI x7), (vI x8)].toArray)) ∧
 ((Qv (Value.agg [(Sl 501 (n4) (c4)), (vI x5)].toArray)) ∧
 True)) ∧
 (bcase (dL n4 1 l4)
 ((Says C 9 [(D.agg [(Dw n4 1 l4), (dI x5)])] [(D.agg [(Dw n4 1 l4), (dI x5)])]) ∧
 (((Qv (Value.agg [(Sl 502 (n6) (c6)), (vI x7), (vI x8)].toArray)) ∧
 True) ∧
 (bcase (dL n6 2 l6)
 ((Says C 12 [(D.agg [(Dw n6 2 l6), (dI x7), (dI x8)])] [(D.agg [(Dw n6 2 l6), (dI x7), (dI x8)])]) ∧
 (True ∧
 (bcase (dL n0 2 (Tk n0 2 l0))
 (bcase (dL n4 1 (Tk n4 1 l4))
 (bcase (dL n6 2 (Tk n6 2 l6))
 (∃ n2 : Int,
 (∃ n3 : Int,
 ((Says C 11 [(D.agg [(Dw n0 2 (Tk n0 2 l0)), (dI x1), (dI x2), (dI x3)]), (D.agg [(Dw n4 1 (Tk n4 1 l4)), (dI x5)]), (D.agg [(Dw n6 2 (Tk n6 2 l6)), (dI x7), (dI x8)])] [(dI n2), (dI n3)]) ∧
 (((Qv (vI n3)) ∧
 ((Qv (vI n2)) ∧
 ((Qv (Value.tuple [(vI n2), (vI n3)].toArray)) ∧
 True))) ∧
 (((Qv (vI n3)) ∧
 True) ∧
 (True ∧
 (bcase (dL n0 2 l0)
 (bcase (dL n4 1 l4)
 (∃ n5 : Int,
 ((Says C 13 [(D.agg [(Dw n0 2 l0), (dI x1), (dI x2), (dI x3)]), (D.agg [(Dw n4 1 l4), (dI x5)])] [(dI n5)]) ∧
 (bcase (n5 == 0)
 (bcase (dL n6 2 l6)
 (∃ n7 : Int,
 ((Says C 14 [(Dw n6 2 l6)] [(dI n7)]) ∧
 (bcase (n7 != 0)
 (bcase (n1 == n7)
 (bcase (n3 == n7)
 (bcase (n2 == 0)
 (k kT)
 (k kF))
 (k kF))
 (k kF))
 (bcase (n1 != 0)
 (k kF)
 (bcase (dL n0 2 l0)
 (bcase (dL n4 1 l4)
 (bcase (dL n6 2 l6)
 (((Says C 16 [(D.agg [(Dw n0 2 l0), (dI x1), (dI x2), (dI x3)]), (D.agg [(Dw n4 1 l4), (dI x5)]), (Dw n6 2 l6)] [D.nil]) ∧
 (((Says C 15 [D.nil, D.nil] kT) ∧
 (bcase (dL n6 2 l6)
 (∃ n8 : Int,
 ((Says C 17 [(D.agg [(Dw n6 2 l6), (dI x7), (dI x8)])] [(dI n8)]) ∧
 (bcase (n8 != 0)
 (bcase (n3 == n8)
 (bcase (n2 == 0)
 (k kT)
 (k kF))
 (k kF))
 (bcase (n3 == 0)
 (bcase (dL n0 2 l0)
 (bcase (dL n4 1 l4)
 (bcase (dL n6 2 l6)
 (∃ n9 : Int,
 ((Says C 18 [(D.agg [(Dw n0 2 l0), (dI x1), (dI x2), (dI x3)]), (D.agg [(Dw n4 1 l4), (dI x5)]), (D.agg [(Dw n6 2 l6), (dI x7), (dI x8)])] [(dI n9)]) ∧
 (bcase (n2 == n9)
 (k kT)
 (k kF))))
 False)
 False)
 False)
 (k kF)))))
 False)) ∨
 ((Says C 15 [D.nil, D.nil] kF) ∧
 (k kF)))) ∨
 (∃ n8 : Nat,
 (∃ cs1 : List Go.Value,
 ((Says C 16 [(D.agg [(Dw n0 2 l0), (dI x1), (dI x2), (dI x3)]), (D.agg [(Dw n4 1 l4), (dI x5)]), (Dw n6 2 l6)] [(D.sl (n8) 2 (cs1))]) ∧
 (bcase (dL n8 2 cs1)
 (((Says C 15 [D.nil, (Dw n8 2 cs1)] kT) ∧
 (bcase (dL n6 2 l6)
 (∃ n9 : Int,
 ((Says C 17 [(D.agg [(Dw n6 2 l6), (dI x7), (dI x8)])] [(dI n9)]) ∧
 (bcase (n9 != 0)
 (bcase (n3 == n9)
 (bcase (n2 == 0)
 (k kT)
 (k kF))
 (k kF))
 (bcase (n3 == 0)
 (bcase (dL n0 2 l0)
 (bcase (dL n4 1 l4)
 (bcase (dL n6 2 l6)
 (∃ n10 : Int,
 ((Says C 18 [(D.agg [(Dw n0 2 l0), (dI x1), (dI x2), (dI x3)]), (D.agg [(Dw n4 1 l4), (dI x5)]), (D.agg [(Dw n6 2 l6), (dI x7), (dI x8)])] [(dI n10)]) ∧
 (bcase (n2 == n10)
 (k kT)
 (k kF))))
 False)
 False)
 False)
 (k kF)))))
 False)) ∨
 ((Says C 15 [D.nil, (Dw n8 2 cs1)] kF) ∧
 (k kF)))
 False)))))
 False)
 False)
 False)))))
 False)
 (bcase (n5 != 0)
 (bcase (n1 == n5)
 (bcase (n3 == n5)
 (bcase (n2 == 0)
 (k kT)
 (k kF))
 (k kF))
 (k kF))
 (bcase (n1 != 0)
 (k kF)
 (bcase (dL n0 2 l0)
 (bcase (dL n4 1 l4)
 (bcase (dL n6 2 l6)
 (((Says C 16 [(D.agg [(Dw n0 2 l0), (dI x1), (dI x2), (dI x3)]), (D.agg [(Dw n4 1 l4), (dI x5)]), (Dw n6 2 l6)] [D.nil]) ∧
 (((Says C 15 [D.nil, D.nil] kT) ∧
 (bcase (dL n6 2 l6)
 (∃ n7 : Int,
 ((Says C 17 [(D.agg [(Dw n6 2 l6), (dI x7), (dI x8)])] [(dI n7)]) ∧
 (bcase (n7 != 0)
 (bcase (n3 == n7)
 (bcase (n2 == 0)
 (k kT)
 (k kF))
 (k kF))
 (bcase (n3 == 0)
 (bcase (dL n0 2 l0)
 (bcase (dL n4 1 l4)
 (bcase (dL n6 2 l6)
 (∃ n8 : Int,
 ((Says C 18 [(D.agg [(Dw n0 2 l0), (dI x1), (dI x2), (dI x3)]), (D.agg [(Dw n4 1 l4), (dI x5)]), (D.agg [(Dw n6 2 l6), (dI x7), (dI x8)])] [(dI n8)]) ∧
 (bcase (n2 == n8)
 (k kT)
 (k kF))))
 False)
 False)
 False)
 (k kF)))))
 False)) ∨
 ((Says C 15 [D.nil, D.nil] kF) ∧
 (k kF)))) ∨
 (∃ n7 : Nat,
 (∃ cs1 : List Go.Value,
 ((Says C 16 [(D.agg [(Dw n0 2 l0), (dI x1), (dI x2), (dI x3)]), (D.agg [(Dw n4 1 l4), (dI x5)]), (Dw n6 2 l6)] [(D.sl (n7) 2 (cs1))]) ∧
 (bcase (dL n7 2 cs1)
 (((Says C 15 [D.nil, (Dw n7 2 cs1)] kT) ∧
 (bcase (dL n6 2 l6)
 (∃ n8 : Int,
 ((Says C 17 [(D.agg [(Dw n6 2 l6), (dI x7), (dI x8)])] [(dI n8)]) ∧
 (bcase (n8 != 0)
 (bcase (n3 == n8)
 (bcase (n2 == 0)
 (k kT)
 (k kF))
 (k kF))
 (bcase (n3 == 0)
 (bcase (dL n0 2 l0)
 (bcase (dL n4 1 l4)
 (bcase (dL n6 2 l6)
 (∃ n9 : Int,
 ((Says C 18 [(D.agg [(Dw n0 2 l0), (dI x1), (dI x2), (dI x3)]), (D.agg [(Dw n4 1 l4), (dI x5)]), (D.agg [(Dw n6 2 l6), (dI x7), (dI x8)])] [(dI n9)]) ∧
 (bcase (n2 == n9)
 (k kT)
 (k kF))))
 False)
 False)
 False)
 (k kF)))))
 False)) ∨
 ((Says C 15 [D.nil, (Dw n7 2 cs1)] kF) ∧
 (k kF)))
 False)))))
 False)
 False)
 False))))))
 False)
 False)))))))
 False)
 False)
 False)))
 False)))
 False)))
 False))))))) ∨
 (∃ n1 : Nat,
 (∃ cs1 : List Go.Value,
 (∃ n2 : Int,
 ((Says C 7 [(D.agg [(Dw n0 2 (Tk n0 2 l0)), (dI x1), (dI x2), (dI x3)]), (D.agg [(Dw n4 1 (Tk n4 1 l4)), (dI x5)]), (Dw n6 2 (Tk n6 2 l6))] [(D.sl (n1) 2 (cs1)), (dI n2)]) ∧
 (((Qv (vI n2)) ∧
 ((Qv (Sl 1009 (n1) (n1))) ∧
 ((Qv (Value.tuple [(Sl 1009 (n1) (n1)), (vI n2)].toArray)) ∧
 ((Qv (Pt 1002 0)) ∧
 True)))) ∧
 (((Qv (vI n2)) ∧
 True) ∧
 (True ∧
 (((Qv (Value.agg [(Sl 502 (n6) (c6)), (vI x7), (vI x8)].toArray)) ∧
 ((Qv (Value.agg [(Sl 501 (n4) (c4)), (vI x5)].toArray)) ∧
 ((Qv (Value.agg [(Sl 500 (n0) (c0)), (vI x1), (vI x2), (vI x3)].toArray)) ∧
 True))) ∧
 (bcase (dL n0 2 l0)
 ((Says C 8 [(D.agg [(Dw n0 2 l0), (dI x1), (dI x2), (dI x3)])] [(D.agg [(Dw n0 2 l0), (dI x1), (dI x2), (dI x3)])]) ∧
 (((Qv (Value.agg [(Sl 502 (n6) (c6)), (vI x7), (vI x8)].toArray)) ∧
 ((Qv (Value.agg [(Sl 501 (n4) (c4)), (vI x5)].toArray)) ∧
 True)) ∧
 (bcase (dL n4 1 l4)
 ((Says C 9 [(D.agg [(Dw n4 1 l4), (dI x5)])] [(D.agg [(Dw n4 1 l4), (dI x5)])]) ∧
 (((Qv (Value.agg [(Sl 502 (n6) (c6)), (vI x7), (vI x8)].toArray)) ∧
 True) ∧
 (bcase (dL n6 2 l6)
 ((Says C 12 [(D.agg [(Dw n6 2 l6), (dI x7), (dI x8)])] [(D.agg [(Dw n6 2 l6), (dI x7), (dI x8)])]) ∧
 (True ∧
 (bcase (dL n0 2 (Tk n0 2 l0))
 (bcase (dL n4 1 (Tk n4 1 l4))
 (bcase (dL n6 2 (Tk n6 2 l6))
 (∃ n3 : Int,
 (∃ n5 : Int,
 ((Says C 11 [(D.agg [(Dw n0 2 (Tk n0 2 l0)), (dI x1), (dI x2), (dI x3)]), (D.agg [(Dw n4 1 (Tk n4 1 l4)), (dI x5)]), (D.agg [(Dw n6 2 (Tk n6 2 l6)), (dI x7), (dI x8)])] [(dI n3), (dI n5)]) ∧
 (((Qv (vI n5)) ∧
 ((Qv (vI n3)) ∧
 ((Qv (Value.tuple [(vI n3), (vI n5)].toArray)) ∧
 True))) ∧
 (((Qv (vI n5)) ∧
 True) ∧
 (True ∧
 (bcase (dL n0 2 l0)
 (bcase (dL n4 1 l4)
 (∃ n7 : Int,
 ((Says C 13 [(D.agg [(Dw n0 2 l0), (dI x1), (dI x2), (dI x3)]), (D.agg [(Dw n4 1 l4), (dI x5)])] [(dI n7)]) ∧
 (bcase (n7 == 0)
 (bcase (dL n6 2 l6)
 (∃ n8 : Int,
 ((Says C 14 [(Dw n6 2 l6)] [(dI n8)]) ∧
 (bcase (n8 != 0)
 (bcase (n2 == n8)
 (bcase (n5 == n8)
 (bcase ((↑n1 : Int) == 0)
 (bcase (n3 == 0)
 (k kT)
 (k kF))
 (k kF))
 (k kF))
 (k kF))
 (bcase (n2 != 0)
 (k kF)
 (bcase (dL n0 2 l0)
 (bcase (dL n4 1 l4)
 (bcase (dL n6 2 l6)
 (((Says C 16 [(D.agg [(Dw n0 2 l0), (dI x1), (dI x2), (dI x3)]), (D.agg [(Dw n4 1 l4), (dI x5)]), (Dw n6 2 l6)] [D.nil]) ∧
 (bcase (dL n1 2 cs1)
 (((Says C 15 [(Dw n1 2 cs1), D.nil] kT) ∧
 (bcase (dL n6 2 l6)
 (∃ n9 : Int,
 ((Says C 17 [(D.agg [(Dw n6 2 l6), (dI x7), (dI x8)])] [(dI n9)]) ∧
 (bcase (n9 != 0)
 (bcase (n5 == n9)
 (bcase (n3 == 0)
 (k kT)
 (k kF))
 (k kF))
 (bcase (n5 == 0)
 (bcase (dL n0 2 l0)
 (bcase (dL n4 1 l4)
 (bcase (dL n6 2 l6)
 (∃ n10 : Int,
 ((Says C 18 [(D.agg [(Dw n0 2 l0), (dI x1), (dI x2), (dI x3)]), (D.agg [(Dw n4 1 l4), (dI x5)]), (D.agg [(Dw n6 2 l6), (dI x7), (dI x8)])] [(dI n10)]) ∧
 (bcase (n3 == n10)
 (k kT)
 (k kF))))
 False)
 False)
 False)
 (k kF)))))
 False)) ∨
 ((Says C 15 [(Dw n1 2 cs1), D.nil] kF) ∧
 (k kF)))
 False)) ∨
 (∃ n9 : Nat,
 (∃ cs2 : List Go.Value,
 ((Says C 16 [(D.agg [(Dw n0 2 l0), (dI x1), (dI x2), (dI x3)]), (D.agg [(Dw n4 1 l4), (dI x5)]), (Dw n6 2 l6)] [(D.sl (n9) 2 (cs2))]) ∧
 (bcase (dL n1 2 cs1)
 (bcase (dL n9 2 cs2)
 (((Says C 15 [(Dw n1 2 cs1), (Dw n9 2 cs2)] kT) ∧
 (bcase (dL n6 2 l6)
 (∃ n10 : Int,
 ((Says C 17 [(D.agg [(Dw n6 2 l6), (dI x7), (dI x8)])] [(dI n10)]) ∧
 (bcase (n10 != 0)
 (bcase (n5 == n10)
 (bcase (n3 == 0)
 (k kT)
 (k kF))
 (k kF))
 (bcase (n5 == 0)
 (bcase (dL n0 2 l0)
 (bcase (dL n4 1 l4)
 (bcase (dL n6 2 l6)
 (∃ n11 : Int,
 ((Says C 18 [(D.agg [(Dw n0 2 l0), (dI x1), (dI x2), (dI x3)]), (D.agg [(Dw n4 1 l4), (dI x5)]), (D.agg [(Dw n6 2 l6), (dI x7), (dI x8)])] [(dI n11)]) ∧
 (bcase (n3 == n11)
 (k kT)
 (k kF))))
 False)
 False)
 False)
 (k kF)))))
 False)) ∨
 ((Says C 15 [(Dw n1 2 cs1), (Dw n9 2 cs2)] kF) ∧
 (k kF)))
 False)
 False)))))
 False)
 False)
 False)))))
 False)
 (bcase (n7 != 0)
 (bcase (n2 == n7)
 (bcase (n5 == n7)
 (bcase ((↑n1 : Int) == 0)
 (bcase (n3 == 0)
 (k kT)
 (k kF))
 (k kF))
 (k kF))
 (k kF))
 (bcase (n2 != 0)
 (k kF)
 (bcase (dL n0 2 l0)
 (bcase (dL n4 1 l4)
 (bcase (dL n6 2 l6)
 (((Says C 16 [(D.agg [(Dw n0 2 l0), (dI x1), (dI x2), (dI x3)]), (D.agg [(Dw n4 1 l4), (dI x5)]), (Dw n6 2 l6)] [D.nil]) ∧
 (bcase (dL n1 2 cs1)
 (((Says C 15 [(Dw n1 2 cs1), D.nil] kT) ∧
 (bcase (dL n6 2 l6)
 (∃ n8 : Int,
 ((Says C 17 [(D.agg [(Dw n6 2 l6), (dI x7), (dI x8)])] [(dI n8)]) ∧
 (bcase (n8 != 0)
 (bcase (n5 == n8)
 (bcase (n3 == 0)
 (k kT)
 (k kF))
 (k kF))
 (bcase (n5 == 0)
 (bcase (dL n0 2 l0)
 (bcase (dL n4 1 l4)
 (bcase (dL n6 2 l6)
 (∃ n9 : Int,
 ((Says C 18 [(D.agg [(Dw n0 2 l0), (dI x1), (dI x2), (dI x3)]), (D.agg [(Dw n4 1 l4), (dI x5)]), (D.agg [(Dw n6 2 l6), (dI x7), (dI x8)])] [(dI n9)]) ∧
 (bcase (n3 == n9)
 (k kT)
 (k kF))))
 False)
 False)
 False)
 (k kF)))))
 False)) ∨
 ((Says C 15 [(Dw n1 2 cs1), D.nil] kF) ∧
 (k kF)))
 False)) ∨
 (∃ n8 : Nat,
 (∃ cs2 : List Go.Value,
 ((Says C 16 [(D.agg [(Dw n0 2 l0), (dI x1), (dI x2), (dI x3)]), (D.agg [(Dw n4 1 l4), (dI x5)]), (Dw n6 2 l6)] [(D.sl (n8) 2 (cs2))]) ∧
 (bcase (dL n1 2 cs1)
 (bcase (dL n8 2 cs2)
 (((Says C 15 [(Dw n1 2 cs1), (Dw n8 2 cs2)] kT) ∧
 (bcase (dL n6 2 l6)
 (∃ n9 : Int,
 ((Says C 17 [(D.agg [(Dw n6 2 l6), (dI x7), (dI x8)])] [(dI n9)]) ∧
 (bcase (n9 != 0)
 (bcase (n5 == n9)
 (bcase (n3 == 0)
 (k kT)
 (k kF))
 (k kF))
 (bcase (n5 == 0)
 (bcase (dL n0 2 l0)
 (bcase (dL n4 1 l4)
 (bcase (dL n6 2 l6)
 (∃ n10 : Int,
 ((Says C 18 [(D.agg [(Dw n0 2 l0), (dI x1), (dI x2), (dI x3)]), (D.agg [(Dw n4 1 l4), (dI x5)]), (D.agg [(Dw n6 2 l6), (dI x7), (dI x8)])] [(dI n10)]) ∧
 (bcase (n3 == n10)
 (k kT)
 (k kF))))
 False)
 False)
 False)
 (k kF)))))
 False)) ∨
 ((Says C 15 [(Dw n1 2 cs1), (Dw n8 2 cs2)] kF) ∧
 (k kF)))
 False)
 False)))))
 False)
 False)
 False))))))
 False)
 False)))))))
 False)
 False)
 False)))
 False)))
 False)))
 False))))))))))
 False)
 False)
 False)))
 False)))
 False)))
 False)))
 (k kT))
 (k kT))) ∨
 ((Says C 5 [] kF) ∧
 (k kF))) := by kernel_rfl
def gLssn (C : Ct) (L : AtLoop) (n0 : Nat) (c0 : Nat) (l0 : List Value) (x1 : Int) (x2 : Int) (x3 : Int) (n4 : Nat) (c4 : Nat) (l4 : List Value) (x5 : Int) (x7 : Int) (x8 : Int) (k : List D → Prop) : Prop := wpFn Try.prog (hL C) L 0 3 #[.agg #[.slice (some ⟨500, 0, none⟩) n0 c0, .int .i64 x1, .int .i64 x2, .int .i64 x3], .agg #[.slice (some ⟨501, 0, none⟩) n4 c4, .int .i64 x5], .agg #[.slice none 0 0, .int .i64 x7, .int .i64 x8]] (heapOf [(500, .sym l0 false 2), (501, .sym l4 false 1)]) (dataK k)
theorem gLssn_text (C : Ct) (L : AtLoop) (n0 : Nat) (c0 : Nat) (l0 : List Go.Value) (x1 : Int) (x2 : Int) (x3 : Int) (n4 : Nat) (c4 : Nat) (l4 : List Go.Value) (x5 : Int) (x7 : Int) (x8 : Int) (k : List D → Prop) : gLssn C L n0 c0 l0 x1 x2 x3 n4 c4 l4 x5 x7 x8 k =
 (((Says C 5 [] kT) ∧
 (bcase (decide ((↑n0 : Int) ≤ 12))
 (bcase (decide ((↑n4 : Int) ≤ 10))
 (((Qv (Value.slice none 0 0)) ∧
 ((Qv (Pt 1002 0)) ∧
 ((Qv (Value.agg [(Sl 501 (n4) (c4)), (vI x5)].toArray)) ∧
 ((Qv (Value.agg [(Sl 500 (n0) (c0)), (vI x1), (vI x2), (vI x3)].toArray)) ∧
 True)))) ∧
 (bcase (dL n0 2 l0)
 ((Says C 8 [(D.agg [(Dw n0 2 l0), (dI x1), (dI x2), (dI x3)])] [(D.agg [(Dw n0 2 l0), (dI x1), (dI x2), (dI x3)])]) ∧
 (((Qv (Value.slice none 0 0)) ∧
 ((Qv (Pt 1002 0)) ∧
 ((Qv (Value.agg [(Sl 501 (n4) (c4)), (vI x5)].toArray)) ∧
 True))) ∧
 (bcase (dL n4 1 l4)
 ((Says C 9 [(D.agg [(Dw n4 1 l4), (dI x5)])] [(D.agg [(Dw n4 1 l4), (dI x5)])]) ∧
 (((Qv (Value.slice none 0 0)) ∧
 ((Qv (Pt 1002 0)) ∧
 True)) ∧
 ((Says C 10 [D.nil] [(D.sl 0 2 [])]) ∧
 (((Qv (Pt 1002 0)) ∧
 True) ∧
 (bcase (dL n0 2 (Tk n0 2 l0))
 (bcase (dL n4 1 (Tk n4 1 l4))
 ((∃ n1 : Int,
 ((Says C 7 [(D.agg [(Dw n0 2 (Tk n0 2 l0)), (dI x1), (dI x2), (dI x3)]), (D.agg [(Dw n4 1 (Tk n4 1 l4)), (dI x5)]), (D.sl 0 2 [])] [D.nil, (dI n1)]) ∧
 (((Qv (vI n1)) ∧
 ((Qv (Value.slice none 0 0)) ∧
 ((Qv (Value.tuple [(Value.slice none 0 0), (vI n1)].toArray)) ∧
 ((Qv (Pt 1002 0)) ∧
 True)))) ∧
 (((Qv (vI n1)) ∧
 True) ∧
 (True ∧
 (((Qv (Value.agg [(Value.slice none 0 0), (vI x7), (vI x8)].toArray)) ∧
 ((Qv (Value.agg [(Sl 501 (n4) (c4)), (vI x5)].toArray)) ∧
 ((Qv (Value.agg [(Sl 500 (n0) (c0)), (vI x1), (vI x2), (vI x3)].toArray)) ∧
 True))) ∧
 (bcase (dL n0 2 l0)
 ((Says C 8 [(D.agg [(Dw n0 2 l0), (dI x1), (dI x2), (dI x3)])] [(D.agg [(Dw n0 2 l0), (dI x1), (dI x2), (dI x3)])]) ∧
 (((Qv (Value.agg [(Value.slice none 0 0), (vI x7), (vI x8)].toArray)) ∧
 ((Qv (Value.agg [(Sl 501 (n4) (c4)), (vI x5)].toArray)) ∧
 True)) ∧
 (bcase (dL n4 1 l4)
 ((Says C 9 [(D.agg [(Dw n4 1 l4), (dI x5)])] [(D.agg [(Dw n4 1 l4), (dI x5)])]) ∧
 (((Qv (Value.agg [(Value.slice none 0 0), (vI x7), (vI x8)].toArray)) ∧
 True) ∧
 ((Says C 12 [(D.agg [D.nil, (dI x7), (dI x8)])] [(D.agg [(D.sl 0 2 []), (dI x7), (dI x8)])]) ∧
 (True ∧
 (bcase (dL n0 2 (Tk n0 2 l0))
 (bcase (dL n4 1 (Tk n4 1 l4))
 (∃ n2 : Int,
 (∃ n3 : Int,
 ((Says C 11 [(D.agg [(Dw n0 2 (Tk n0 2 l0)), (dI x1), (dI x2), (dI x3)]), (D.agg [(Dw n4 1 (Tk n4 1 l4)), (dI x5)]), (D.agg [(D.sl 0 2 []), (dI x7), (dI x8)])] [(dI n2), (dI n3)]) ∧
 (((Qv (vI n3)) ∧
 ((Qv (vI n2)) ∧
 ((Qv (Value.tuple [(vI n2), (vI n3)].toArray)) ∧
 True))) ∧
 (((Qv (vI n3)) ∧
 True) ∧
 (True ∧
 (bcase (dL n0 2 l0)
 (bcase (dL n4 1 l4)
 (∃ n5 : Int,
 ((Says C 13 [(D.agg [(Dw n0 2 l0), (dI x1), (dI x2), (dI x3)]), (D.agg [(Dw n4 1 l4), (dI x5)])] [(dI n5)]) ∧
 (bcase (n5 == 0)
 (∃ n6 : Int,
 ((Says C 14 [D.nil] [(dI n6)]) ∧
 (bcase (n6 != 0)
 (bcase (n1 == n6)
 (bcase (n3 == n6)
 (bcase (n2 == 0)
 (k kT)
 (k kF))
 (k kF))
 (k kF))
 (bcase (n1 != 0)
 (k kF)
 (bcase (dL n0 2 l0)
 (bcase (dL n4 1 l4)
 (((Says C 16 [(D.agg [(Dw n0 2 l0), (dI x1), (dI x2), (dI x3)]), (D.agg [(Dw n4 1 l4), (dI x5)]), D.nil] [D.nil]) ∧
 (((Says C 15 [D.nil, D.nil] kT) ∧
 (∃ n7 : Int,
 ((Says C 17 [(D.agg [D.nil, (dI x7), (dI x8)])] [(dI n7)]) ∧
 (bcase (n7 != 0)
 (bcase (n3 == n7)
 (bcase (n2 == 0)
 (k kT)
 (k kF))
 (k kF))
 (bcase (n3 == 0)
 (bcase (dL n0 2 l0)
 (bcase (dL n4 1 l4)
 (∃ n8 : Int,
 ((Says C 18 [(D.agg [(Dw n0 2 l0), (dI x1), (dI x2), (dI x3)]), (D.agg [(Dw n4 1 l4), (dI x5)]), (D.agg [D.nil, (dI x7), (dI x8)])] [(dI n8)]) ∧
 (bcase (n2 == n8)
 (k kT)
 (k kF))))
 False)
 False)
 (k kF)))))) ∨
 ((Says C 15 [D.nil, D.nil] kF) ∧
 (k kF)))) ∨
 (∃ n7 : Nat,
 (∃ cs1 : List Go.Value,
 ((Says C 16 [(D.agg [(Dw n0 2 l0), (dI x1), (dI x2), (dI x3)]), (D.agg [(Dw n4 1 l4), (dI x5)]), D.nil] [(D.sl (n7) 2 (cs1))]) ∧
 (bcase (dL n7 2 cs1)
 (((Says C 15 [D.nil, (Dw n7 2 cs1)] kT) ∧
 (∃ n8 : Int,
 ((Says C 17 [(D.agg [D.nil, (dI x7), (dI x8)])] [(dI n8)]) ∧
 (bcase (n8 != 0)
 (bcase (n3 == n8)
 (bcase (n2 == 0)
 (k kT)
 (k kF))
 (k kF))
 (bcase (n3 == 0)
 (bcase (dL n0 2 l0)
 (bcase (dL n4 1 l4)
 (∃ n9 : Int,
 ((Says C 18 [(D.agg [(Dw n0 2 l0), (dI x1), (dI x2), (dI x3)]), (D.agg [(Dw n4 1 l4), (dI x5)]), (D.agg [D.nil, (dI x7), (dI x8)])] [(dI n9)]) ∧
 (bcase (n2 == n9)
 (k kT)
 (k kF))))
 False)
 False)
 (k kF)))))) ∨
 ((Says C 15 [D.nil, (Dw n7 2 cs1)] kF) ∧
 (k kF)))
 False)))))
 False)
 False)))))
 (bcase (n5 != 0)
 (bcase (n1 == n5)
 (bcase (n3 == n5)
 (bcase (n2 == 0)
 (k kT)
 (k kF))
 (k kF))
 (k kF))
 (bcase (n1 != 0)
 (k kF)
 (bcase (dL n0 2 l0)
 (bcase (dL n4 1 l4)
 (((Says C 16 [(D.agg [(Dw n0 2 l0), (dI x1), (dI x2), (dI x3)]), (D.agg [(Dw n4 1 l4), (dI x5)]), D.nil] [D.nil]) ∧
 (((Says C 15 [D.nil, D.nil] kT) ∧
 (∃ n6 : Int,
 ((Says C 17 [(D.agg [D.nil, (dI x7), (dI x8)])] [(dI n6)]) ∧
 (bcase (n6 != 0)
 (bcase (n3 == n6)
 (bcase (n2 == 0)
 (k kT)
 (k kF))
 (k kF))
 (bcase (n3 == 0)
 (bcase (dL n0 2 l0)
 (bcase (dL n4 1 l4)
 (∃ n7 : Int,
 ((Says C 18 [(D.agg [(Dw n0 2 l0), (dI x1), (dI x2), (dI x3)]), (D.agg [(Dw n4 1 l4), (dI x5)]), (D.agg [D.nil, (dI x7), (dI x8)])] [(dI n7)]) ∧
 (bcase (n2 == n7)
 (k kT)
 (k kF))))
 False)
 False)
 (k kF)))))) ∨
 ((Says C 15 [D.nil, D.nil] kF) ∧
 (k kF)))) ∨
 (∃ n6 : Nat,
 (∃ cs1 : List Go.Value,
 ((Says C 16 [(D.agg [(Dw n0 2 l0), (dI x1), (dI x2), (dI x3)]), (D.agg [(Dw n4 1 l4), (dI x5)]), D.nil] [(D.sl (n6) 2 (cs1))]) ∧
 (bcase (dL n6 2 cs1)
 (((Says C 15 [D.nil, (Dw n6 2 cs1)] kT) ∧
 (∃ n7 : Int,
 ((Says C 17 [(D.agg [D.nil, (dI x7), (dI x8)])] [(dI n7)]) ∧
 (bcase (n7 != 0)
 (bcase (n3 == n7)
 (bcase (n2 == 0)
 (k kT)
 (k kF))
 (k kF))
 (bcase (n3 == 0)
 (bcase (dL n0 2 l0)
 (bcase (dL n4 1 l4)
 (∃ n8 : Int,
 ((Says C 18 [(D.agg [(Dw n0 2 l0), (dI x1), (dI x2), (dI x3)]), (D.agg [(Dw n4 1 l4), (dI x5)]), (D.agg [D.nil, (dI x7), (dI x8)])] [(dI n8)]) ∧
 (bcase (n2 == n8)
 (k kT)
 (k kF))))
 False)
 False)
 (k kF)))))) ∨
 ((Says C 15 [D.nil, (Dw n6 2 cs1)] kF) ∧
 (k kF)))
 False)))))
 False)
 False))))))
 False)
 False)))))))
 False)
 False)))))
 False)))
 False))))))) ∨
 (∃ n1 : Nat,
 (∃ cs1 : List Go.Value,
 (∃ n2 : Int,
 ((Says C 7 [(D.agg [(Dw n0 2 (Tk n0 2 l0)), (dI x1), (dI x2), (dI x3)]), (D.agg [(Dw n4 1 (Tk n4 1 l4)), (dI x5)]), (D.sl 0 2 [])] [(D.sl (n1) 2 (cs1)), (dI n2)]) ∧
 (((Qv (vI n2)) ∧
 ((Qv (Sl 1009 (n1) (n1))) ∧
 ((Qv (Value.tuple [(Sl 1009 (n1) (n1)), (vI n2)].toArray)) ∧
 ((Qv (Pt 1002 0)) ∧
 True)))) ∧
 (((Qv (vI n2)) ∧
 True) ∧
 (True ∧
 (((Qv (Value.agg [(Value.slice none 0 0), (vI x7), (vI x8)].toArray)) ∧
 ((Qv (Value.agg [(Sl 501 (n4) (c4)), (vI x5)].toArray)) ∧
 ((Qv (Value.agg [(Sl 500 (n0) (c0)), (vI x1), (vI x2), (vI x3)].toArray)) ∧
 True))) ∧
 (bcase (dL n0 2 l0)
 ((Says C 8 [(D.agg [(Dw n0 2 l0), (dI x1), (dI x2), (dI x3)])] [(D.agg [(Dw n0 2 l0), (dI x1), (dI x2), (dI x3)])]) ∧
 (((Qv (Value.agg [(Value.slice none 0 0), (vI x7), (vI x8)].toArray)) ∧
 ((Qv (Value.agg [(Sl 501 (n4) (c4)), (vI x5)].toArray)) ∧
 True)) ∧
 (bcase (dL n4 1 l4)
 ((Says C 9 [(D.agg [(Dw n4 1 l4), (dI x5)])] [(D.agg [(Dw n4 1 l4), (dI x5)])]) ∧
 (((Qv (Value.agg [(Value.slice none 0 0), (vI x7), (vI x8)].toArray)) ∧
 True) ∧
 ((Says C 12 [(D.agg [D.nil, (dI x7), (dI x8)])] [(D.agg [(D.sl 0 2 []), (dI x7), (dI x8)])]) ∧
 (True ∧
 (bcase (dL n0 2 (Tk n0 2 l0))
 (bcase (dL n4 1 (Tk n4 1 l4))
 (∃ n3 : Int,
 (∃ n5 : Int,
 ((Says C 11 [(D.agg [(Dw n0 2 (Tk n0 2 l0)), (dI x1), (dI x2), (dI x3)]), (D.agg [(Dw n4 1 (Tk n4 1 l4)), (dI x5)]), (D.agg [(D.sl 0 2 []), (dI x7), (dI x8)])] [(dI n3), (dI n5)]) ∧
 (((Qv (vI n5)) ∧
 ((Qv (vI n3)) ∧
 ((Qv (Value.tuple [(vI n3), (vI n5)].toArray)) ∧
 True))) ∧
 (((Qv (vI n5)) ∧
 True) ∧
 (True ∧
 (bcase (dL n0 2 l0)
 (bcase (dL n4 1 l4)
 (∃ n6 : Int,
 ((Says C 13 [(D.agg [(Dw n0 2 l0), (dI x1), (dI x2), (dI x3)]), (D.agg [(Dw n4 1 l4), (dI x5)])] [(dI n6)]) ∧
 (bcase (n6 == 0)
 (∃ n7 : Int,
 ((Says C 14 [D.nil] [(dI n7)]) ∧
 (bcase (n7 != 0)
 (bcase (n2 == n7)
 (bcase (n5 == n7)
 (bcase ((↑n1 : Int) == 0)
 (bcase (n3 == 0)
 (k kT)
 (k kF))
 (k kF))
 (k kF))
 (k kF))
 (bcase (n2 != 0)
 (k kF)
 (bcase (dL n0 2 l0)
 (bcase (dL n4 1 l4)
 (((Says C 16 [(D.agg [(Dw n0 2 l0), (dI x1), (dI x2), (dI x3)]), (D.agg [(Dw n4 1 l4), (dI x5)]), D.nil] [D.nil]) ∧
 (bcase (dL n1 2 cs1)
 (((Says C 15 [(Dw n1 2 cs1), D.nil] kT) ∧
 (∃ n8 : Int,
 ((Says C 17 [(D.agg [D.nil, (dI x7), (dI x8)])] [(dI n8)]) ∧
 (bcase (n8 != 0)
 (bcase (n5 == n8)
 (bcase (n3 == 0)
 (k kT)
 (k kF))
 (k kF))
 (bcase (n5 == 0)
 (bcase (dL n0 2 l0)
 (bcase (dL n4 1 l4)
 (∃ n9 : Int,
 ((Says C 18 [(D.agg [(Dw n0 2 l0), (dI x1), (dI x2), (dI x3)]), (D.agg [(Dw n4 1 l4), (dI x5)]), (D.agg [D.nil, (dI x7), (dI x8)])] [(dI n9)]) ∧
 (bcase (n3 == n9)
 (k kT)
 (k kF))))
 False)
 False)
 (k kF)))))) ∨
 ((Says C 15 [(Dw n1 2 cs1), D.nil] kF) ∧
 (k kF)))
 False)) ∨
 (∃ n8 : Nat,
 (∃ cs2 : List Go.Value,
 ((Says C 16 [(D.agg [(Dw n0 2 l0), (dI x1), (dI x2), (dI x3)]), (D.agg [(Dw n4 1 l4), (dI x5)]), D.nil] [(D.sl (n8) 2 (cs2))]) ∧
 (bcase (dL n1 2 cs1)
 (bcase (dL n8 2 cs2)
 (((Says C 15 [(Dw n1 2 cs1), (Dw n8 2 cs2)] kT) ∧
 (∃ n9 : Int,
 ((Says C 17 [(D.agg [D.nil, (dI x7), (dI x8)])] [(dI n9)]) ∧
 (bcase (n9 != 0)
 (bcase (n5 == n9)
 (bcase (n3 == 0)
 (k kT)
 (k kF))
 (k kF))
 (bcase (n5 == 0)
 (bcase (dL n0 2 l0)
 (bcase (dL n4 1 l4)
 (∃ n10 : Int,
 ((Says C 18 [(D.agg [(Dw n0 2 l0), (dI x1), (dI x2), (dI x3)]), (D.agg [(Dw n4 1 l4), (dI x5)]), (D.agg [D.nil, (dI x7), (dI x8)])] [(dI n10)]) ∧
 (bcase (n3 == n10)
 (k kT)
 (k kF))))
 False)
 False)
 (k kF)))))) ∨
 ((Says C 15 [(Dw n1 2 cs1), (Dw n8 2 cs2)] kF) ∧
 (k kF)))
 False)
 False)))))
 False)
 False)))))
 (bcase (n6 != 0)
 (bcase (n2 == n6)
 (bcase (n5 == n6)
 (bcase ((↑n1 : Int) == 0)
 (bcase (n3 == 0)
 (k kT)
 (k kF))
 (k kF))
 (k kF))
 (k kF))
 (bcase (n2 != 0)
 (k kF)
 (bcase (dL n0 2 l0)
 (bcase (dL n4 1 l4)
 (((Says C 16 [(D.agg [(Dw n0 2 l0), (dI x1), (dI x2), (dI x3)]), (D.agg [(Dw n4 1 l4), (dI x5)]), D.nil] [D.nil]) ∧
 (bcase (dL n1 2 cs1)
 (((Says C 15 [(Dw n1 2 cs1), D.nil] kT) ∧
 (∃ n7 : Int,
 ((Says C 17 [(D.agg [D.nil, (dI x7), (dI x8)])] [(dI n7)]) ∧
 (bcase (n7 != 0)
 (bcase (n5 == n7)
 (bcase (n3 == 0)
 (k kT)
 (k kF))
 (k kF))
 (bcase (n5 == 0)
 (bcase (dL n0 2 l0)
 (bcase (dL n4 1 l4)
 (∃ n8 : Int,
 ((Says C 18 [(D.agg [(Dw n0 2 l0), (dI x1), (dI x2), (dI x3)]), (D.agg [(Dw n4 1 l4), (dI x5)]), (D.agg [D.nil, (dI x7), (dI x8)])] [(dI n8)]) ∧
 (bcase (n3 == n8)
 (k kT)
 (k kF))))
 False)
 False)
 (k kF)))))) ∨
 ((Says C 15 [(Dw n1 2 cs1), D.nil] kF) ∧
 (k kF)))
 False)) ∨
 (∃ n7 : Nat,
 (∃ cs2 : List Go.Value,
 ((Says C 16 [(D.agg [(Dw n0 2 l0), (dI x1), (dI x2), (dI x3)]), (D.agg [(Dw n4 1 l4), (dI x5)]), D.nil] [(D.sl (n7) 2 (cs2))]) ∧
 (bcase (dL n1 2 cs1)
 (bcase (dL n7 2 cs2)
 (((Says C 15 [(Dw n1 2 cs1), (Dw n7 2 cs2)] kT) ∧
 (∃ n8 : Int,
 ((Says C 17 [(D.agg [D.nil, (dI x7), (dI x8)])] [(dI n8)]) ∧
 (bcase (n8 != 0)
 (bcase (n5 == n8)
 (bcase (n3 == 0)
 (k kT)
 (k kF))
 (k kF))
 (bcase (n5 == 0)
 (bcase (dL n0 2 l0)
 (bcase (dL n4 1 l4)
 (∃ n9 : Int,
 ((Says C 18 [(D.agg [(Dw n0 2 l0), (dI x1), (dI x2), (dI x3)]), (D.agg [(Dw n4 1 l4), (dI x5)]), (D.agg [D.nil, (dI x7), (dI x8)])] [(dI n9)]) ∧
 (bcase (n3 == n9)
 (k kT)
 (k kF))))
 False)
 False)
 (k kF)))))) ∨
 ((Says C 15 [(Dw n1 2 cs1), (Dw n7 2 cs2)] kF) ∧
 (k kF)))
 False)
 False)))))
 False)
 False))))))
 False)
 False)))))))
 False)
 False)))))
 False)))
 False))))))))))
 False)
 False)))))
 False)))
 False))
 (k kT))
 (k kT))) ∨
 ((Says C 5 [] kF) ∧
 (k kF))) := by kernel_rfl
def gLsns (C : Ct) (L : AtLoop) (n0 : Nat) (c0 : Nat) (l0 : List Value) (x1 : Int) (x2 : Int) (x3 : Int) (x5 : Int) (n6 : Nat) (c6 : Nat) (l6 : List Value) (x7 : Int) (x8 : Int) (k : List D → Prop) : Prop := wpFn Try.prog (hL C) L 0 3 #[.agg #[.slice (some ⟨500, 0, none⟩) n0 c0, .int .i64 x1, .int .i64 x2, .int .i64 x3], .agg #[.slice none 0 0, .int .i64 x5], .agg #[.slice (some ⟨501, 0, none⟩) n6 c6, .int .i64 x7, .int .i64 x8]] (heapOf [(500, .sym l0 false 2), (501, .sym l6 false 2)]) (dataK k)
theorem gLsns_text (C : Ct) (L : AtLoop) (n0 : Nat) (c0 : Nat) (l0 : List Go.Value) (x1 : Int) (x2 : Int) (x3 : Int) (x5 : Int) (n6 : Nat) (c6 : Nat) (l6 : List Go.Value) (x7 : Int) (x8 : Int) (k : List D → Prop) : gLsns C L n0 c0 l0 x1 x2 x3 x5 n6 c6 l6 x7 x8 k =
 (((Says C 5 [] kT) ∧
 (bcase (decide ((↑n0 : Int) ≤ 12))
 (bcase (decide ((↑n6 : Int) > 7))
 (k kT)
 (((Qv (Sl 501 (n6) (c6))) ∧
 ((Qv (Pt 1002 0)) ∧
 ((Qv (Value.agg [(Value.slice none 0 0), (vI x5)].toArray)) ∧
 ((Qv (Value.agg [(Sl 500 (n0) (c0)), (vI x1), (vI x2), (vI x3)].toArray)) ∧
 True)))) ∧
 (bcase (dL n0 2 l0)
 ((Says C 8 [(D.agg [(Dw n0 2 l0), (dI x1), (dI x2), (dI x3)])] [(D.agg [(Dw n0 2 l0), (dI x1), (dI x2), (dI x3)])]) ∧
 (((Qv (Sl 501 (n6) (c6))) ∧
 ((Qv (Pt 1002 0)) ∧
 ((Qv (Value.agg [(Value.slice none 0 0), (vI x5)].toArray)) ∧
 True))) ∧
 ((Says C 9 [(D.agg [D.nil, (dI x5)])] [(D.agg [(D.sl 0 1 []), (dI x5)])]) ∧
 (((Qv (Sl 501 (n6) (c6))) ∧
 ((Qv (Pt 1002 0)) ∧
 True)) ∧
 (bcase (dL n6 2 l6)
 ((Says C 10 [(Dw n6 2 l6)] [(Dw n6 2 l6)]) ∧
 (((Qv (Pt 1002 0)) ∧
 True) ∧
 (bcase (dL n0 2 (Tk n0 2 l0))
 (bcase (dL n6 2 (Tk n6 2 l6))
 ((∃ n1 : Int,
 ((Says C 7 [(D.agg [(Dw n0 2 (Tk n0 2 l0)), (dI x1), (dI x2), (dI x3)]), (D.agg [(D.sl 0 1 []), (dI x5)]), (Dw n6 2 (Tk n6 2 l6))] [D.nil, (dI n1)]) ∧
 (((Qv (vI n1)) ∧
 ((Qv (Value.slice none 0 0)) ∧
 ((Qv (Value.tuple [(Value.slice none 0 0), (vI n1)].toArray)) ∧
 ((Qv (Pt 1002 0)) ∧
 True)))) ∧
 (((Qv (vI n1)) ∧
 True) ∧
 (True ∧
 (((Qv (Value.agg [(Sl 501 (n6) (c6)), (vI x7), (vI x8)].toArray)) ∧
 ((Qv (Value.agg [(Value.slice none 0 0), (vI x5)].toArray)) ∧
 ((Qv (Value.agg [(Sl 500 (n0) (c0)), (vI x1), (vI x2), (vI x3)].toArray)) ∧
 True))) ∧
 (bcase (dL n0 2 l0)
 ((Says C 8 [(D.agg [(Dw n0 2 l0), (dI x1), (dI x2), (dI x3)])] [(D.agg [(Dw n0 2 l0), (dI x1), (dI x2), (dI x3)])]) ∧
 (((Qv (Value.agg [(Sl 501 (n6) (c6)), (vI x7), (vI x8)].toArray)) ∧
 ((Qv (Value.agg [(Value.slice none 0 0), (vI x5)].toArray)) ∧
 True)) ∧
 ((Says C 9 [(D.agg [D.nil, (dI x5)])] [(D.agg [(D.sl 0 1 []), (dI x5)])]) ∧
 (((Qv (Value.agg [(Sl 501 (n6) (c6)), (vI x7), (vI x8)].toArray)) ∧
 True) ∧
 (bcase (dL n6 2 l6)
 ((Says C 12 [(D.agg [(Dw n6 2 l6), (dI x7), (dI x8)])] [(D.agg [(Dw n6 2 l6), (dI x7), (dI x8)])]) ∧
 (True ∧
 (bcase (dL n0 2 (Tk n0 2 l0))
 (bcase (dL n6 2 (Tk n6 2 l6))
 (∃ n2 : Int,
 (∃ n3 : Int,
 ((Says C 11 [(D.agg [(Dw n0 2 (Tk n0 2 l0)), (dI x1), (dI x2), (dI x3)]), (D.agg [(D.sl 0 1 []), (dI x5)]), (D.agg [(Dw n6 2 (Tk n6 2 l6)), (dI x7), (dI x8)])] [(dI n2), (dI n3)]) ∧
 (((Qv (vI n3)) ∧
 ((Qv (vI n2)) ∧
 ((Qv (Value.tuple [(vI n2), (vI n3)].toArray)) ∧
 True))) ∧
 (((Qv (vI n3)) ∧
 True) ∧
 (True ∧
 (bcase (dL n0 2 l0)
 (∃ n4 : Int,
 ((Says C 13 [(D.agg [(Dw n0 2 l0), (dI x1), (dI x2), (dI x3)]), (D.agg [D.nil, (dI x5)])] [(dI n4)]) ∧
 (bcase (n4 == 0)
 (bcase (dL n6 2 l6)
 (∃ n5 : Int,
 ((Says C 14 [(Dw n6 2 l6)] [(dI n5)]) ∧
 (bcase (n5 != 0)
 (bcase (n1 == n5)
 (bcase (n3 == n5)
 (bcase (n2 == 0)
 (k kT)
 (k kF))
 (k kF))
 (k kF))
 (bcase (n1 != 0)
 (k kF)
 (bcase (dL n0 2 l0)
 (bcase (dL n6 2 l6)
 (((Says C 16 [(D.agg [(Dw n0 2 l0), (dI x1), (dI x2), (dI x3)]), (D.agg [D.nil, (dI x5)]), (Dw n6 2 l6)] [D.nil]) ∧
 (((Says C 15 [D.nil, D.nil] kT) ∧
 (bcase (dL n6 2 l6)
 (∃ n7 : Int,
 ((Says C 17 [(D.agg [(Dw n6 2 l6), (dI x7), (dI x8)])] [(dI n7)]) ∧
 (bcase (n7 != 0)
 (bcase (n3 == n7)
 (bcase (n2 == 0)
 (k kT)
 (k kF))
 (k kF))
 (bcase (n3 == 0)
 (bcase (dL n0 2 l0)
 (bcase (dL n6 2 l6)
 (∃ n8 : Int,
 ((Says C 18 [(D.agg [(Dw n0 2 l0), (dI x1), (dI x2), (dI x3)]), (D.agg [D.nil, (dI x5)]), (D.agg [(Dw n6 2 l6), (dI x7), (dI x8)])] [(dI n8)]) ∧
 (bcase (n2 == n8)
 (k kT)
 (k kF))))
 False)
 False)
 (k kF)))))
 False)) ∨
 ((Says C 15 [D.nil, D.nil] kF) ∧
 (k kF)))) ∨
 (∃ n7 : Nat,
 (∃ cs1 : List Go.Value,
 ((Says C 16 [(D.agg [(Dw n0 2 l0), (dI x1), (dI x2), (dI x3)]), (D.agg [D.nil, (dI x5)]), (Dw n6 2 l6)] [(D.sl (n7) 2 (cs1))]) ∧
 (bcase (dL n7 2 cs1)
 (((Says C 15 [D.nil, (Dw n7 2 cs1)] kT) ∧
 (bcase (dL n6 2 l6)
 (∃ n8 : Int,
 ((Says C 17 [(D.agg [(Dw n6 2 l6), (dI x7), (dI x8)])] [(dI n8)]) ∧
 (bcase (n8 != 0)
 (bcase (n3 == n8)
 (bcase (n2 == 0)
 (k kT)
 (k kF))
 (k kF))
 (bcase (n3 == 0)
 (bcase (dL n0 2 l0)
 (bcase (dL n6 2 l6)
 (∃ n9 : Int,
 ((Says C 18 [(D.agg [(Dw n0 2 l0), (dI x1), (dI x2), (dI x3)]), (D.agg [D.nil, (dI x5)]), (D.agg [(Dw n6 2 l6), (dI x7), (dI x8)])] [(dI n9)]) ∧
 (bcase (n2 == n9)
 (k kT)
 (k kF))))
 False)
 False)
 (k kF)))))
 False)) ∨
 ((Says C 15 [D.nil, (Dw n7 2 cs1)] kF) ∧
 (k kF)))
 False)))))
 False)
 False)))))
 False)
 (bcase (n4 != 0)
 (bcase (n1 == n4)
 (bcase (n3 == n4)
 (bcase (n2 == 0)
 (k kT)
 (k kF))
 (k kF))
 (k kF))
 (bcase (n1 != 0)
 (k kF)
 (bcase (dL n0 2 l0)
 (bcase (dL n6 2 l6)
 (((Says C 16 [(D.agg [(Dw n0 2 l0), (dI x1), (dI x2), (dI x3)]), (D.agg [D.nil, (dI x5)]), (Dw n6 2 l6)] [D.nil]) ∧
 (((Says C 15 [D.nil, D.nil] kT) ∧
 (bcase (dL n6 2 l6)
 (∃ n5 : Int,
 ((Says C 17 [(D.agg [(Dw n6 2 l6), (dI x7), (dI x8)])] [(dI n5)]) ∧
 (bcase (n5 != 0)
 (bcase (n3 == n5)
 (bcase (n2 == 0)
 (k kT)
 (k kF))
 (k kF))
 (bcase (n3 == 0)
 (bcase (dL n0 2 l0)
 (bcase (dL n6 2 l6)
 (∃ n7 : Int,
 ((Says C 18 [(D.agg [(Dw n0 2 l0), (dI x1), (dI x2), (dI x3)]), (D.agg [D.nil, (dI x5)]), (D.agg [(Dw n6 2 l6), (dI x7), (dI x8)])] [(dI n7)]) ∧
 (bcase (n2 == n7)
 (k kT)
 (k kF))))
 False)
 False)
 (k kF)))))
 False)) ∨
 ((Says C 15 [D.nil, D.nil] kF) ∧
 (k kF)))) ∨
 (∃ n5 : Nat,
 (∃ cs1 : List Go.Value,
 ((Says C 16 [(D.agg [(Dw n0 2 l0), (dI x1), (dI x2), (dI x3)]), (D.agg [D.nil, (dI x5)]), (Dw n6 2 l6)] [(D.sl (n5) 2 (cs1))]) ∧
 (bcase (dL n5 2 cs1)
 (((Says C 15 [D.nil, (Dw n5 2 cs1)] kT) ∧
 (bcase (dL n6 2 l6)
 (∃ n7 : Int,
 ((Says C 17 [(D.agg [(Dw n6 2 l6), (dI x7), (dI x8)])] [(dI n7)]) ∧
 (bcase (n7 != 0)
 (bcase (n3 == n7)
 (bcase (n2 == 0)
 (k kT)
 (k kF))
 (k kF))
 (bcase (n3 == 0)
 (bcase (dL n0 2 l0)
 (bcase (dL n6 2 l6)
 (∃ n8 : Int,
 ((Says C 18 [(D.agg [(Dw n0 2 l0), (dI x1), (dI x2), (dI x3)]), (D.agg [D.nil, (dI x5)]), (D.agg [(Dw n6 2 l6), (dI x7), (dI x8)])] [(dI n8)]) ∧
 (bcase (n2 == n8)
 (k kT)
 (k kF))))
 False)
 False)
 (k kF)))))
 False)) ∨
 ((Says C 15 [D.nil, (Dw n5 2 cs1)] kF) ∧
 (k kF)))
 False)))))
 False)
 False))))))
 False)))))))
 False)
 False)))
 False)))))
 False))))))) ∨
 (∃ n1 : Nat,
 (∃ cs1 : List Go.Value,
 (∃ n2 : Int,
 ((Says C 7 [(D.agg [(Dw n0 2 (Tk n0 2 l0)), (dI x1), (dI x2), (dI x3)]), (D.agg [(D.sl 0 1 []), (dI x5)]), (Dw n6 2 (Tk n6 2 l6))] [(D.sl (n1) 2 (cs1)), (dI n2)]) ∧
 (((Qv (vI n2)) ∧
 ((Qv (Sl 1009 (n1) (n1))) ∧
 ((Qv (Value.tuple [(Sl 1009 (n1) (n1)), (vI n2)].toArray)) ∧
 ((Qv (Pt 1002 0)) ∧
 True)))) ∧
 (((Qv (vI n2)) ∧
 True) ∧
 (True ∧
 (((Qv (Value.agg [(Sl 501 (n6) (c6)), (vI x7), (vI x8)].toArray)) ∧
 ((Qv (Value.agg [(Value.slice none 0 0), (vI x5)].toArray)) ∧
 ((Qv (Value.agg [(Sl 500 (n0) (c0)), (vI x1), (vI x2), (vI x3)].toArray)) ∧
 True))) ∧
 (bcase (dL n0 2 l0)
 ((Says C 8 [(D.agg [(Dw n0 2 l0), (dI x1), (dI x2), (dI x3)])] [(D.agg [(Dw n0 2 l0), (dI x1), (dI x2), (dI x3)])]) ∧
 (((Qv (Value.agg [(Sl 501 (n6) (c6)), (vI x7), (vI x8)].toArray)) ∧
 ((Qv (Value.agg [(Value.slice none 0 0), (vI x5)].toArray)) ∧
 True)) ∧
 ((Says C 9 [(D.agg [D.nil, (dI x5)])] [(D.agg [(D.sl 0 1 []), (dI x5)])]) ∧
 (((Qv (Value.agg [(Sl 501 (n6) (c6)), (vI x7), (vI x8)].toArray)) ∧
 True) ∧
 (bcase (dL n6 2 l6)
 ((Says C 12 [(D.agg [(Dw n6 2 l6), (dI x7), (dI x8)])] [(D.agg [(Dw n6 2 l6), (dI x7), (dI x8)])]) ∧
 (True ∧
 (bcase (dL n0 2 (Tk n0 2 l0))
 (bcase (dL n6 2 (Tk n6 2 l6))
 (∃ n3 : Int,
 (∃ n4 : Int,
 ((Says C 11 [(D.agg [(Dw n0 2 (Tk n0 2 l0)), (dI x1), (dI x2), (dI x3)]), (D.agg [(D.sl 0 1 []), (dI x5)]), (D.agg [(Dw n6 2 (Tk n6 2 l6)), (dI x7), (dI x8)])] [(dI n3), (dI n4)]) ∧
 (((Qv (vI n4)) ∧
 ((Qv (vI n3)) ∧
 ((Qv (Value.tuple [(vI n3), (vI n4)].toArray)) ∧
 True))) ∧
 (((Qv (vI n4)) ∧
 True) ∧
 (True ∧
 (bcase (dL n0 2 l0)
 (∃ n5 : Int,
 ((Says C 13 [(D.agg [(Dw n0 2 l0), (dI x1), (dI x2), (dI x3)]), (D.agg [D.nil, (dI x5)])] [(dI n5)]) ∧
 (bcase (n5 == 0)
 (bcase (dL n6 2 l6)
 (∃ n7 : Int,
 ((Says C 14 [(Dw n6 2 l6)] [(dI n7)]) ∧
 (bcase (n7 != 0)
 (bcase (n2 == n7)
 (bcase (n4 == n7)
 (bcase ((↑n1 : Int) == 0)
 (bcase (n3 == 0)
 (k kT)
 (k kF))
 (k kF))
 (k kF))
 (k kF))
 (bcase (n2 != 0)
 (k kF)
 (bcase (dL n0 2 l0)
 (bcase (dL n6 2 l6)
 (((Says C 16 [(D.agg [(Dw n0 2 l0), (dI x1), (dI x2), (dI x3)]), (D.agg [D.nil, (dI x5)]), (Dw n6 2 l6)] [D.nil]) ∧
 (bcase (dL n1 2 cs1)
 (((Says C 15 [(Dw n1 2 cs1), D.nil] kT) ∧
 (bcase (dL n6 2 l6)
 (∃ n8 : Int,
 ((Says C 17 [(D.agg [(Dw n6 2 l6), (dI x7), (dI x8)])] [(dI n8)]) ∧
 (bcase (n8 != 0)
 (bcase (n4 == n8)
 (bcase (n3 == 0)
 (k kT)
 (k kF))
 (k kF))
 (bcase (n4 == 0)
 (bcase (dL n0 2 l0)
 (bcase (dL n6 2 l6)
 (∃ n9 : Int,
 ((Says C 18 [(D.agg [(Dw n0 2 l0), (dI x1), (dI x2), (dI x3)]), (D.agg [D.nil, (dI x5)]), (D.agg [(Dw n6 2 l6), (dI x7), (dI x8)])] [(dI n9)]) ∧
 (bcase (n3 == n9)
 (k kT)
 (k kF))))
 False)
 False)
 (k kF)))))
 False)) ∨
 ((Says C 15 [(Dw n1 2 cs1), D.nil] kF) ∧
 (k kF)))
 False)) ∨
 (∃ n8 : Nat,
 (∃ cs2 : List Go.Value,
 ((Says C 16 [(D.agg [(Dw n0 2 l0), (dI x1), (dI x2), (dI x3)]), (D.agg [D.nil, (dI x5)]), (Dw n6 2 l6)] [(D.sl (n8) 2 (cs2))]) ∧
 (bcase (dL n1 2 cs1)
 (bcase (dL n8 2 cs2)
 (((Says C 15 [(Dw n1 2 cs1), (Dw n8 2 cs2)] kT) ∧
 (bcase (dL n6 2 l6)
 (∃ n9 : Int,
 ((Says C 17 [(D.agg [(Dw n6 2 l6), (dI x7), (dI x8)])] [(dI n9)]) ∧
 (bcase (n9 != 0)
 (bcase (n4 == n9)
 (bcase (n3 == 0)
 (k kT)
 (k kF))
 (k kF))
 (bcase (n4 == 0)
 (bcase (dL n0 2 l0)
 (bcase (dL n6 2 l6)
 (∃ n10 : Int,
 ((Says C 18 [(D.agg [(Dw n0 2 l0), (dI x1), (dI x2), (dI x3)]), (D.agg [D.nil, (dI x5)]), (D.agg [(Dw n6 2 l6), (dI x7), (dI x8)])] [(dI n10)]) ∧
 (bcase (n3 == n10)
 (k kT)
 (k kF))))
 False)
 False)
 (k kF)))))
 False)) ∨
 ((Says C 15 [(Dw n1 2 cs1), (Dw n8 2 cs2)] kF) ∧
 (k kF)))
 False)
 False)))))
 False)
 False)))))
 False)
 (bcase (n5 != 0)
 (bcase (n2 == n5)
 (bcase (n4 == n5)
 (bcase ((↑n1 : Int) == 0)
 (bcase (n3 == 0)
 (k kT)
 (k kF))
 (k kF))
 (k kF))
 (k kF))
 (bcase (n2 != 0)
 (k kF)
 (bcase (dL n0 2 l0)
 (bcase (dL n6 2 l6)
 (((Says C 16 [(D.agg [(Dw n0 2 l0), (dI x1), (dI x2), (dI x3)]), (D.agg [D.nil, (dI x5)]), (Dw n6 2 l6)] [D.nil]) ∧
 (bcase (dL n1 2 cs1)
 (((Says C 15 [(Dw n1 2 cs1), D.nil] kT) ∧
 (bcase (dL n6 2 l6)
 (∃ n7 : Int,
 ((Says C 17 [(D.agg [(Dw n6 2 l6), (dI x7), (dI x8)])] [(dI n7)]) ∧
 (bcase (n7 != 0)
 (bcase (n4 == n7)
 (bcase (n3 == 0)
 (k kT)
 (k kF))
 (k kF))
 (bcase (n4 == 0)
 (bcase (dL n0 2 l0)
 (bcase (dL n6 2 l6)
 (∃ n8 : Int,
 ((Says C 18 [(D.agg [(Dw n0 2 l0), (dI x1), (dI x2), (dI x3)]), (D.agg [D.nil, (dI x5)]), (D.agg [(Dw n6 2 l6), (dI x7), (dI x8)])] [(dI n8)]) ∧
 (bcase (n3 == n8)
 (k kT)
 (k kF))))
 False)
 False)
 (k kF)))))
 False)) ∨
 ((Says C 15 [(Dw n1 2 cs1), D.nil] kF) ∧
 (k kF)))
 False)) ∨
 (∃ n7 : Nat,
 (∃ cs2 : List Go.Value,
 ((Says C 16 [(D.agg [(Dw n0 2 l0), (dI x1), (dI x2), (dI x3)]), (D.agg [D.nil, (dI x5)]), (Dw n6 2 l6)] [(D.sl (n7) 2 (cs2))]) ∧
 (bcase (dL n1 2 cs1)
 (bcase (dL n7 2 cs2)
 (((Says C 15 [(Dw n1 2 cs1), (Dw n7 2 cs2)] kT) ∧
 (bcase (dL n6 2 l6)
 (∃ n8 : Int,
 ((Says C 17 [(D.agg [(Dw n6 2 l6), (dI x7), (dI x8)])] [(dI n8)]) ∧
 (bcase (n8 != 0)
 (bcase (n4 == n8)
 (bcase (n3 == 0)
 (k kT)
 (k kF))
 (k kF))
 (bcase (n4 == 0)
 (bcase (dL n0 2 l0)
 (bcase (dL n6 2 l6)
 (∃ n9 : Int,
 ((Says C 18 [(D.agg [(Dw n0 2 l0), (dI x1), (dI x2), (dI x3)]), (D.agg [D.nil, (dI x5)]), (D.agg [(Dw n6 2 l6), (dI x7), (dI x8)])] [(dI n9)]) ∧
 (bcase (n3 == n9)
 (k kT)
 (k kF))))
 False)
 False)
 (k kF)))))
 False)) ∨
 ((Says C 15 [(Dw n1 2 cs1), (Dw n7 2 cs2)] kF) ∧
 (k kF)))
 False)
 False)))))
 False)
 False))))))
 False)))))))
 False)
 False)))
 False)))))
 False))))))))))
 False)
 False)))
 False)))))
 False)))
 (k kT))) ∨
 ((Says C 5 [] kF) ∧
 (k kF))) := by kernel_rfl
def gLsnn (C : Ct) (L : AtLoop) (n0 : Nat) (c0 : Nat) (l0 : List Value) (x1 : Int) (x2 : Int) (x3 : Int) (x5 : Int) (x7 : Int) (x8 : Int) (k : List D → Prop) : Prop := wpFn Try.prog (hL C) L 0 3 #[.agg #[.slice (some ⟨500, 0, none⟩) n0 c0, .int .i64 x1, .int .i64 x2, .int .i64 x3], .agg #[.slice none 0 0, .int .i64 x5], .agg #[.slice none 0 0, .int .i64 x7, .int .i64 x8]] (heapOf [(500, .sym l0 false 2)]) (dataK k)
theorem gLsnn_text (C : Ct) (L : AtLoop) (n0 : Nat) (c0 : Nat) (l0 : List Go.Value) (x1 : Int) (x2 : Int) (x3 : Int) (x5 : Int) (x7 : Int) (x8 : Int) (k : List D → Prop) : gLsnn C L n0 c0 l0 x1 x2 x3 x5 x7 x8 k =
 (((Says C 5 [] kT) ∧
 (bcase (decide ((↑n0 : Int) ≤ 12))
 (((Qv (Value.slice none 0 0)) ∧
 ((Qv (Pt 1002 0)) ∧
 ((Qv (Value.agg [(Value.slice none 0 0), (vI x5)].toArray)) ∧
 ((Qv (Value.agg [(Sl 500 (n0) (c0)), (vI x1), (vI x2), (vI x3)].toArray)) ∧
 True)))) ∧
 (bcase (dL n0 2 l0)
 ((Says C 8 [(D.agg [(Dw n0 2 l0), (dI x1), (dI x2), (dI x3)])] [(D.agg [(Dw n0 2 l0), (dI x1), (dI x2), (dI x3)])]) ∧
 (((Qv (Value.slice none 0 0)) ∧
 ((Qv (Pt 1002 0)) ∧
 ((Qv (Value.agg [(Value.slice none 0 0), (vI x5)].toArray)) ∧
 True))) ∧
 ((Says C 9 [(D.agg [D.nil, (dI x5)])] [(D.agg [(D.sl 0 1 []), (dI x5)])]) ∧
 (((Qv (Value.slice none 0 0)) ∧
 ((Qv (Pt 1002 0)) ∧
 True)) ∧
 ((Says C 10 [D.nil] [(D.sl 0 2 [])]) ∧
 (((Qv (Pt 1002 0)) ∧
 True) ∧
 (bcase (dL n0 2 (Tk n0 2 l0))
 ((∃ n1 : Int,
 ((Says C 7 [(D.agg [(Dw n0 2 (Tk n0 2 l0)), (dI x1), (dI x2), (dI x3)]), (D.agg [(D.sl 0 1 []), (dI x5)]), (D.sl 0 2 [])] [D.nil, (dI n1)]) ∧
 (((Qv (vI n1)) ∧
 ((Qv (Value.slice none 0 0)) ∧
 ((Qv (Value.tuple [(Value.slice none 0 0), (vI n1)].toArray)) ∧
 ((Qv (Pt 1002 0)) ∧
 True)))) ∧
 (((Qv (vI n1)) ∧
 True) ∧
 (True ∧
 (((Qv (Value.agg [(Value.slice none 0 0), (vI x7), (vI x8)].toArray)) ∧
 ((Qv (Value.agg [(Value.slice none 0 0), (vI x5)].toArray)) ∧
 ((Qv (Value.agg [(Sl 500 (n0) (c0)), (vI x1), (vI x2), (vI x3)].toArray)) ∧
 True))) ∧
 (bcase (dL n0 2 l0)
 ((Says C 8 [(D.agg [(Dw n0 2 l0), (dI x1), (dI x2), (dI x3)])] [(D.agg [(Dw n0 2 l0), (dI x1), (dI x2), (dI x3)])]) ∧
 (((Qv (Value.agg [(Value.slice none 0 0), (vI x7), (vI x8)].toArray)) ∧
 ((Qv (Value.agg [(Value.slice none 0 0), (vI x5)].toArray)) ∧
 True)) ∧
 ((Says C 9 [(D.agg [D.nil, (dI x5)])] [(D.agg [(D.sl 0 1 []), (dI x5)])]) ∧
 (((Qv (Value.agg [(Value.slice none 0 0), (vI x7), (vI x8)].toArray)) ∧
 True) ∧
 ((Says C 12 [(D.agg [D.nil, (dI x7), (dI x8)])] [(D.agg [(D.sl 0 2 []), (dI x7), (dI x8)])]) ∧
 (True ∧
 (bcase (dL n0 2 (Tk n0 2 l0))
 (∃ n2 : Int,
 (∃ n3 : Int,
 ((Says C 11 [(D.agg [(Dw n0 2 (Tk n0 2 l0)), (dI x1), (dI x2), (dI x3)]), (D.agg [(D.sl 0 1 []), (dI x5)]), (D.agg [(D.sl 0 2 []), (dI x7), (dI x8)])] [(dI n2), (dI n3)]) ∧
 (((Qv (vI n3)) ∧
 ((Qv (vI n2)) ∧
 ((Qv (Value.tuple [(vI n2), (vI n3)].toArray)) ∧
 True))) ∧
 (((Qv (vI n3)) ∧
 True) ∧
 (True ∧
 (bcase (dL n0 2 l0)
 (∃ n4 : Int,
 ((Says C 13 [(D.agg [(Dw n0 2 l0), (dI x1), (dI x2), (dI x3)]), (D.agg [D.nil, (dI x5)])] [(dI n4)]) ∧
 (bcase (n4 == 0)
 (∃ n5 : Int,
 ((Says C 14 [D.nil] [(dI n5)]) ∧
 (bcase (n5 != 0)
 (bcase (n1 == n5)
 (bcase (n3 == n5)
 (bcase (n2 == 0)
 (k kT)
 (k kF))
 (k kF))
 (k kF))
 (bcase (n1 != 0)
 (k kF)
 (bcase (dL n0 2 l0)
 (((Says C 16 [(D.agg [(Dw n0 2 l0), (dI x1), (dI x2), (dI x3)]), (D.agg [D.nil, (dI x5)]), D.nil] [D.nil]) ∧
 (((Says C 15 [D.nil, D.nil] kT) ∧
 (∃ n6 : Int,
 ((Says C 17 [(D.agg [D.nil, (dI x7), (dI x8)])] [(dI n6)]) ∧
 (bcase (n6 != 0)
 (bcase (n3 == n6)
 (bcase (n2 == 0)
 (k kT)
 (k kF))
 (k kF))
 (bcase (n3 == 0)
 (bcase (dL n0 2 l0)
 (∃ n7 : Int,
 ((Says C 18 [(D.agg [(Dw n0 2 l0), (dI x1), (dI x2), (dI x3)]), (D.agg [D.nil, (dI x5)]), (D.agg [D.nil, (dI x7), (dI x8)])] [(dI n7)]) ∧
 (bcase (n2 == n7)
 (k kT)
 (k kF))))
 False)
 (k kF)))))) ∨
 ((Says C 15 [D.nil, D.nil] kF) ∧
 (k kF)))) ∨
 (∃ n6 : Nat,
 (∃ cs1 : List Go.Value,
 ((Says C 16 [(D.agg [(Dw n0 2 l0), (dI x1), (dI x2), (dI x3)]), (D.agg [D.nil, (dI x5)]), D.nil] [(D.sl (n6) 2 (cs1))]) ∧
 (bcase (dL n6 2 cs1)
 (((Says C 15 [D.nil, (Dw n6 2 cs1)] kT) ∧
 (∃ n7 : Int,
 ((Says C 17 [(D.agg [D.nil, (dI x7), (dI x8)])] [(dI n7)]) ∧
 (bcase (n7 != 0)
 (bcase (n3 == n7)
 (bcase (n2 == 0)
 (k kT)
 (k kF))
 (k kF))
 (bcase (n3 == 0)
 (bcase (dL n0 2 l0)
 (∃ n8 : Int,
 ((Says C 18 [(D.agg [(Dw n0 2 l0), (dI x1), (dI x2), (dI x3)]), (D.agg [D.nil, (dI x5)]), (D.agg [D.nil, (dI x7), (dI x8)])] [(dI n8)]) ∧
 (bcase (n2 == n8)
 (k kT)
 (k kF))))
 False)
 (k kF)))))) ∨
 ((Says C 15 [D.nil, (Dw n6 2 cs1)] kF) ∧
 (k kF)))
 False)))))
 False)))))
 (bcase (n4 != 0)
 (bcase (n1 == n4)
 (bcase (n3 == n4)
 (bcase (n2 == 0)
 (k kT)
 (k kF))
 (k kF))
 (k kF))
 (bcase (n1 != 0)
 (k kF)
 (bcase (dL n0 2 l0)
 (((Says C 16 [(D.agg [(Dw n0 2 l0), (dI x1), (dI x2), (dI x3)]), (D.agg [D.nil, (dI x5)]), D.nil] [D.nil]) ∧
 (((Says C 15 [D.nil, D.nil] kT) ∧
 (∃ n5 : Int,
 ((Says C 17 [(D.agg [D.nil, (dI x7), (dI x8)])] [(dI n5)]) ∧
 (bcase (n5 != 0)
 (bcase (n3 == n5)
 (bcase (n2 == 0)
 (k kT)
 (k kF))
 (k kF))
 (bcase (n3 == 0)
 (bcase (dL n0 2 l0)
 (∃ n6 : Int,
 ((Says C 18 [(D.agg [(Dw n0 2 l0), (dI x1), (dI x2), (dI x3)]), (D.agg [D.nil, (dI x5)]), (D.agg [D.nil, (dI x7), (dI x8)])] [(dI n6)]) ∧
 (bcase (n2 == n6)
 (k kT)
 (k kF))))
 False)
 (k kF)))))) ∨
 ((Says C 15 [D.nil, D.nil] kF) ∧
 (k kF)))) ∨
 (∃ n5 : Nat,
 (∃ cs1 : List Go.Value,
 ((Says C 16 [(D.agg [(Dw n0 2 l0), (dI x1), (dI x2), (dI x3)]), (D.agg [D.nil, (dI x5)]), D.nil] [(D.sl (n5) 2 (cs1))]) ∧
 (bcase (dL n5 2 cs1)
 (((Says C 15 [D.nil, (Dw n5 2 cs1)] kT) ∧
 (∃ n6 : Int,
 ((Says C 17 [(D.agg [D.nil, (dI x7), (dI x8)])] [(dI n6)]) ∧
 (bcase (n6 != 0)
 (bcase (n3 == n6)
 (bcase (n2 == 0)
 (k kT)
 (k kF))
 (k kF))
 (bcase (n3 == 0)
 (bcase (dL n0 2 l0)
 (∃ n7 : Int,
 ((Says C 18 [(D.agg [(Dw n0 2 l0), (dI x1), (dI x2), (dI x3)]), (D.agg [D.nil, (dI x5)]), (D.agg [D.nil, (dI x7), (dI x8)])] [(dI n7)]) ∧
 (bcase (n2 == n7)
 (k kT)
 (k kF))))
 False)
 (k kF)))))) ∨
 ((Says C 15 [D.nil, (Dw n5 2 cs1)] kF) ∧
 (k kF)))
 False)))))
 False))))))
 False)))))))
 False)))))))
 False))))))) ∨
 (∃ n1 : Nat,
 (∃ cs1 : List Go.Value,
 (∃ n2 : Int,
 ((Says C 7 [(D.agg [(Dw n0 2 (Tk n0 2 l0)), (dI x1), (dI x2), (dI x3)]), (D.agg [(D.sl 0 1 []), (dI x5)]), (D.sl 0 2 [])] [(D.sl (n1) 2 (cs1)), (dI n2)]) ∧
 (((Qv (vI n2)) ∧
 ((Qv (Sl 1009 (n1) (n1))) ∧
 ((Qv (Value.tuple [(Sl 1009 (n1) (n1)), (vI n2)].toArray)) ∧
 ((Qv (Pt 1002 0)) ∧
 True)))) ∧
 (((Qv (vI n2)) ∧
 True) ∧
 (True ∧
 (((Qv (Value.agg [(Value.slice none 0 0), (vI x7), (vI x8)].toArray)) ∧
 ((Qv (Value.agg [(Value.slice none 0 0), (vI x5)].toArray)) ∧
 ((Qv (Value.agg [(Sl 500 (n0) (c0)), (vI x1), (vI x2), (vI x3)].toArray)) ∧
 True))) ∧
 (bcase (dL n0 2 l0)
 ((Says C 8 [(D.agg [(Dw n0 2 l0), (dI x1), (dI x2), (dI x3)])] [(D.agg [(Dw n0 2 l0), (dI x1), (dI x2), (dI x3)])]) ∧
 (((Qv (Value.agg [(Value.slice none 0 0), (vI x7), (vI x8)].toArray)) ∧
 ((Qv (Value.agg [(Value.slice none 0 0), (vI x5)].toArray)) ∧
 True)) ∧
 ((Says C 9 [(D.agg [D.nil, (dI x5)])] [(D.agg [(D.sl 0 1 []), (dI x5)])]) ∧
 (((Qv (Value.agg [(Value.slice none 0 0), (vI x7), (vI x8)].toArray)) ∧
 True) ∧
 ((Says C 12 [(D.agg [D.nil, (dI x7), (dI x8)])] [(D.agg [(D.sl 0 2 []), (dI x7), (dI x8)])]) ∧
 (True ∧
 (bcase (dL n0 2 (Tk n0 2 l0))
 (∃ n3 : Int,
 (∃ n4 : Int,
 ((Says C 11 [(D.agg [(Dw n0 2 (Tk n0 2 l0)), (dI x1), (dI x2), (dI x3)]), (D.agg [(D.sl 0 1 []), (dI x5)]), (D.agg [(D.sl 0 2 []), (dI x7), (dI x8)])] [(dI n3), (dI n4)]) ∧
 (((Qv (vI n4)) ∧
 ((Qv (vI n3)) ∧
 ((Qv (Value.tuple [(vI n3), (vI n4)].toArray)) ∧
 True))) ∧
 (((Qv (vI n4)) ∧
 True) ∧
 (True ∧
 (bcase (dL n0 2 l0)
 (∃ n5 : Int,
 ((Says C 13 [(D.agg [(Dw n0 2 l0), (dI x1), (dI x2), (dI x3)]), (D.agg [D.nil, (dI x5)])] [(dI n5)]) ∧
 (bcase (n5 == 0)
 (∃ n6 : Int,
 ((Says C 14 [D.nil] [(dI n6)]) ∧
 (bcase (n6 != 0)
 (bcase (n2 == n6)
 (bcase (n4 == n6)
 (bcase ((↑n1 : Int) == 0)
 (bcase (n3 == 0)
 (k kT)
 (k kF))
 (k kF))
 (k kF))
 (k kF))
 (bcase (n2 != 0)
 (k kF)
 (bcase (dL n0 2 l0)
 (((Says C 16 [(D.agg [(Dw n0 2 l0), (dI x1), (dI x2), (dI x3)]), (D.agg [D.nil, (dI x5)]), D.nil] [D.nil]) ∧
 (bcase (dL n1 2 cs1)
 (((Says C 15 [(Dw n1 2 cs1), D.nil] kT) ∧
 (∃ n7 : Int,
 ((Says C 17 [(D.agg [D.nil, (dI x7), (dI x8)])] [(dI n7)]) ∧
 (bcase (n7 != 0)
 (bcase (n4 == n7)
 (bcase (n3 == 0)
 (k kT)
 (k kF))
 (k kF))
 (bcase (n4 == 0)
 (bcase (dL n0 2 l0)
 (∃ n8 : Int,
 ((Says C 18 [(D.agg [(Dw n0 2 l0), (dI x1), (dI x2), (dI x3)]), (D.agg [D.nil, (dI x5)]), (D.agg [D.nil, (dI x7), (dI x8)])] [(dI n8)]) ∧
 (bcase (n3 == n8)
 (k kT)
 (k kF))))
 False)
 (k kF)))))) ∨
 ((Says C 15 [(Dw n1 2 cs1), D.nil] kF) ∧
 (k kF)))
 False)) ∨
 (∃ n7 : Nat,
 (∃ cs2 : List Go.Value,
 ((Says C 16 [(D.agg [(Dw n0 2 l0), (dI x1), (dI x2), (dI x3)]), (D.agg [D.nil, (dI x5)]), D.nil] [(D.sl (n7) 2 (cs2))]) ∧
 (bcase (dL n1 2 cs1)
 (bcase (dL n7 2 cs2)
 (((Says C 15 [(Dw n1 2 cs1), (Dw n7 2 cs2)] kT) ∧
 (∃ n8 : Int,
 ((Says C 17 [(D.agg [D.nil, (dI x7), (dI x8)])] [(dI n8)]) ∧
 (bcase (n8 != 0)
 (bcase (n4 == n8)
 (bcase (n3 == 0)
 (k kT)
 (k kF))
 (k kF))
 (bcase (n4 == 0)
 (bcase (dL n0 2 l0)
 (∃ n9 : Int,
 ((Says C 18 [(D.agg [(Dw n0 2 l0), (dI x1), (dI x2), (dI x3)]), (D.agg [D.nil, (dI x5)]), (D.agg [D.nil, (dI x7), (dI x8)])] [(dI n9)]) ∧
 (bcase (n3 == n9)
 (k kT)
 (k kF))))
 False)
 (k kF)))))) ∨
 ((Says C 15 [(Dw n1 2 cs1), (Dw n7 2 cs2)] kF) ∧
 (k kF)))
 False)
 False)))))
 False)))))
 (bcase (n5 != 0)
 (bcase (n2 == n5)
 (bcase (n4 == n5)
 (bcase ((↑n1 : Int) == 0)
 (bcase (n3 == 0)
 (k kT)
 (k kF))
 (k kF))
 (k kF))
 (k kF))
 (bcase (n2 != 0)
 (k kF)
 (bcase (dL n0 2 l0)
 (((Says C 16 [(D.agg [(Dw n0 2 l0), (dI x1), (dI x2), (dI x3)]), (D.agg [D.nil, (dI x5)]), D.nil] [D.nil]) ∧
 (bcase (dL n1 2 cs1)
 (((Says C 15 [(Dw n1 2 cs1), D.nil] kT) ∧
 (∃ n6 : Int,
 ((Says C 17 [(D.agg [D.nil, (dI x7), (dI x8)])] [(dI n6)]) ∧
 (bcase (n6 != 0)
 (bcase (n4 == n6)
 (bcase (n3 == 0)
 (k kT)
 (k kF))
 (k kF))
 (bcase (n4 == 0)
 (bcase (dL n0 2 l0)
 (∃ n7 : Int,
 ((Says C 18 [(D.agg [(Dw n0 2 l0), (dI x1), (dI x2), (dI x3)]), (D.agg [D.nil, (dI x5)]), (D.agg [D.nil, (dI x7), (dI x8)])] [(dI n7)]) ∧
 (bcase (n3 == n7)
 (k kT)
 (k kF))))
 False)
 (k kF)))))) ∨
 ((Says C 15 [(Dw n1 2 cs1), D.nil] kF) ∧
 (k kF)))
 False)) ∨
 (∃ n6 : Nat,
 (∃ cs2 : List Go.Value,
 ((Says C 16 [(D.agg [(Dw n0 2 l0), (dI x1), (dI x2), (dI x3)]), (D.agg [D.nil, (dI x5)]), D.nil] [(D.sl (n6) 2 (cs2))]) ∧
 (bcase (dL n1 2 cs1)
 (bcase (dL n6 2 cs2)
 (((Says C 15 [(Dw n1 2 cs1), (Dw n6 2 cs2)] kT) ∧
 (∃ n7 : Int,
 ((Says C 17 [(D.agg [D.nil, (dI x7), (dI x8)])] [(dI n7)]) ∧
 (bcase (n7 != 0)
 (bcase (n4 == n7)
 (bcase (n3 == 0)
 (k kT)
 (k kF))
 (k kF))
 (bcase (n4 == 0)
 (bcase (dL n0 2 l0)
 (∃ n8 : Int,
 ((Says C 18 [(D.agg [(Dw n0 2 l0), (dI x1), (dI x2), (dI x3)]), (D.agg [D.nil, (dI x5)]), (D.agg [D.nil, (dI x7), (dI x8)])] [(dI n8)]) ∧
 (bcase (n3 == n8)
 (k kT)
 (k kF))))
 False)
 (k kF)))))) ∨
 ((Says C 15 [(Dw n1 2 cs1), (Dw n6 2 cs2)] kF) ∧
 (k kF)))
 False)
 False)))))
 False))))))
 False)))))))
 False)))))))
 False))))))))))
 False)))))))
 False))
 (k kT))) ∨
 ((Says C 5 [] kF) ∧
 (k kF))) := by kernel_rfl
def gLnss (C : Ct) (L : AtLoop) (x1 : Int) (x2 : Int) (x3 : Int) (n4 : Nat) (c4 : Nat) (l4 : List Value) (x5 : Int) (n6 : Nat) (c6 : Nat) (l6 : List Value) (x7 : Int) (x8 : Int) (k : List D → Prop) : Prop := wpFn Try.prog (hL C) L 0 3 #[.agg #[.slice none 0 0, .int .i64 x1, .int .i64 x2, .int .i64 x3], .agg #[.slice (some ⟨500, 0, none⟩) n4 c4, .int .i64 x5], .agg #[.slice (some ⟨501, 0, none⟩) n6 c6, .int .i64 x7, .int .i64 x8]] (heapOf [(500, .sym l4 false 1), (501, .sym l6 false 2)]) (dataK k)
theorem gLnss_text (C : Ct) (L : AtLoop) (x1 : Int) (x2 : Int) (x3 : Int) (n4 : Nat) (c4 : Nat) (l4 : List Go.Value) (x5 : Int) (n6 : Nat) (c6 : Nat) (l6 : List Go.Value) (x7 : Int) (x8 : Int) (k : List D → Prop) : gLnss C L x1 x2 x3 n4 c4 l4 x5 n6 c6 l6 x7 x8 k =
 (((Says C 5 [] kT) ∧
 (bcase (decide ((↑n4 : Int) ≤ 10))
 (bcase (decide ((↑n6 : Int) > 7))
 (k kT)
 (((Qv (Sl 501 (n6) (c6))) ∧
 ((Qv (Pt 1002 0)) ∧
 ((Qv (Value.agg [(Sl 500 (n4) (c4)), (vI x5)].toArray)) ∧
 ((Qv (Value.agg [(Value.slice none 0 0), (vI x1), (vI x2), (vI x3)].toArray)) ∧
 True)))) ∧
 ((Says C 8 [(D.agg [D.nil, (dI x1), (dI x2), (dI x3)])] [(D.agg [(D.sl 0 2 []), (dI x1), (dI x2), (dI x3)])]) ∧
 (((Qv (Sl 501 (n6) (c6))) ∧
 ((Qv (Pt 1002 0)) ∧
 ((Qv (Value.agg [(Sl 500 (n4) (c4)), (vI x5)].toArray)) ∧
 True))) ∧
 (bcase (dL n4 1 l4)
 ((Says C 9 [(D.agg [(Dw n4 1 l4), (dI x5)])] [(D.agg [(Dw n4 1 l4), (dI x5)])]) ∧
 (((Qv (Sl 501 (n6) (c6))) ∧
 ((Qv (Pt 1002 0)) ∧
 True)) ∧
 (bcase (dL n6 2 l6)
 ((Says C 10 [(Dw n6 2 l6)] [(Dw n6 2 l6)]) ∧
 (((Qv (Pt 1002 0)) ∧
 True) ∧
 (bcase (dL n4 1 (Tk n4 1 l4))
 (bcase (dL n6 2 (Tk n6 2 l6))
 ((∃ n1 : Int,
 ((Says C 7 [(D.agg [(D.sl 0 2 []), (dI x1), (dI x2), (dI x3)]), (D.agg [(Dw n4 1 (Tk n4 1 l4)), (dI x5)]), (Dw n6 2 (Tk n6 2 l6))] [D.nil, (dI n1)]) ∧
 (((Qv (vI n1)) ∧
 ((Qv (Value.slice none 0 0)) ∧
 ((Qv (Value.tuple [(Value.slice none 0 0), (vI n1)].toArray)) ∧
 ((Qv (Pt 1002 0)) ∧
 True)))) ∧
 (((Qv (vI n1)) ∧
 True) ∧
 (True ∧
 (((Qv (Value.agg [(Sl 501 (n6) (c6)), (vI x7), (vI x8)].toArray)) ∧
 ((Qv (Value.agg [(Sl 500 (n4) (c4)), (vI x5)].toArray)) ∧
 ((Qv (Value.agg [(Value.slice none 0 0), (vI x1), (vI x2), (vI x3)].toArray)) ∧
 True))) ∧
 ((Says C 8 [(D.agg [D.nil, (dI x1), (dI x2), (dI x3)])] [(D.agg [(D.sl 0 2 []), (dI x1), (dI x2), (dI x3)])]) ∧
 (((Qv (Value.agg [(Sl 501 (n6) (c6)), (vI x7), (vI x8)].toArray)) ∧
 ((Qv (Value.agg [(Sl 500 (n4) (c4)), (vI x5)].toArray)) ∧
 True)) ∧
 (bcase (dL n4 1 l4)
 ((Says C 9 [(D.agg [(Dw n4 1 l4), (dI x5)])] [(D.agg [(Dw n4 1 l4), (dI x5)])]) ∧
 (((Qv (Value.agg [(Sl 501 (n6) (c6)), (vI x7), (vI x8)].toArray)) ∧
 True) ∧
 (bcase (dL n6 2 l6)
 ((Says C 12 [(D.agg [(Dw n6 2 l6), (dI x7), (dI x8)])] [(D.agg [(Dw n6 2 l6), (dI x7), (dI x8)])]) ∧
 (True ∧
 (bcase (dL n4 1 (Tk n4 1 l4))
 (bcase (dL n6 2 (Tk n6 2 l6))
 (∃ n2 : Int,
 (∃ n3 : Int,
 ((Says C 11 [(D.agg [(D.sl 0 2 []), (dI x1), (dI x2), (dI x3)]), (D.agg [(Dw n4 1 (Tk n4 1 l4)), (dI x5)]), (D.agg [(Dw n6 2 (Tk n6 2 l6)), (dI x7), (dI x8)])] [(dI n2), (dI n3)]) ∧
 (((Qv (vI n3)) ∧
 ((Qv (vI n2)) ∧
 ((Qv (Value.tuple [(vI n2), (vI n3)].toArray)) ∧
 True))) ∧
 (((Qv (vI n3)) ∧
 True) ∧
 (True ∧
 (bcase (dL n4 1 l4)
 (∃ n5 : Int,
 ((Says C 13 [(D.agg [D.nil, (dI x1), (dI x2), (dI x3)]), (D.agg [(Dw n4 1 l4), (dI x5)])] [(dI n5)]) ∧
 (bcase (n5 == 0)
 (bcase (dL n6 2 l6)
 (∃ n7 : Int,
 ((Says C 14 [(Dw n6 2 l6)] [(dI n7)]) ∧
 (bcase (n7 != 0)
 (bcase (n1 == n7)
 (bcase (n3 == n7)
 (bcase (n2 == 0)
 (k kT)
 (k kF))
 (k kF))
 (k kF))
 (bcase (n1 != 0)
 (k kF)
 (bcase (dL n4 1 l4)
 (bcase (dL n6 2 l6)
 (((Says C 16 [(D.agg [D.nil, (dI x1), (dI x2), (dI x3)]), (D.agg [(Dw n4 1 l4), (dI x5)]), (Dw n6 2 l6)] [D.nil]) ∧
 (((Says C 15 [D.nil, D.nil] kT) ∧
 (bcase (dL n6 2 l6)
 (∃ n8 : Int,
 ((Says C 17 [(D.agg [(Dw n6 2 l6), (dI x7), (dI x8)])] [(dI n8)]) ∧
 (bcase (n8 != 0)
 (bcase (n3 == n8)
 (bcase (n2 == 0)
 (k kT)
 (k kF))
 (k kF))
 (bcase (n3 == 0)
 (bcase (dL n4 1 l4)
 (bcase (dL n6 2 l6)
 (∃ n9 : Int,
 ((Says C 18 [(D.agg [D.nil, (dI x1), (dI x2), (dI x3)]), (D.agg [(Dw n4 1 l4), (dI x5)]), (D.agg [(Dw n6 2 l6), (dI x7), (dI x8)])] [(dI n9)]) ∧
 (bcase (n2 == n9)
 (k kT)
 (k kF))))
 False)
 False)
 (k kF)))))
 False)) ∨
 ((Says C 15 [D.nil, D.nil] kF) ∧
 (k kF)))) ∨
 (∃ n8 : Nat,
 (∃ cs1 : List Go.Value,
 ((Says C 16 [(D.agg [D.nil, (dI x1), (dI x2), (dI x3)]), (D.agg [(Dw n4 1 l4), (dI x5)]), (Dw n6 2 l6)] [(D.sl (n8) 2 (cs1))]) ∧
 (bcase (dL n8 2 cs1)
 (((Says C 15 [D.nil, (Dw n8 2 cs1)] kT) ∧
 (bcase (dL n6 2 l6)
 (∃ n9 : Int,
 ((Says C 17 [(D.agg [(Dw n6 2 l6), (dI x7), (dI x8)])] [(dI n9)]) ∧
 (bcase (n9 != 0)
 (bcase (n3 == n9)
 (bcase (n2 == 0)
 (k kT)
 (k kF))
 (k kF))
 (bcase (n3 == 0)
 (bcase (dL n4 1 l4)
 (bcase (dL n6 2 l6)
 (∃ n10 : Int,
 ((Says C 18 [(D.agg [D.nil, (dI x1), (dI x2), (dI x3)]), (D.agg [(Dw n4 1 l4), (dI x5)]), (D.agg [(Dw n6 2 l6), (dI x7), (dI x8)])] [(dI n10)]) ∧
 (bcase (n2 == n10)
 (k kT)
 (k kF))))
 False)
 False)
 (k kF)))))
 False)) ∨
 ((Says C 15 [D.nil, (Dw n8 2 cs1)] kF) ∧
 (k kF)))
 False)))))
 False)
 False)))))
 False)
 (bcase (n5 != 0)
 (bcase (n1 == n5)
 (bcase (n3 == n5)
 (bcase (n2 == 0)
 (k kT)
 (k kF))
 (k kF))
 (k kF))
 (bcase (n1 != 0)
 (k kF)
 (bcase (dL n4 1 l4)
 (bcase (dL n6 2 l6)
 (((Says C 16 [(D.agg [D.nil, (dI x1), (dI x2), (dI x3)]), (D.agg [(Dw n4 1 l4), (dI x5)]), (Dw n6 2 l6)] [D.nil]) ∧
 (((Says C 15 [D.nil, D.nil] kT) ∧
 (bcase (dL n6 2 l6)
 (∃ n7 : Int,
 ((Says C 17 [(D.agg [(Dw n6 2 l6), (dI x7), (dI x8)])] [(dI n7)]) ∧
 (bcase (n7 != 0)
 (bcase (n3 == n7)
 (bcase (n2 == 0)
 (k kT)
 (k kF))
 (k kF))
 (bcase (n3 == 0)
 (bcase (dL n4 1 l4)
 (bcase (dL n6 2 l6)
 (∃ n8 : Int,
 ((Says C 18 [(D.agg [D.nil, (dI x1), (dI x2), (dI x3)]), (D.agg [(Dw n4 1 l4), (dI x5)]), (D.agg [(Dw n6 2 l6), (dI x7), (dI x8)])] [(dI n8)]) ∧
 (bcase (n2 == n8)
 (k kT)
 (k kF))))
 False)
 False)
 (k kF)))))
 False)) ∨
 ((Says C 15 [D.nil, D.nil] kF) ∧
 (k kF)))) ∨
 (∃ n7 : Nat,
 (∃ cs1 : List Go.Value,
 ((Says C 16 [(D.agg [D.nil, (dI x1), (dI x2), (dI x3)]), (D.agg [(Dw n4 1 l4), (dI x5)]), (Dw n6 2 l6)] [(D.sl (n7) 2 (cs1))]) ∧
 (bcase (dL n7 2 cs1)
 (((Says C 15 [D.nil, (Dw n7 2 cs1)] kT) ∧
 (bcase (dL n6 2 l6)
 (∃ n8 : Int,
 ((Says C 17 [(D.agg [(Dw n6 2 l6), (dI x7), (dI x8)])] [(dI n8)]) ∧
 (bcase (n8 != 0)
 (bcase (n3 == n8)
 (bcase (n2 == 0)
 (k kT)
 (k kF))
 (k kF))
 (bcase (n3 == 0)
 (bcase (dL n4 1 l4)
 (bcase (dL n6 2 l6)
 (∃ n9 : Int,
 ((Says C 18 [(D.agg [D.nil, (dI x1), (dI x2), (dI x3)]), (D.agg [(Dw n4 1 l4), (dI x5)]), (D.agg [(Dw n6 2 l6), (dI x7), (dI x8)])] [(dI n9)]) ∧
 (bcase (n2 == n9)
 (k kT)
 (k kF))))
 False)
 False)
 (k kF)))))
 False)) ∨
 ((Says C 15 [D.nil, (Dw n7 2 cs1)] kF) ∧
 (k kF)))
 False)))))
 False)
 False))))))
 False)))))))
 False)
 False)))
 False)))
 False))))))))) ∨
 (∃ n1 : Nat,
 (∃ cs1 : List Go.Value,
 (∃ n2 : Int,
 ((Says C 7 [(D.agg [(D.sl 0 2 []), (dI x1), (dI x2), (dI x3)]), (D.agg [(Dw n4 1 (Tk n4 1 l4)), (dI x5)]), (Dw n6 2 (Tk n6 2 l6))] [(D.sl (n1) 2 (cs1)), (dI n2)]) ∧
 (((Qv (vI n2)) ∧
 ((Qv (Sl 1009 (n1) (n1))) ∧
 ((Qv (Value.tuple [(Sl 1009 (n1) (n1)), (vI n2)].toArray)) ∧
 ((Qv (Pt 1002 0)) ∧
 True)))) ∧
 (((Qv (vI n2)) ∧
 True) ∧
 (True ∧
 (((Qv (Value.agg [(Sl 501 (n6) (c6)), (vI x7), (vI x8)].toArray)) ∧
 ((Qv (Value.agg [(Sl 500 (n4) (c4)), (vI x5)].toArray)) ∧
 ((Qv (Value.agg [(Value.slice none 0 0), (vI x1), (vI x2), (vI x3)].toArray)) ∧
 True))) ∧
 ((Says C 8 [(D.agg [D.nil, (dI x1), (dI x2), (dI x3)])] [(D.agg [(D.sl 0 2 []), (dI x1), (dI x2), (dI x3)])]) ∧
 (((Qv (Value.agg [(Sl 501 (n6) (c6)), (vI x7), (vI x8)].toArray)) ∧
 ((Qv (Value.agg [(Sl 500 (n4) (c4)), (vI x5)].toArray)) ∧
 True)) ∧
 (bcase (dL n4 1 l4)
 ((Says C 9 [(D.agg [(Dw n4 1 l4), (dI x5)])] [(D.agg [(Dw n4 1 l4), (dI x5)])]) ∧
 (((Qv (Value.agg [(Sl 501 (n6) (c6)), (vI x7), (vI x8)].toArray)) ∧
 True) ∧
 (bcase (dL n6 2 l6)
 ((Says C 12 [(D.agg [(Dw n6 2 l6), (dI x7), (dI x8)])] [(D.agg [(Dw n6 2 l6), (dI x7), (dI x8)])]) ∧
 (True ∧
 (bcase (dL n4 1 (Tk n4 1 l4))
 (bcase (dL n6 2 (Tk n6 2 l6))
 (∃ n3 : Int,
 (∃ n5 : Int,
 ((Says C 11 [(D.agg [(D.sl 0 2 []), (dI x1), (dI x2), (dI x3)]), (D.agg [(Dw n4 1 (Tk n4 1 l4)), (dI x5)]), (D.agg [(Dw n6 2 (Tk n6 2 l6)), (dI x7), (dI x8)])] [(dI n3), (dI n5)]) ∧
 (((Qv (vI n5)) ∧
 ((Qv (vI n3)) ∧
 ((Qv (Value.tuple [(vI n3), (vI n5)].toArray)) ∧
 True))) ∧
 (((Qv (vI n5)) ∧
 True) ∧
 (True ∧
 (bcase (dL n4 1 l4)
 (∃ n7 : Int,
 ((Says C 13 [(D.agg [D.nil, (dI x1), (dI x2), (dI x3)]), (D.agg [(Dw n4 1 l4), (dI x5)])] [(dI n7)]) ∧
 (bcase (n7 == 0)
 (bcase (dL n6 2 l6)
 (∃ n8 : Int,
 ((Says C 14 [(Dw n6 2 l6)] [(dI n8)]) ∧
 (bcase (n8 != 0)
 (bcase (n2 == n8)
 (bcase (n5 == n8)
 (bcase ((↑n1 : Int) == 0)
 (bcase (n3 == 0)
 (k kT)
 (k kF))
 (k kF))
 (k kF))
 (k kF))
 (bcase (n2 != 0)
 (k kF)
 (bcase (dL n4 1 l4)
 (bcase (dL n6 2 l6)
 (((Says C 16 [(D.agg [D.nil, (dI x1), (dI x2), (dI x3)]), (D.agg [(Dw n4 1 l4), (dI x5)]), (Dw n6 2 l6)] [D.nil]) ∧
 (bcase (dL n1 2 cs1)
 (((Says C 15 [(Dw n1 2 cs1), D.nil] kT) ∧
 (bcase (dL n6 2 l6)
 (∃ n9 : Int,
 ((Says C 17 [(D.agg [(Dw n6 2 l6), (dI x7), (dI x8)])] [(dI n9)]) ∧
 (bcase (n9 != 0)
 (bcase (n5 == n9)
 (bcase (n3 == 0)
 (k kT)
 (k kF))
 (k kF))
 (bcase (n5 == 0)
 (bcase (dL n4 1 l4)
 (bcase (dL n6 2 l6)
 (∃ n10 : Int,
 ((Says C 18 [(D.agg [D.nil, (dI x1), (dI x2), (dI x3)]), (D.agg [(Dw n4 1 l4), (dI x5)]), (D.agg [(Dw n6 2 l6), (dI x7), (dI x8)])] [(dI n10)]) ∧
 (bcase (n3 == n10)
 (k kT)
 (k kF))))
 False)
 False)
 (k kF)))))
 False)) ∨
 ((Says C 15 [(Dw n1 2 cs1), D.nil] kF) ∧
 (k kF)))
 False)) ∨
 (∃ n9 : Nat,
 (∃ cs2 : List Go.Value,
 ((Says C 16 [(D.agg [D.nil, (dI x1), (dI x2), (dI x3)]), (D.agg [(Dw n4 1 l4), (dI x5)]), (Dw n6 2 l6)] [(D.sl (n9) 2 (cs2))]) ∧
 (bcase (dL n1 2 cs1)
 (bcase (dL n9 2 cs2)
 (((Says C 15 [(Dw n1 2 cs1), (Dw n9 2 cs2)] kT) ∧
 (bcase (dL n6 2 l6)
 (∃ n10 : Int,
 ((Says C 17 [(D.agg [(Dw n6 2 l6), (dI x7), (dI x8)])] [(dI n10)]) ∧
 (bcase (n10 != 0)
 (bcase (n5 == n10)
 (bcase (n3 == 0)
 (k kT)
 (k kF))
 (k kF))
 (bcase (n5 == 0)
 (bcase (dL n4 1 l4)
 (bcase (dL n6 2 l6)
 (∃ n11 : Int,
 ((Says C 18 [(D.agg [D.nil, (dI x1), (dI x2), (dI x3)]), (D.agg [(Dw n4 1 l4), (dI x5)]), (D.agg [(Dw n6 2 l6), (dI x7), (dI x8)])] [(dI n11)]) ∧
 (bcase (n3 == n11)
 (k kT)
 (k kF))))
 False)
 False)
 (k kF)))))
 False)) ∨
 ((Says C 15 [(Dw n1 2 cs1), (Dw n9 2 cs2)] kF) ∧
 (k kF)))
 False)
 False)))))
 False)
 False)))))
 False)
 (bcase (n7 != 0)
 (bcase (n2 == n7)
 (bcase (n5 == n7)
 (bcase ((↑n1 : Int) == 0)
 (bcase (n3 == 0)
 (k kT)
 (k kF))
 (k kF))
 (k kF))
 (k kF))
 (bcase (n2 != 0)
 (k kF)
 (bcase (dL n4 1 l4)
 (bcase (dL n6 2 l6)
 (((Says C 16 [(D.agg [D.nil, (dI x1), (dI x2), (dI x3)]), (D.agg [(Dw n4 1 l4), (dI x5)]), (Dw n6 2 l6)] [D.nil]) ∧
 (bcase (dL n1 2 cs1)
 (((Says C 15 [(Dw n1 2 cs1), D.nil] kT) ∧
 (bcase (dL n6 2 l6)
 (∃ n8 : Int,
 ((Says C 17 [(D.agg [(Dw n6 2 l6), (dI x7), (dI x8)])] [(dI n8)]) ∧
 (bcase (n8 != 0)
 (bcase (n5 == n8)
 (bcase (n3 == 0)
 (k kT)
 (k kF))
 (k kF))
 (bcase (n5 == 0)
 (bcase (dL n4 1 l4)
 (bcase (dL n6 2 l6)
 (∃ n9 : Int,
 ((Says C 18 [(D.agg [D.nil, (dI x1), (dI x2), (dI x3)]), (D.agg [(Dw n4 1 l4), (dI x5)]), (D.agg [(Dw n6 2 l6), (dI x7), (dI x8)])] [(dI n9)]) ∧
 (bcase (n3 == n9)
 (k kT)
 (k kF))))
 False)
 False)
 (k kF)))))
 False)) ∨
 ((Says C 15 [(Dw n1 2 cs1), D.nil] kF) ∧
 (k kF)))
 False)) ∨
 (∃ n8 : Nat,
 (∃ cs2 : List Go.Value,
 ((Says C 16 [(D.agg [D.nil, (dI x1), (dI x2), (dI x3)]), (D.agg [(Dw n4 1 l4), (dI x5)]), (Dw n6 2 l6)] [(D.sl (n8) 2 (cs2))]) ∧
 (bcase (dL n1 2 cs1)
 (bcase (dL n8 2 cs2)
 (((Says C 15 [(Dw n1 2 cs1), (Dw n8 2 cs2)] kT) ∧
 (bcase (dL n6 2 l6)
 (∃ n9 : Int,
 ((Says C 17 [(D.agg [(Dw n6 2 l6), (dI x7), (dI x8)])] [(dI n9)]) ∧
 (bcase (n9 != 0)
 (bcase (n5 == n9)
 (bcase (n3 == 0)
 (k kT)
 (k kF))
 (k kF))
 (bcase (n5 == 0)
 (bcase (dL n4 1 l4)
 (bcase (dL n6 2 l6)
 (∃ n10 : Int,
 ((Says C 18 [(D.agg [D.nil, (dI x1), (dI x2), (dI x3)]), (D.agg [(Dw n4 1 l4), (dI x5)]), (D.agg [(Dw n6 2 l6), (dI x7), (dI x8)])] [(dI n10)]) ∧
 (bcase (n3 == n10)
 (k kT)
 (k kF))))
 False)
 False)
 (k kF)))))
 False)) ∨
 ((Says C 15 [(Dw n1 2 cs1), (Dw n8 2 cs2)] kF) ∧
 (k kF)))
 False)
 False)))))
 False)
 False))))))
 False)))))))
 False)
 False)))
 False)))
 False))))))))))))
 False)
 False)))
 False)))
 False)))))
 (k kT))) ∨
 ((Says C 5 [] kF) ∧
 (k kF))) := by kernel_rfl
def gLnsn (C : Ct) (L : AtLoop) (x1 : Int) (x2 : Int) (x3 : Int) (n4 : Nat) (c4 : Nat) (l4 : List Value) (x5 : Int) (x7 : Int) (x8 : Int) (k : List D → Prop) : Prop := wpFn Try.prog (hL C) L 0 3 #[.agg #[.slice none 0 0, .int .i64 x1, .int .i64 x2, .int .i64 x3], .agg #[.slice (some ⟨500, 0, none⟩) n4 c4, .int .i64 x5], .agg #[.slice none 0 0, .int .i64 x7, .int .i64 x8]] (heapOf [(500, .sym l4 false 1)]) (dataK k)
theorem gLnsn_text (C : Ct) (L : AtLoop) (x1 : Int) (x2 : Int) (x3 : Int) (n4 : Nat) (c4 : Nat) (l4 : List Go.Value) (x5 : Int) (x7 : Int) (x8 : Int) (k : List D → Prop) : gLnsn C L x1 x2 x3 n4 c4 l4 x5 x7 x8 k =
 (((Says C 5 [] kT) ∧
 (bcase (decide ((↑n4 : Int) ≤ 10))
 (((Qv (Value.slice none 0 0)) ∧
 ((Qv (Pt 1002 0)) ∧
 ((Qv (Value.agg [(Sl 500 (n4) (c4)), (vI x5)].toArray)) ∧
 ((Qv (Value.agg [(Value.slice none 0 0), (vI x1), (vI x2), (vI x3)].toArray)) ∧
 True)))) ∧
 ((Says C 8 [(D.agg [D.nil, (dI x1), (dI x2), (dI x3)])] [(D.agg [(D.sl 0 2 []), (dI x1), (dI x2), (dI x3)])]) ∧
 (((Qv (Value.slice none 0 0)) ∧
 ((Qv (Pt 1002 0)) ∧
 ((Qv (Value.agg [(Sl 500 (n4) (c4)), (vI x5)].toArray)) ∧
 True))) ∧
 (bcase (dL n4 1 l4)
 ((Says C 9 [(D.agg [(Dw n4 1 l4), (dI x5)])] [(D.agg [(Dw n4 1 l4), (dI x5)])]) ∧
 (((Qv (Value.slice none 0 0)) ∧
 ((Qv (Pt 1002 0)) ∧
 True)) ∧
 ((Says C 10 [D.nil] [(D.sl 0 2 [])]) ∧
 (((Qv (Pt 1002 0)) ∧
 True) ∧
 (bcase (dL n4 1 (Tk n4 1 l4))
 ((∃ n1 : Int,
 ((Says C 7 [(D.agg [(D.sl 0 2 []), (dI x1), (dI x2), (dI x3)]), (D.agg [(Dw n4 1 (Tk n4 1 l4)), (dI x5)]), (D.sl 0 2 [])] [D.nil, (dI n1)]) ∧
 (((Qv (vI n1)) ∧
 ((Qv (Value.slice none 0 0)) ∧
 ((Qv (Value.tuple [(Value.slice none 0 0), (vI n1)].toArray)) ∧
 ((Qv (Pt 1002 0)) ∧
 True)))) ∧
 (((Qv (vI n1)) ∧
 True) ∧
 (True ∧
 (((Qv (Value.agg [(Value.slice none 0 0), (vI x7), (vI x8)].toArray)) ∧
 ((Qv (Value.agg [(Sl 500 (n4) (c4)), (vI x5)].toArray)) ∧
 ((Qv (Value.agg [(Value.slice none 0 0), (vI x1), (vI x2), (vI x3)].toArray)) ∧
 True))) ∧
 ((Says C 8 [(D.agg [D.nil, (dI x1), (dI x2), (dI x3)])] [(D.agg [(D.sl 0 2 []), (dI x1), (dI x2), (dI x3)])]) ∧
 (((Qv (Value.agg [(Value.slice none 0 0), (vI x7), (vI x8)].toArray)) ∧
 ((Qv (Value.agg [(Sl 500 (n4) (c4)), (vI x5)].toArray)) ∧
 True)) ∧
 (bcase (dL n4 1 l4)
 ((Says C 9 [(D.agg [(Dw n4 1 l4), (dI x5)])] [(D.agg [(Dw n4 1 l4), (dI x5)])]) ∧
 (((Qv (Value.agg [(Value.slice none 0 0), (vI x7), (vI x8)].toArray)) ∧
 True) ∧
 ((Says C 12 [(D.agg [D.nil, (dI x7), (dI x8)])] [(D.agg [(D.sl 0 2 []), (dI x7), (dI x8)])]) ∧
 (True ∧
 (bcase (dL n4 1 (Tk n4 1 l4))
 (∃ n2 : Int,
 (∃ n3 : Int,
 ((Says C 11 [(D.agg [(D.sl 0 2 []), (dI x1), (dI x2), (dI x3)]), (D.agg [(Dw n4 1 (Tk n4 1 l4)), (dI x5)]), (D.agg [(D.sl 0 2 []), (dI x7), (dI x8)])] [(dI n2), (dI n3)]) ∧
 (((Qv (vI n3)) ∧
 ((Qv (vI n2)) ∧
 ((Qv (Value.tuple [(vI n2), (vI n3)].toArray)) ∧
 True))) ∧
 (((Qv (vI n3)) ∧
 True) ∧
 (True ∧
 (bcase (dL n4 1 l4)
 (∃ n5 : Int,
 ((Says C 13 [(D.agg [D.nil, (dI x1), (dI x2), (dI x3)]), (D.agg [(Dw n4 1 l4), (dI x5)])] [(dI n5)]) ∧
 (bcase (n5 == 0)
 (∃ n6 : Int,
 ((Says C 14 [D.nil] [(dI n6)]) ∧
 (bcase (n6 != 0)
 (bcase (n1 == n6)
 (bcase (n3 == n6)
 (bcase (n2 == 0)
 (k kT)
 (k kF))
 (k kF))
 (k kF))
 (bcase (n1 != 0)
 (k kF)
 (bcase (dL n4 1 l4)
 (((Says C 16 [(D.agg [D.nil, (dI x1), (dI x2), (dI x3)]), (D.agg [(Dw n4 1 l4), (dI x5)]), D.nil] [D.nil]) ∧
 (((Says C 15 [D.nil, D.nil] kT) ∧
 (∃ n7 : Int,
 ((Says C 17 [(D.agg [D.nil, (dI x7), (dI x8)])] [(dI n7)]) ∧
 (bcase (n7 != 0)
 (bcase (n3 == n7)
 (bcase (n2 == 0)
 (k kT)
 (k kF))
 (k kF))
 (bcase (n3 == 0)
 (bcase (dL n4 1 l4)
 (∃ n8 : Int,
 ((Says C 18 [(D.agg [D.nil, (dI x1), (dI x2), (dI x3)]), (D.agg [(Dw n4 1 l4), (dI x5)]), (D.agg [D.nil, (dI x7), (dI x8)])] [(dI n8)]) ∧
 (bcase (n2 == n8)
 (k kT)
 (k kF))))
 False)
 (k kF)))))) ∨
 ((Says C 15 [D.nil, D.nil] kF) ∧
 (k kF)))) ∨
 (∃ n7 : Nat,
 (∃ cs1 : List Go.Value,
 ((Says C 16 [(D.agg [D.nil, (dI x1), (dI x2), (dI x3)]), (D.agg [(Dw n4 1 l4), (dI x5)]), D.nil] [(D.sl (n7) 2 (cs1))]) ∧
 (bcase (dL n7 2 cs1)
 (((Says C 15 [D.nil, (Dw n7 2 cs1)] kT) ∧
 (∃ n8 : Int,
 ((Says C 17 [(D.agg [D.nil, (dI x7), (dI x8)])] [(dI n8)]) ∧
 (bcase (n8 != 0)
 (bcase (n3 == n8)
 (bcase (n2 == 0)
 (k kT)
 (k kF))
 (k kF))
 (bcase (n3 == 0)
 (bcase (dL n4 1 l4)
 (∃ n9 : Int,
 ((Says C 18 [(D.agg [D.nil, (dI x1), (dI x2), (dI x3)]), (D.agg [(Dw n4 1 l4), (dI x5)]), (D.agg [D.nil, (dI x7), (dI x8)])] [(dI n9)]) ∧
 (bcase (n2 == n9)
 (k kT)
 (k kF))))
 False)
 (k kF)))))) ∨
 ((Says C 15 [D.nil, (Dw n7 2 cs1)] kF) ∧
 (k kF)))
 False)))))
 False)))))
 (bcase (n5 != 0)
 (bcase (n1 == n5)
 (bcase (n3 == n5)
 (bcase (n2 == 0)
 (k kT)
 (k kF))
 (k kF))
 (k kF))
 (bcase (n1 != 0)
 (k kF)
 (bcase (dL n4 1 l4)
 (((Says C 16 [(D.agg [D.nil, (dI x1), (dI x2), (dI x3)]), (D.agg [(Dw n4 1 l4), (dI x5)]), D.nil] [D.nil]) ∧
 (((Says C 15 [D.nil, D.nil] kT) ∧
 (∃ n6 : Int,
 ((Says C 17 [(D.agg [D.nil, (dI x7), (dI x8)])] [(dI n6)]) ∧
 (bcase (n6 != 0)
 (bcase (n3 == n6)
 (bcase (n2 == 0)
 (k kT)
 (k kF))
 (k kF))
 (bcase (n3 == 0)
 (bcase (dL n4 1 l4)
 (∃ n7 : Int,
 ((Says C 18 [(D.agg [D.nil, (dI x1), (dI x2), (dI x3)]), (D.agg [(Dw n4 1 l4), (dI x5)]), (D.agg [D.nil, (dI x7), (dI x8)])] [(dI n7)]) ∧
 (bcase (n2 == n7)
 (k kT)
 (k kF))))
 False)
 (k kF)))))) ∨
 ((Says C 15 [D.nil, D.nil] kF) ∧
 (k kF)))) ∨
 (∃ n6 : Nat,
 (∃ cs1 : List Go.Value,
 ((Says C 16 [(D.agg [D.nil, (dI x1), (dI x2), (dI x3)]), (D.agg [(Dw n4 1 l4), (dI x5)]), D.nil] [(D.sl (n6) 2 (cs1))]) ∧
 (bcase (dL n6 2 cs1)
 (((Says C 15 [D.nil, (Dw n6 2 cs1)] kT) ∧
 (∃ n7 : Int,
 ((Says C 17 [(D.agg [D.nil, (dI x7), (dI x8)])] [(dI n7)]) ∧
 (bcase (n7 != 0)
 (bcase (n3 == n7)
 (bcase (n2 == 0)
 (k kT)
 (k kF))
 (k kF))
 (bcase (n3 == 0)
 (bcase (dL n4 1 l4)
 (∃ n8 : Int,
 ((Says C 18 [(D.agg [D.nil, (dI x1), (dI x2), (dI x3)]), (D.agg [(Dw n4 1 l4), (dI x5)]), (D.agg [D.nil, (dI x7), (dI x8)])] [(dI n8)]) ∧
 (bcase (n2 == n8)
 (k kT)
 (k kF))))
 False)
 (k kF)))))) ∨
 ((Says C 15 [D.nil, (Dw n6 2 cs1)] kF) ∧
 (k kF)))
 False)))))
 False))))))
 False)))))))
 False)))))
 False))))))))) ∨
 (∃ n1 : Nat,
 (∃ cs1 : List Go.Value,
 (∃ n2 : Int,
 ((Says C 7 [(D.agg [(D.sl 0 2 []), (dI x1), (dI x2), (dI x3)]), (D.agg [(Dw n4 1 (Tk n4 1 l4)), (dI x5)]), (D.sl 0 2 [])] [(D.sl (n1) 2 (cs1)), (dI n2)]) ∧
 (((Qv (vI n2)) ∧
 ((Qv (Sl 1009 (n1) (n1))) ∧
 ((Qv (Value.tuple [(Sl 1009 (n1) (n1)), (vI n2)].toArray)) ∧
 ((Qv (Pt 1002 0)) ∧
 True)))) ∧
 (((Qv (vI n2)) ∧
 True) ∧
 (True ∧
 (((Qv (Value.agg [(Value.slice none 0 0), (vI x7), (vI x8)].toArray)) ∧
 ((Qv (Value.agg [(Sl 500 (n4) (c4)), (vI x5)].toArray)) ∧
 ((Qv (Value.agg [(Value.slice none 0 0), (vI x1), (vI x2), (vI x3)].toArray)) ∧
 True))) ∧
 ((Says C 8 [(D.agg [D.nil, (dI x1), (dI x2), (dI x3)])] [(D.agg [(D.sl 0 2 []), (dI x1), (dI x2), (dI x3)])]) ∧
 (((Qv (Value.agg [(Value.slice none 0 0), (vI x7), (vI x8)].toArray)) ∧
 ((Qv (Value.agg [(Sl 500 (n4) (c4)), (vI x5)].toArray)) ∧
 True)) ∧
 (bcase (dL n4 1 l4)
 ((Says C 9 [(D.agg [(Dw n4 1 l4), (dI x5)])] [(D.agg [(Dw n4 1 l4), (dI x5)])]) ∧
 (((Qv (Value.agg [(Value.slice none 0 0), (vI x7), (vI x8)].toArray)) ∧
 True) ∧
 ((Says C 12 [(D.agg [D.nil, (dI x7), (dI x8)])] [(D.agg [(D.sl 0 2 []), (dI x7), (dI x8)])]) ∧
 (True ∧
 (bcase (dL n4 1 (Tk n4 1 l4))
 (∃ n3 : Int,
 (∃ n5 : Int,
 ((Says C 11 [(D.agg [(D.sl 0 2 []), (dI x1), (dI x2), (dI x3)]), (D.agg [(Dw n4 1 (Tk n4 1 l4)), (dI x5)]), (D.agg [(D.sl 0 2 []), (dI x7), (dI x8)])] [(dI n3), (dI n5)]) ∧
 (((Qv (vI n5)) ∧
 ((Qv (vI n3)) ∧
 ((Qv (Value.tuple [(vI n3), (vI n5)].toArray)) ∧
 True))) ∧
 (((Qv (vI n5)) ∧
 True) ∧
 (True ∧
 (bcase (dL n4 1 l4)
 (∃ n6 : Int,
 ((Says C 13 [(D.agg [D.nil, (dI x1), (dI x2), (dI x3)]), (D.agg [(Dw n4 1 l4), (dI x5)])] [(dI n6)]) ∧
 (bcase (n6 == 0)
 (∃ n7 : Int,
 ((Says C 14 [D.nil] [(dI n7)]) ∧
 (bcase (n7 != 0)
 (bcase (n2 == n7)
 (bcase (n5 == n7)
 (bcase ((↑n1 : Int) == 0)
 (bcase (n3 == 0)
 (k kT)
 (k kF))
 (k kF))
 (k kF))
 (k kF))
 (bcase (n2 != 0)
 (k kF)
 (bcase (dL n4 1 l4)
 (((Says C 16 [(D.agg [D.nil, (dI x1), (dI x2), (dI x3)]), (D.agg [(Dw n4 1 l4), (dI x5)]), D.nil] [D.nil]) ∧
 (bcase (dL n1 2 cs1)
 (((Says C 15 [(Dw n1 2 cs1), D.nil] kT) ∧
 (∃ n8 : Int,
 ((Says C 17 [(D.agg [D.nil, (dI x7), (dI x8)])] [(dI n8)]) ∧
 (bcase (n8 != 0)
 (bcase (n5 == n8)
 (bcase (n3 == 0)
 (k kT)
 (k kF))
 (k kF))
 (bcase (n5 == 0)
 (bcase (dL n4 1 l4)
 (∃ n9 : Int,
 ((Says C 18 [(D.agg [D.nil, (dI x1), (dI x2), (dI x3)]), (D.agg [(Dw n4 1 l4), (dI x5)]), (D.agg [D.nil, (dI x7), (dI x8)])] [(dI n9)]) ∧
 (bcase (n3 == n9)
 (k kT)
 (k kF))))
 False)
 (k kF)))))) ∨
 ((Says C 15 [(Dw n1 2 cs1), D.nil] kF) ∧
 (k kF)))
 False)) ∨
 (∃ n8 : Nat,
 (∃ cs2 : List Go.Value,
 ((Says C 16 [(D.agg [D.nil, (dI x1), (dI x2), (dI x3)]), (D.agg [(Dw n4 1 l4), (dI x5)]), D.nil] [(D.sl (n8) 2 (cs2))]) ∧
 (bcase (dL n1 2 cs1)
 (bcase (dL n8 2 cs2)
 (((Says C 15 [(Dw n1 2 cs1), (Dw n8 2 cs2)] kT) ∧
 (∃ n9 : Int,
 ((Says C 17 [(D.agg [D.nil, (dI x7), (dI x8)])] [(dI n9)]) ∧
 (bcase (n9 != 0)
 (bcase (n5 == n9)
 (bcase (n3 == 0)
 (k kT)
 (k kF))
 (k kF))
 (bcase (n5 == 0)
 (bcase (dL n4 1 l4)
 (∃ n10 : Int,
 ((Says C 18 [(D.agg [D.nil, (dI x1), (dI x2), (dI x3)]), (D.agg [(Dw n4 1 l4), (dI x5)]), (D.agg [D.nil, (dI x7), (dI x8)])] [(dI n10)]) ∧
 (bcase (n3 == n10)
 (k kT)
 (k kF))))
 False)
 (k kF)))))) ∨
 ((Says C 15 [(Dw n1 2 cs1), (Dw n8 2 cs2)] kF) ∧
 (k kF)))
 False)
 False)))))
 False)))))
 (bcase (n6 != 0)
 (bcase (n2 == n6)
 (bcase (n5 == n6)
 (bcase ((↑n1 : Int) == 0)
 (bcase (n3 == 0)
 (k kT)
 (k kF))
 (k kF))
 (k kF))
 (k kF))
 (bcase (n2 != 0)
 (k kF)
 (bcase (dL n4 1 l4)
 (((Says C 16 [(D.agg [D.nil, (dI x1), (dI x2), (dI x3)]), (D.agg [(Dw n4 1 l4), (dI x5)]), D.nil] [D.nil]) ∧
 (bcase (dL n1 2 cs1)
 (((Says C 15 [(Dw n1 2 cs1), D.nil] kT) ∧
 (∃ n7 : Int,
 ((Says C 17 [(D.agg [D.nil, (dI x7), (dI x8)])] [(dI n7)]) ∧
 (bcase (n7 != 0)
 (bcase (n5 == n7)
 (bcase (n3 == 0)
 (k kT)
 (k kF))
 (k kF))
 (bcase (n5 == 0)
 (bcase (dL n4 1 l4)
 (∃ n8 : Int,
 ((Says C 18 [(D.agg [D.nil, (dI x1), (dI x2), (dI x3)]), (D.agg [(Dw n4 1 l4), (dI x5)]), (D.agg [D.nil, (dI x7), (dI x8)])] [(dI n8)]) ∧
 (bcase (n3 == n8)
 (k kT)
 (k kF))))
 False)
 (k kF)))))) ∨
 ((Says C 15 [(Dw n1 2 cs1), D.nil] kF) ∧
 (k kF)))
 False)) ∨
 (∃ n7 : Nat,
 (∃ cs2 : List Go.Value,
 ((Says C 16 [(D.agg [D.nil, (dI x1), (dI x2), (dI x3)]), (D.agg [(Dw n4 1 l4), (dI x5)]), D.nil] [(D.sl (n7) 2 (cs2))]) ∧
 (bcase (dL n1 2 cs1)
 (bcase (dL n7 2 cs2)
 (((Says C 15 [(Dw n1 2 cs1), (Dw n7 2 cs2)] kT) ∧
 (∃ n8 : Int,
 ((Says C 17 [(D.agg [D.nil, (dI x7), (dI x8)])] [(dI n8)]) ∧
 (bcase (n8 != 0)
 (bcase (n5 == n8)
 (bcase (n3 == 0)
 (k kT)
 (k kF))
 (k kF))
 (bcase (n5 == 0)
 (bcase (dL n4 1 l4)
 (∃ n9 : Int,
 ((Says C 18 [(D.agg [D.nil, (dI x1), (dI x2), (dI x3)]), (D.agg [(Dw n4 1 l4), (dI x5)]), (D.agg [D.nil, (dI x7), (dI x8)])] [(dI n9)]) ∧
 (bcase (n3 == n9)
 (k kT)
 (k kF))))
 False)
 (k kF)))))) ∨
 ((Says C 15 [(Dw n1 2 cs1), (Dw n7 2 cs2)] kF) ∧
 (k kF)))
 False)
 False)))))
 False))))))
 False)))))))
 False)))))
 False))))))))))))
 False)))))
 False))))
 (k kT))) ∨
 ((Says C 5 [] kF) ∧
 (k kF))) := by kernel_rfl
def gLnns (C : Ct) (L : AtLoop) (x1 : Int) (x2 : Int) (x3 : Int) (x5 : Int) (n6 : Nat) (c6 : Nat) (l6 : List Value) (x7 : Int) (x8 : Int) (k : List D → Prop) : Prop := wpFn Try.prog (hL C) L 0 3 #[.agg #[.slice none 0 0, .int .i64 x1, .int .i64 x2, .int .i64 x3], .agg #[.slice none 0 0, .int .i64 x5], .agg #[.slice (some ⟨500, 0, none⟩) n6 c6, .int .i64 x7, .int .i64 x8]] (heapOf [(500, .sym l6 false 2)]) (dataK k)
theorem gLnns_text (C : Ct) (L : AtLoop) (x1 : Int) (x2 : Int) (x3 : Int) (x5 : Int) (n6 : Nat) (c6 : Nat) (l6 : List Go.Value) (x7 : Int) (x8 : Int) (k : List D → Prop) : gLnns C L x1 x2 x3 x5 n6 c6 l6 x7 x8 k =
 (((Says C 5 [] kT) ∧
 (bcase (decide ((↑n6 : Int) > 7))
 (k kT)
 (((Qv (Sl 500 (n6) (c6))) ∧
 ((Qv (Pt 1002 0)) ∧
 ((Qv (Value.agg [(Value.slice none 0 0), (vI x5)].toArray)) ∧
 ((Qv (Value.agg [(Value.slice none 0 0), (vI x1), (vI x2), (vI x3)].toArray)) ∧
 True)))) ∧
 ((Says C 8 [(D.agg [D.nil, (dI x1), (dI x2), (dI x3)])] [(D.agg [(D.sl 0 2 []), (dI x1), (dI x2), (dI x3)])]) ∧
 (((Qv (Sl 500 (n6) (c6))) ∧
 ((Qv (Pt 1002 0)) ∧
 ((Qv (Value.agg [(Value.slice none 0 0), (vI x5)].toArray)) ∧
 True))) ∧
 ((Says C 9 [(D.agg [D.nil, (dI x5)])] [(D.agg [(D.sl 0 1 []), (dI x5)])]) ∧
 (((Qv (Sl 500 (n6) (c6))) ∧
 ((Qv (Pt 1002 0)) ∧
 True)) ∧
 (bcase (dL n6 2 l6)
 ((Says C 10 [(Dw n6 2 l6)] [(Dw n6 2 l6)]) ∧
 (((Qv (Pt 1002 0)) ∧
 True) ∧
 (bcase (dL n6 2 (Tk n6 2 l6))
 ((∃ n1 : Int,
 ((Says C 7 [(D.agg [(D.sl 0 2 []), (dI x1), (dI x2), (dI x3)]), (D.agg [(D.sl 0 1 []), (dI x5)]), (Dw n6 2 (Tk n6 2 l6))] [D.nil, (dI n1)]) ∧
 (((Qv (vI n1)) ∧
 ((Qv (Value.slice none 0 0)) ∧
 ((Qv (Value.tuple [(Value.slice none 0 0), (vI n1)].toArray)) ∧
 ((Qv (Pt 1002 0)) ∧
 True)))) ∧
 (((Qv (vI n1)) ∧
 True) ∧
 (True ∧
 (((Qv (Value.agg [(Sl 500 (n6) (c6)), (vI x7), (vI x8)].toArray)) ∧
 ((Qv (Value.agg [(Value.slice none 0 0), (vI x5)].toArray)) ∧
 ((Qv (Value.agg [(Value.slice none 0 0), (vI x1), (vI x2), (vI x3)].toArray)) ∧
 True))) ∧
 ((Says C 8 [(D.agg [D.nil, (dI x1), (dI x2), (dI x3)])] [(D.agg [(D.sl 0 2 []), (dI x1), (dI x2), (dI x3)])]) ∧
 (((Qv (Value.agg [(Sl 500 (n6) (c6)), (vI x7), (vI x8)].toArray)) ∧
 ((Qv (Value.agg [(Value.slice none 0 0), (vI x5)].toArray)) ∧
 True)) ∧
 ((Says C 9 [(D.agg [D.nil, (dI x5)])] [(D.agg [(D.sl 0 1 []), (dI x5)])]) ∧
 (((Qv (Value.agg [(Sl 500 (n6) (c6)), (vI x7), (vI x8)].toArray)) ∧
 True) ∧
 (bcase (dL n6 2 l6)
 ((Says C 12 [(D.agg [(Dw n6 2 l6), (dI x7), (dI x8)])] [(D.agg [(Dw n6 2 l6), (dI x7), (dI x8)])]) ∧
 (True ∧
 (bcase (dL n6 2 (Tk n6 2 l6))
 (∃ n2 : Int,
 (∃ n3 : Int,
 ((Says C 11 [(D.agg [(D.sl 0 2 []), (dI x1), (dI x2), (dI x3)]), (D.agg [(D.sl 0 1 []), (dI x5)]), (D.agg [(Dw n6 2 (Tk n6 2 l6)), (dI x7), (dI x8)])] [(dI n2), (dI n3)]) ∧
 (((Qv (vI n3)) ∧
 ((Qv (vI n2)) ∧
 ((Qv (Value.tuple [(vI n2), (vI n3)].toArray)) ∧
 True))) ∧
 (((Qv (vI n3)) ∧
 True) ∧
 (True ∧
 (∃ n4 : Int,
 ((Says C 13 [(D.agg [D.nil, (dI x1), (dI x2), (dI x3)]), (D.agg [D.nil, (dI x5)])] [(dI n4)]) ∧
 (bcase (n4 == 0)
 (bcase (dL n6 2 l6)
 (∃ n5 : Int,
 ((Says C 14 [(Dw n6 2 l6)] [(dI n5)]) ∧
 (bcase (n5 != 0)
 (bcase (n1 == n5)
 (bcase (n3 == n5)
 (bcase (n2 == 0)
 (k kT)
 (k kF))
 (k kF))
 (k kF))
 (bcase (n1 != 0)
 (k kF)
 (bcase (dL n6 2 l6)
 (((Says C 16 [(D.agg [D.nil, (dI x1), (dI x2), (dI x3)]), (D.agg [D.nil, (dI x5)]), (Dw n6 2 l6)] [D.nil]) ∧
 (((Says C 15 [D.nil, D.nil] kT) ∧
 (bcase (dL n6 2 l6)
 (∃ n7 : Int,
 ((Says C 17 [(D.agg [(Dw n6 2 l6), (dI x7), (dI x8)])] [(dI n7)]) ∧
 (bcase (n7 != 0)
 (bcase (n3 == n7)
 (bcase (n2 == 0)
 (k kT)
 (k kF))
 (k kF))
 (bcase (n3 == 0)
 (bcase (dL n6 2 l6)
 (∃ n8 : Int,
 ((Says C 18 [(D.agg [D.nil, (dI x1), (dI x2), (dI x3)]), (D.agg [D.nil, (dI x5)]), (D.agg [(Dw n6 2 l6), (dI x7), (dI x8)])] [(dI n8)]) ∧
 (bcase (n2 == n8)
 (k kT)
 (k kF))))
 False)
 (k kF)))))
 False)) ∨
 ((Says C 15 [D.nil, D.nil] kF) ∧
 (k kF)))) ∨
 (∃ n7 : Nat,
 (∃ cs1 : List Go.Value,
 ((Says C 16 [(D.agg [D.nil, (dI x1), (dI x2), (dI x3)]), (D.agg [D.nil, (dI x5)]), (Dw n6 2 l6)] [(D.sl (n7) 2 (cs1))]) ∧
 (bcase (dL n7 2 cs1)
 (((Says C 15 [D.nil, (Dw n7 2 cs1)] kT) ∧
 (bcase (dL n6 2 l6)
 (∃ n8 : Int,
 ((Says C 17 [(D.agg [(Dw n6 2 l6), (dI x7), (dI x8)])] [(dI n8)]) ∧
 (bcase (n8 != 0)
 (bcase (n3 == n8)
 (bcase (n2 == 0)
 (k kT)
 (k kF))
 (k kF))
 (bcase (n3 == 0)
 (bcase (dL n6 2 l6)
 (∃ n9 : Int,
 ((Says C 18 [(D.agg [D.nil, (dI x1), (dI x2), (dI x3)]), (D.agg [D.nil, (dI x5)]), (D.agg [(Dw n6 2 l6), (dI x7), (dI x8)])] [(dI n9)]) ∧
 (bcase (n2 == n9)
 (k kT)
 (k kF))))
 False)
 (k kF)))))
 False)) ∨
 ((Says C 15 [D.nil, (Dw n7 2 cs1)] kF) ∧
 (k kF)))
 False)))))
 False)))))
 False)
 (bcase (n4 != 0)
 (bcase (n1 == n4)
 (bcase (n3 == n4)
 (bcase (n2 == 0)
 (k kT)
 (k kF))
 (k kF))
 (k kF))
 (bcase (n1 != 0)
 (k kF)
 (bcase (dL n6 2 l6)
 (((Says C 16 [(D.agg [D.nil, (dI x1), (dI x2), (dI x3)]), (D.agg [D.nil, (dI x5)]), (Dw n6 2 l6)] [D.nil]) ∧
 (((Says C 15 [D.nil, D.nil] kT) ∧
 (bcase (dL n6 2 l6)
 (∃ n5 : Int,
 ((Says C 17 [(D.agg [(Dw n6 2 l6), (dI x7), (dI x8)])] [(dI n5)]) ∧
 (bcase (n5 != 0)
 (bcase (n3 == n5)
 (bcase (n2 == 0)
 (k kT)
 (k kF))
 (k kF))
 (bcase (n3 == 0)
 (bcase (dL n6 2 l6)
 (∃ n7 : Int,
 ((Says C 18 [(D.agg [D.nil, (dI x1), (dI x2), (dI x3)]), (D.agg [D.nil, (dI x5)]), (D.agg [(Dw n6 2 l6), (dI x7), (dI x8)])] [(dI n7)]) ∧
 (bcase (n2 == n7)
 (k kT)
 (k kF))))
 False)
 (k kF)))))
 False)) ∨
 ((Says C 15 [D.nil, D.nil] kF) ∧
 (k kF)))) ∨
 (∃ n5 : Nat,
 (∃ cs1 : List Go.Value,
 ((Says C 16 [(D.agg [D.nil, (dI x1), (dI x2), (dI x3)]), (D.agg [D.nil, (dI x5)]), (Dw n6 2 l6)] [(D.sl (n5) 2 (cs1))]) ∧
 (bcase (dL n5 2 cs1)
 (((Says C 15 [D.nil, (Dw n5 2 cs1)] kT) ∧
 (bcase (dL n6 2 l6)
 (∃ n7 : Int,
 ((Says C 17 [(D.agg [(Dw n6 2 l6), (dI x7), (dI x8)])] [(dI n7)]) ∧
 (bcase (n7 != 0)
 (bcase (n3 == n7)
 (bcase (n2 == 0)
 (k kT)
 (k kF))
 (k kF))
 (bcase (n3 == 0)
 (bcase (dL n6 2 l6)
 (∃ n8 : Int,
 ((Says C 18 [(D.agg [D.nil, (dI x1), (dI x2), (dI x3)]), (D.agg [D.nil, (dI x5)]), (D.agg [(Dw n6 2 l6), (dI x7), (dI x8)])] [(dI n8)]) ∧
 (bcase (n2 == n8)
 (k kT)
 (k kF))))
 False)
 (k kF)))))
 False)) ∨
 ((Says C 15 [D.nil, (Dw n5 2 cs1)] kF) ∧
 (k kF)))
 False)))))
 False))))))))))))
 False)))
 False))))))))))) ∨
 (∃ n1 : Nat,
 (∃ cs1 : List Go.Value,
 (∃ n2 : Int,
 ((Says C 7 [(D.agg [(D.sl 0 2 []), (dI x1), (dI x2), (dI x3)]), (D.agg [(D.sl 0 1 []), (dI x5)]), (Dw n6 2 (Tk n6 2 l6))] [(D.sl (n1) 2 (cs1)), (dI n2)]) ∧
 (((Qv (vI n2)) ∧
 ((Qv (Sl 1009 (n1) (n1))) ∧
 ((Qv (Value.tuple [(Sl 1009 (n1) (n1)), (vI n2)].toArray)) ∧
 ((Qv (Pt 1002 0)) ∧
 True)))) ∧
 (((Qv (vI n2)) ∧
 True) ∧
 (True ∧
 (((Qv (Value.agg [(Sl 500 (n6) (c6)), (vI x7), (vI x8)].toArray)) ∧
 ((Qv (Value.agg [(Value.slice none 0 0), (vI x5)].toArray)) ∧
 ((Qv (Value.agg [(Value.slice none 0 0), (vI x1), (vI x2), (vI x3)].toArray)) ∧
 True))) ∧
 ((Says C 8 [(D.agg [D.nil, (dI x1), (dI x2), (dI x3)])] [(D.agg [(D.sl 0 2 []), (dI x1), (dI x2), (dI x3)])]) ∧
 (((Qv (Value.agg [(Sl 500 (n6) (c6)), (vI x7), (vI x8)].toArray)) ∧
 ((Qv (Value.agg [(Value.slice none 0 0), (vI x5)].toArray)) ∧
 True)) ∧
 ((Says C 9 [(D.agg [D.nil, (dI x5)])] [(D.agg [(D.sl 0 1 []), (dI x5)])]) ∧
 (((Qv (Value.agg [(Sl 500 (n6) (c6)), (vI x7), (vI x8)].toArray)) ∧
 True) ∧
 (bcase (dL n6 2 l6)
 ((Says C 12 [(D.agg [(Dw n6 2 l6), (dI x7), (dI x8)])] [(D.agg [(Dw n6 2 l6), (dI x7), (dI x8)])]) ∧
 (True ∧
 (bcase (dL n6 2 (Tk n6 2 l6))
 (∃ n3 : Int,
 (∃ n4 : Int,
 ((Says C 11 [(D.agg [(D.sl 0 2 []), (dI x1), (dI x2), (dI x3)]), (D.agg [(D.sl 0 1 []), (dI x5)]), (D.agg [(Dw n6 2 (Tk n6 2 l6)), (dI x7), (dI x8)])] [(dI n3), (dI n4)]) ∧
 (((Qv (vI n4)) ∧
 ((Qv (vI n3)) ∧
 ((Qv (Value.tuple [(vI n3), (vI n4)].toArray)) ∧
 True))) ∧
 (((Qv (vI n4)) ∧
 True) ∧
 (True ∧
 (∃ n5 : Int,
 ((Says C 13 [(D.agg [D.nil, (dI x1), (dI x2), (dI x3)]), (D.agg [D.nil, (dI x5)])] [(dI n5)]) ∧
 (bcase (n5 == 0)
 (bcase (dL n6 2 l6)
 (∃ n7 : Int,
 ((Says C 14 [(Dw n6 2 l6)] [(dI n7)]) ∧
 (bcase (n7 != 0)
 (bcase (n2 == n7)
 (bcase (n4 == n7)
 (bcase ((↑n1 : Int) == 0)
 (bcase (n3 == 0)
 (k kT)
 (k kF))
 (k kF))
 (k kF))
 (k kF))
 (bcase (n2 != 0)
 (k kF)
 (bcase (dL n6 2 l6)
 (((Says C 16 [(D.agg [D.nil, (dI x1), (dI x2), (dI x3)]), (D.agg [D.nil, (dI x5)]), (Dw n6 2 l6)] [D.nil]) ∧
 (bcase (dL n1 2 cs1)
 (((Says C 15 [(Dw n1 2 cs1), D.nil] kT) ∧
 (bcase (dL n6 2 l6)
 (∃ n8 : Int,
 ((Says C 17 [(D.agg [(Dw n6 2 l6), (dI x7), (dI x8)])] [(dI n8)]) ∧
 (bcase (n8 != 0)
 (bcase (n4 == n8)
 (bcase (n3 == 0)
 (k kT)
 (k kF))
 (k kF))
 (bcase (n4 == 0)
 (bcase (dL n6 2 l6)
 (∃ n9 : Int,
 ((Says C 18 [(D.agg [D.nil, (dI x1), (dI x2), (dI x3)]), (D.agg [D.nil, (dI x5)]), (D.agg [(Dw n6 2 l6), (dI x7), (dI x8)])] [(dI n9)]) ∧
 (bcase (n3 == n9)
 (k kT)
 (k kF))))
 False)
 (k kF)))))
 False)) ∨
 ((Says C 15 [(Dw n1 2 cs1), D.nil] kF) ∧
 (k kF)))
 False)) ∨
 (∃ n8 : Nat,
 (∃ cs2 : List Go.Value,
 ((Says C 16 [(D.agg [D.nil, (dI x1), (dI x2), (dI x3)]), (D.agg [D.nil, (dI x5)]), (Dw n6 2 l6)] [(D.sl (n8) 2 (cs2))]) ∧
 (bcase (dL n1 2 cs1)
 (bcase (dL n8 2 cs2)
 (((Says C 15 [(Dw n1 2 cs1), (Dw n8 2 cs2)] kT) ∧
 (bcase (dL n6 2 l6)
 (∃ n9 : Int,
 ((Says C 17 [(D.agg [(Dw n6 2 l6), (dI x7), (dI x8)])] [(dI n9)]) ∧
 (bcase (n9 != 0)
 (bcase (n4 == n9)
 (bcase (n3 == 0)
 (k kT)
 (k kF))
 (k kF))
 (bcase (n4 == 0)
 (bcase (dL n6 2 l6)
 (∃ n10 : Int,
 ((Says C 18 [(D.agg [D.nil, (dI x1), (dI x2), (dI x3)]), (D.agg [D.nil, (dI x5)]), (D.agg [(Dw n6 2 l6), (dI x7), (dI x8)])] [(dI n10)]) ∧
 (bcase (n3 == n10)
 (k kT)
 (k kF))))
 False)
 (k kF)))))
 False)) ∨
 ((Says C 15 [(Dw n1 2 cs1), (Dw n8 2 cs2)] kF) ∧
 (k kF)))
 False)
 False)))))
 False)))))
 False)
 (bcase (n5 != 0)
 (bcase (n2 == n5)
 (bcase (n4 == n5)
 (bcase ((↑n1 : Int) == 0)
 (bcase (n3 == 0)
 (k kT)
 (k kF))
 (k kF))
 (k kF))
 (k kF))
 (bcase (n2 != 0)
 (k kF)
 (bcase (dL n6 2 l6)
 (((Says C 16 [(D.agg [D.nil, (dI x1), (dI x2), (dI x3)]), (D.agg [D.nil, (dI x5)]), (Dw n6 2 l6)] [D.nil]) ∧
 (bcase (dL n1 2 cs1)
 (((Says C 15 [(Dw n1 2 cs1), D.nil] kT) ∧
 (bcase (dL n6 2 l6)
 (∃ n7 : Int,
 ((Says C 17 [(D.agg [(Dw n6 2 l6), (dI x7), (dI x8)])] [(dI n7)]) ∧
 (bcase (n7 != 0)
 (bcase (n4 == n7)
 (bcase (n3 == 0)
 (k kT)
 (k kF))
 (k kF))
 (bcase (n4 == 0)
 (bcase (dL n6 2 l6)
 (∃ n8 : Int,
 ((Says C 18 [(D.agg [D.nil, (dI x1), (dI x2), (dI x3)]), (D.agg [D.nil, (dI x5)]), (D.agg [(Dw n6 2 l6), (dI x7), (dI x8)])] [(dI n8)]) ∧
 (bcase (n3 == n8)
 (k kT)
 (k kF))))
 False)
 (k kF)))))
 False)) ∨
 ((Says C 15 [(Dw n1 2 cs1), D.nil] kF) ∧
 (k kF)))
 False)) ∨
 (∃ n7 : Nat,
 (∃ cs2 : List Go.Value,
 ((Says C 16 [(D.agg [D.nil, (dI x1), (dI x2), (dI x3)]), (D.agg [D.nil, (dI x5)]), (Dw n6 2 l6)] [(D.sl (n7) 2 (cs2))]) ∧
 (bcase (dL n1 2 cs1)
 (bcase (dL n7 2 cs2)
 (((Says C 15 [(Dw n1 2 cs1), (Dw n7 2 cs2)] kT) ∧
 (bcase (dL n6 2 l6)
 (∃ n8 : Int,
 ((Says C 17 [(D.agg [(Dw n6 2 l6), (dI x7), (dI x8)])] [(dI n8)]) ∧
 (bcase (n8 != 0)
 (bcase (n4 == n8)
 (bcase (n3 == 0)
 (k kT)
 (k kF))
 (k kF))
 (bcase (n4 == 0)
 (bcase (dL n6 2 l6)
 (∃ n9 : Int,
 ((Says C 18 [(D.agg [D.nil, (dI x1), (dI x2), (dI x3)]), (D.agg [D.nil, (dI x5)]), (D.agg [(Dw n6 2 l6), (dI x7), (dI x8)])] [(dI n9)]) ∧
 (bcase (n3 == n9)
 (k kT)
 (k kF))))
 False)
 (k kF)))))
 False)) ∨
 ((Says C 15 [(Dw n1 2 cs1), (Dw n7 2 cs2)] kF) ∧
 (k kF)))
 False)
 False)))))
 False))))))))))))
 False)))
 False))))))))))))))
 False)))
 False)))))))) ∨
 ((Says C 5 [] kF) ∧
 (k kF))) := by kernel_rfl
def gLnnn (C : Ct) (L : AtLoop) (x1 : Int) (x2 : Int) (x3 : Int) (x5 : Int) (x7 : Int) (x8 : Int) (k : List D → Prop) : Prop := wpFn Try.prog (hL C) L 0 3 #[.agg #[.slice none 0 0, .int .i64 x1, .int .i64 x2, .int .i64 x3], .agg #[.slice none 0 0, .int .i64 x5], .agg #[.slice none 0 0, .int .i64 x7, .int .i64 x8]] (heapOf []) (dataK k)
theorem gLnnn_text (C : Ct) (L : AtLoop) (x1 : Int) (x2 : Int) (x3 : Int) (x5 : Int) (x7 : Int) (x8 : Int) (k : List D → Prop) : gLnnn C L x1 x2 x3 x5 x7 x8 k =
 (((Says C 5 [] kT) ∧
 (((Qv (Value.slice none 0 0)) ∧
 ((Qv (Pt 1002 0)) ∧
 ((Qv (Value.agg [(Value.slice none 0 0), (vI x5)].toArray)) ∧
 ((Qv (Value.agg [(Value.slice none 0 0), (vI x1), (vI x2), (vI x3)].toArray)) ∧
 True)))) ∧
 ((Says C 8 [(D.agg [D.nil, (dI x1), (dI x2), (dI x3)])] [(D.agg [(D.sl 0 2 []), (dI x1), (dI x2), (dI x3)])]) ∧
 (((Qv (Value.slice none 0 0)) ∧
 ((Qv (Pt 1002 0)) ∧
 ((Qv (Value.agg [(Value.slice none 0 0), (vI x5)].toArray)) ∧
 True))) ∧
 ((Says C 9 [(D.agg [D.nil, (dI x5)])] [(D.agg [(D.sl 0 1 []), (dI x5)])]) ∧
 (((Qv (Value.slice none 0 0)) ∧
 ((Qv (Pt 1002 0)) ∧
 True)) ∧
 ((Says C 10 [D.nil] [(D.sl 0 2 [])]) ∧
 (((Qv (Pt 1002 0)) ∧
 True) ∧
 ((∃ n1 : Int,
 ((Says C 7 [(D.agg [(D.sl 0 2 []), (dI x1), (dI x2), (dI x3)]), (D.agg [(D.sl 0 1 []), (dI x5)]), (D.sl 0 2 [])] [D.nil, (dI n1)]) ∧
 (((Qv (vI n1)) ∧
 ((Qv (Value.slice none 0 0)) ∧
 ((Qv (Value.tuple [(Value.slice none 0 0), (vI n1)].toArray)) ∧
 ((Qv (Pt 1002 0)) ∧
 True)))) ∧
 (((Qv (vI n1)) ∧
 True) ∧
 (True ∧
 (((Qv (Value.agg [(Value.slice none 0 0), (vI x7), (vI x8)].toArray)) ∧
 ((Qv (Value.agg [(Value.slice none 0 0), (vI x5)].toArray)) ∧
 ((Qv (Value.agg [(Value.slice none 0 0), (vI x1), (vI x2), (vI x3)].toArray)) ∧
 True))) ∧
 ((Says C 8 [(D.agg [D.nil, (dI x1), (dI x2), (dI x3)])] [(D.agg [(D.sl 0 2 []), (dI x1), (dI x2), (dI x3)])]) ∧
 (((Qv (Value.agg [(Value.slice none 0 0), (vI x7), (vI x8)].toArray)) ∧
 ((Qv (Value.agg [(Value.slice none 0 0), (vI x5)].toArray)) ∧
 True)) ∧
 ((Says C 9 [(D.agg [D.nil, (dI x5)])] [(D.agg [(D.sl 0 1 []), (dI x5)])]) ∧
 (((Qv (Value.agg [(Value.slice none 0 0), (vI x7), (vI x8)].toArray)) ∧
 True) ∧
 ((Says C 12 [(D.agg [D.nil, (dI x7), (dI x8)])] [(D.agg [(D.sl 0 2 []), (dI x7), (dI x8)])]) ∧
 (True ∧
 (∃ n2 : Int,
 (∃ n3 : Int,
 ((Says C 11 [(D.agg [(D.sl 0 2 []), (dI x1), (dI x2), (dI x3)]), (D.agg [(D.sl 0 1 []), (dI x5)]), (D.agg [(D.sl 0 2 []), (dI x7), (dI x8)])] [(dI n2), (dI n3)]) ∧
 (((Qv (vI n3)) ∧
 ((Qv (vI n2)) ∧
 ((Qv (Value.tuple [(vI n2), (vI n3)].toArray)) ∧
 True))) ∧
 (((Qv (vI n3)) ∧
 True) ∧
 (True ∧
 (∃ n4 : Int,
 ((Says C 13 [(D.agg [D.nil, (dI x1), (dI x2), (dI x3)]), (D.agg [D.nil, (dI x5)])] [(dI n4)]) ∧
 (bcase (n4 == 0)
 (∃ n5 : Int,
 ((Says C 14 [D.nil] [(dI n5)]) ∧
 (bcase (n5 != 0)
 (bcase (n1 == n5)
 (bcase (n3 == n5)
 (bcase (n2 == 0)
 (k kT)
 (k kF))
 (k kF))
 (k kF))
 (bcase (n1 != 0)
 (k kF)
 (((Says C 16 [(D.agg [D.nil, (dI x1), (dI x2), (dI x3)]), (D.agg [D.nil, (dI x5)]), D.nil] [D.nil]) ∧
 (((Says C 15 [D.nil, D.nil] kT) ∧
 (∃ n6 : Int,
 ((Says C 17 [(D.agg [D.nil, (dI x7), (dI x8)])] [(dI n6)]) ∧
 (bcase (n6 != 0)
 (bcase (n3 == n6)
 (bcase (n2 == 0)
 (k kT)
 (k kF))
 (k kF))
 (bcase (n3 == 0)
 (∃ n7 : Int,
 ((Says C 18 [(D.agg [D.nil, (dI x1), (dI x2), (dI x3)]), (D.agg [D.nil, (dI x5)]), (D.agg [D.nil, (dI x7), (dI x8)])] [(dI n7)]) ∧
 (bcase (n2 == n7)
 (k kT)
 (k kF))))
 (k kF)))))) ∨
 ((Says C 15 [D.nil, D.nil] kF) ∧
 (k kF)))) ∨
 (∃ n6 : Nat,
 (∃ cs1 : List Go.Value,
 ((Says C 16 [(D.agg [D.nil, (dI x1), (dI x2), (dI x3)]), (D.agg [D.nil, (dI x5)]), D.nil] [(D.sl (n6) 2 (cs1))]) ∧
 (bcase (dL n6 2 cs1)
 (((Says C 15 [D.nil, (Dw n6 2 cs1)] kT) ∧
 (∃ n7 : Int,
 ((Says C 17 [(D.agg [D.nil, (dI x7), (dI x8)])] [(dI n7)]) ∧
 (bcase (n7 != 0)
 (bcase (n3 == n7)
 (bcase (n2 == 0)
 (k kT)
 (k kF))
 (k kF))
 (bcase (n3 == 0)
 (∃ n8 : Int,
 ((Says C 18 [(D.agg [D.nil, (dI x1), (dI x2), (dI x3)]), (D.agg [D.nil, (dI x5)]), (D.agg [D.nil, (dI x7), (dI x8)])] [(dI n8)]) ∧
 (bcase (n2 == n8)
 (k kT)
 (k kF))))
 (k kF)))))) ∨
 ((Says C 15 [D.nil, (Dw n6 2 cs1)] kF) ∧
 (k kF)))
 False)))))))))
 (bcase (n4 != 0)
 (bcase (n1 == n4)
 (bcase (n3 == n4)
 (bcase (n2 == 0)
 (k kT)
 (k kF))
 (k kF))
 (k kF))
 (bcase (n1 != 0)
 (k kF)
 (((Says C 16 [(D.agg [D.nil, (dI x1), (dI x2), (dI x3)]), (D.agg [D.nil, (dI x5)]), D.nil] [D.nil]) ∧
 (((Says C 15 [D.nil, D.nil] kT) ∧
 (∃ n5 : Int,
 ((Says C 17 [(D.agg [D.nil, (dI x7), (dI x8)])] [(dI n5)]) ∧
 (bcase (n5 != 0)
 (bcase (n3 == n5)
 (bcase (n2 == 0)
 (k kT)
 (k kF))
 (k kF))
 (bcase (n3 == 0)
 (∃ n6 : Int,
 ((Says C 18 [(D.agg [D.nil, (dI x1), (dI x2), (dI x3)]), (D.agg [D.nil, (dI x5)]), (D.agg [D.nil, (dI x7), (dI x8)])] [(dI n6)]) ∧
 (bcase (n2 == n6)
 (k kT)
 (k kF))))
 (k kF)))))) ∨
 ((Says C 15 [D.nil, D.nil] kF) ∧
 (k kF)))) ∨
 (∃ n5 : Nat,
 (∃ cs1 : List Go.Value,
 ((Says C 16 [(D.agg [D.nil, (dI x1), (dI x2), (dI x3)]), (D.agg [D.nil, (dI x5)]), D.nil] [(D.sl (n5) 2 (cs1))]) ∧
 (bcase (dL n5 2 cs1)
 (((Says C 15 [D.nil, (Dw n5 2 cs1)] kT) ∧
 (∃ n6 : Int,
 ((Says C 17 [(D.agg [D.nil, (dI x7), (dI x8)])] [(dI n6)]) ∧
 (bcase (n6 != 0)
 (bcase (n3 == n6)
 (bcase (n2 == 0)
 (k kT)
 (k kF))
 (k kF))
 (bcase (n3 == 0)
 (∃ n7 : Int,
 ((Says C 18 [(D.agg [D.nil, (dI x1), (dI x2), (dI x3)]), (D.agg [D.nil, (dI x5)]), (D.agg [D.nil, (dI x7), (dI x8)])] [(dI n7)]) ∧
 (bcase (n2 == n7)
 (k kT)
 (k kF))))
 (k kF)))))) ∨
 ((Says C 15 [D.nil, (Dw n5 2 cs1)] kF) ∧
 (k kF)))
 False)))))))))))))))))))))))))))) ∨
 (∃ n1 : Nat,
 (∃ cs1 : List Go.Value,
 (∃ n2 : Int,
 ((Says C 7 [(D.agg [(D.sl 0 2 []), (dI x1), (dI x2), (dI x3)]), (D.agg [(D.sl 0 1 []), (dI x5)]), (D.sl 0 2 [])] [(D.sl (n1) 2 (cs1)), (dI n2)]) ∧
 (((Qv (vI n2)) ∧
 ((Qv (Sl 1009 (n1) (n1))) ∧
 ((Qv (Value.tuple [(Sl 1009 (n1) (n1)), (vI n2)].toArray)) ∧
 ((Qv (Pt 1002 0)) ∧
 True)))) ∧
 (((Qv (vI n2)) ∧
 True) ∧
 (True ∧
 (((Qv (Value.agg [(Value.slice none 0 0), (vI x7), (vI x8)].toArray)) ∧
 ((Qv (Value.agg [(Value.slice none 0 0), (vI x5)].toArray)) ∧
 ((Qv (Value.agg [(Value.slice none 0 0), (vI x1), (vI x2), (vI x3)].toArray)) ∧
 True))) ∧
 ((Says C 8 [(D.agg [D.nil, (dI x1), (dI x2), (dI x3)])] [(D.agg [(D.sl 0 2 []), (dI x1), (dI x2), (dI x3)])]) ∧
 (((Qv (Value.agg [(Value.slice none 0 0), (vI x7), (vI x8)].toArray)) ∧
 ((Qv (Value.agg [(Value.slice none 0 0), (vI x5)].toArray)) ∧
 True)) ∧
 ((Says C 9 [(D.agg [D.nil, (dI x5)])] [(D.agg [(D.sl 0 1 []), (dI x5)])]) ∧
 (((Qv (Value.agg [(Value.slice none 0 0), (vI x7), (vI x8)].toArray)) ∧
 True) ∧
 ((Says C 12 [(D.agg [D.nil, (dI x7), (dI x8)])] [(D.agg [(D.sl 0 2 []), (dI x7), (dI x8)])]) ∧
 (True ∧
 (∃ n3 : Int,
 (∃ n4 : Int,
 ((Says C 11 [(D.agg [(D.sl 0 2 []), (dI x1), (dI x2), (dI x3)]), (D.agg [(D.sl 0 1 []), (dI x5)]), (D.agg [(D.sl 0 2 []), (dI x7), (dI x8)])] [(dI n3), (dI n4)]) ∧
 (((Qv (vI n4)) ∧
 ((Qv (vI n3)) ∧
 ((Qv (Value.tuple [(vI n3), (vI n4)].toArray)) ∧
 True))) ∧
 (((Qv (vI n4)) ∧
 True) ∧
 (True ∧
 (∃ n5 : Int,
 ((Says C 13 [(D.agg [D.nil, (dI x1), (dI x2), (dI x3)]), (D.agg [D.nil, (dI x5)])] [(dI n5)]) ∧
 (bcase (n5 == 0)
 (∃ n6 : Int,
 ((Says C 14 [D.nil] [(dI n6)]) ∧
 (bcase (n6 != 0)
 (bcase (n2 == n6)
 (bcase (n4 == n6)
 (bcase ((↑n1 : Int) == 0)
 (bcase (n3 == 0)
 (k kT)
 (k kF))
 (k kF))
 (k kF))
 (k kF))
 (bcase (n2 != 0)
 (k kF)
 (((Says C 16 [(D.agg [D.nil, (dI x1), (dI x2), (dI x3)]), (D.agg [D.nil, (dI x5)]), D.nil] [D.nil]) ∧
 (bcase (dL n1 2 cs1)
 (((Says C 15 [(Dw n1 2 cs1), D.nil] kT) ∧
 (∃ n7 : Int,
 ((Says C 17 [(D.agg [D.nil, (dI x7), (dI x8)])] [(dI n7)]) ∧
 (bcase (n7 != 0)
 (bcase (n4 == n7)
 (bcase (n3 == 0)
 (k kT)
 (k kF))
 (k kF))
 (bcase (n4 == 0)
 (∃ n8 : Int,
 ((Says C 18 [(D.agg [D.nil, (dI x1), (dI x2), (dI x3)]), (D.agg [D.nil, (dI x5)]), (D.agg [D.nil, (dI x7), (dI x8)])] [(dI n8)]) ∧
 (bcase (n3 == n8)
 (k kT)
 (k kF))))
 (k kF)))))) ∨
 ((Says C 15 [(Dw n1 2 cs1), D.nil] kF) ∧
 (k kF)))
 False)) ∨
 (∃ n7 : Nat,
 (∃ cs2 : List Go.Value,
 ((Says C 16 [(D.agg [D.nil, (dI x1), (dI x2), (dI x3)]), (D.agg [D.nil, (dI x5)]), D.nil] [(D.sl (n7) 2 (cs2))]) ∧
 (bcase (dL n1 2 cs1)
 (bcase (dL n7 2 cs2)
 (((Says C 15 [(Dw n1 2 cs1), (Dw n7 2 cs2)] kT) ∧
 (∃ n8 : Int,
 ((Says C 17 [(D.agg [D.nil, (dI x7), (dI x8)])] [(dI n8)]) ∧
 (bcase (n8 != 0)
 (bcase (n4 == n8)
 (bcase (n3 == 0)
 (k kT)
 (k kF))
 (k kF))
 (bcase (n4 == 0)
 (∃ n9 : Int,
 ((Says C 18 [(D.agg [D.nil, (dI x1), (dI x2), (dI x3)]), (D.agg [D.nil, (dI x5)]), (D.agg [D.nil, (dI x7), (dI x8)])] [(dI n9)]) ∧
 (bcase (n3 == n9)
 (k kT)
 (k kF))))
 (k kF)))))) ∨
 ((Says C 15 [(Dw n1 2 cs1), (Dw n7 2 cs2)] kF) ∧
 (k kF)))
 False)
 False)))))))))
 (bcase (n5 != 0)
 (bcase (n2 == n5)
 (bcase (n4 == n5)
 (bcase ((↑n1 : Int) == 0)
 (bcase (n3 == 0)
 (k kT)
 (k kF))
 (k kF))
 (k kF))
 (k kF))
 (bcase (n2 != 0)
 (k kF)
 (((Says C 16 [(D.agg [D.nil, (dI x1), (dI x2), (dI x3)]), (D.agg [D.nil, (dI x5)]), D.nil] [D.nil]) ∧
 (bcase (dL n1 2 cs1)
 (((Says C 15 [(Dw n1 2 cs1), D.nil] kT) ∧
 (∃ n6 : Int,
 ((Says C 17 [(D.agg [D.nil, (dI x7), (dI x8)])] [(dI n6)]) ∧
 (bcase (n6 != 0)
 (bcase (n4 == n6)
 (bcase (n3 == 0)
 (k kT)
 (k kF))
 (k kF))
 (bcase (n4 == 0)
 (∃ n7 : Int,
 ((Says C 18 [(D.agg [D.nil, (dI x1), (dI x2), (dI x3)]), (D.agg [D.nil, (dI x5)]), (D.agg [D.nil, (dI x7), (dI x8)])] [(dI n7)]) ∧
 (bcase (n3 == n7)
 (k kT)
 (k kF))))
 (k kF)))))) ∨
 ((Says C 15 [(Dw n1 2 cs1), D.nil] kF) ∧
 (k kF)))
 False)) ∨
 (∃ n6 : Nat,
 (∃ cs2 : List Go.Value,
 ((Says C 16 [(D.agg [D.nil, (dI x1), (dI x2), (dI x3)]), (D.agg [D.nil, (dI x5)]), D.nil] [(D.sl (n6) 2 (cs2))]) ∧
 (bcase (dL n1 2 cs1)
 (bcase (dL n6 2 cs2)
 (((Says C 15 [(Dw n1 2 cs1), (Dw n6 2 cs2)] kT) ∧
 (∃ n7 : Int,
 ((Says C 17 [(D.agg [D.nil, (dI x7), (dI x8)])] [(dI n7)]) ∧
 (bcase (n7 != 0)
 (bcase (n4 == n7)
 (bcase (n3 == 0)
 (k kT)
 (k kF))
 (k kF))
 (bcase (n4 == 0)
 (∃ n8 : Int,
 ((Says C 18 [(D.agg [D.nil, (dI x1), (dI x2), (dI x3)]), (D.agg [D.nil, (dI x5)]), (D.agg [D.nil, (dI x7), (dI x8)])] [(dI n8)]) ∧
 (bcase (n3 == n8)
 (k kT)
 (k kF))))
 (k kF)))))) ∨
 ((Says C 15 [(Dw n1 2 cs1), (Dw n6 2 cs2)] kF) ∧
 (k kF)))
 False)
 False))))))))))))))))))))))))))))))))))))))) ∨
 ((Says C 5 [] kF) ∧
 (k kF))) := by kernel_rfl
end Go.Proofs.G5g

/- FurnaceEnclosures in data. -/
namespace Go.Proofs.G5g
open Go Go.Abs Go.Proofs Go.Proofs.G2
set_option maxRecDepth 100000
theorem preLOK : PreOK Try.prog (preL C5) := by
  intro g h he args ats H k hk
  unfold preL at he
  rcases ite_so he with ⟨e, rfl⟩ | he
  · exact fixH_ok (fun _ _ _ h => h) _ _ _ _ _ hk
  rcases ite_so he with ⟨e, rfl⟩ | he
  · exact fixH_ok (fun _ _ _ h => h) _ _ _ _ _ hk
  · exact preZOK g h he args ats H k hk
theorem hokL : HandlerOK Try.prog (hL C5) := handlerX_ok mixed preLOK (by decide) 6
theorem both_fst (a b : Int) : fst0 [a, b] = both a b := by by_cases h : a = 0 <;> simp [both, fst0_two, h]
theorem eoE_b {ps : List Pt} {m lo hi : Int} {l : List Int} {bo : Int} {z : List (Int × Int)} (h : both (rulE ps m lo hi) (slE l bo) ≠ 0) : eoE ps m lo hi l bo z = both (rulE ps m lo hi) (slE l bo) := by
  unfold eoE; rw [both_fst (rulE ps m lo hi) (slE l bo), fst0_two, if_neg h]
theorem eoE_z {ps : List Pt} {m lo hi : Int} {l : List Int} {bo : Int} {z : List (Int × Int)} (h : both (rulE ps m lo hi) (slE l bo) = 0) : eoE ps m lo hi l bo z = rtE z := by
  unfold eoE; rw [both_fst (rulE ps m lo hi) (slE l bo), fst0_two, if_pos h]
theorem isE_b {ps : List Pt} {m lo hi : Int} {l : List Int} {bo : Int} {z : List (Int × Int)} {a b : Int} (h : both (rulE ps m lo hi) (slE l bo) ≠ 0) : isE ps m lo hi l bo z a b = both (rulE ps m lo hi) (slE l bo) := by
  unfold isE; rw [both_fst (rulE ps m lo hi) (slE l bo), fst0_two, if_neg h]
theorem isE_z {ps : List Pt} {m lo hi : Int} {l : List Int} {bo : Int} {z : List (Int × Int)} {a b : Int} (h : both (rulE ps m lo hi) (slE l bo) = 0) : isE ps m lo hi l bo z a b = goE z a b := by
  unfold isE; rw [both_fst (rulE ps m lo hi) (slE l bo), fst0_two, if_pos h]
theorem both0 {a b : Int} (h : both a b = 0) : a = 0 ∧ b = 0 := by unfold both at h; split at h <;> omega
theorem lawSSS (ps : List Pt) (m lo hi : Int) (l : List Int) (bo : Int) (z : List (Int × Int)) (ta tb : Int) : C5 3 [dRu ps m lo hi, dSl l bo, dGo z ta tb] [.val (.bool true)] := by
  refine con_flat hokL mixed Try.func3 rfl (by show 3 ≤ 400; omega) rfl (by kernel_rfl) (fun caps => ?_)
  show gLsss _ _ ps.length (caps 500) (vp ps) m lo hi l.length (caps 501) (vi l) bo z.length (caps 502) (vp z) ta tb _
  rw [gLsss_text]
  refine .inl ⟨⟨conA⟩, bc_dec (fun h12 => bc_dec (fun h10 => bc_dec (fun _ => rfl) (fun h7 => ?_)) (fun _ => rfl)) (fun _ => rfl)⟩
  have cYr := conYr ps (by omega) m lo hi
  have cYs := conYs l (by omega) bo
  have cyR := conyR z (by omega)
  have cyG := conyG z (by omega) ta tb
  have cbE := conbE ps (by omega) m lo hi l (by omega) bo
  have cEO := conEO ps (by omega) m lo hi l (by omega) bo z (by omega)
  have crE := conrE z (by omega)
  have cGE := conGE z (by omega) ta tb
  simp only [Dw, Tk, vp_whole, vi_whole, bc_t (v2le ps), bc_t (v1le l), bc_t (v2le z), Qv, eq_self, true_and, and_true]
  by_cases hB : both (rulE ps m lo hi) (slE l bo) = 0
  · rw [eoE_z hB] at cEO
    by_cases hZ : rtE z = 0
    · rw [if_pos hZ] at cEO
      obtain ⟨e1, e2⟩ := both0 hB
      obtain ⟨⟨hv, hl10⟩, hm, ha, hb⟩ := rul_all e1
      obtain ⟨q2, q8, hg, hbo⟩ := sl_ok e2
      obtain ⟨hz5, hzz⟩ := rt_ok hZ
      have N : NodOK l := ⟨q2, q8, hg⟩
      have cO := conrO hv hl10 hm ha hb hbo N (z := z) (by omega) hzz
      have hn : (encP ps m lo hi bo z l).length = l.length := by
        rw [List.length_zip]; show min (encZ _ _ _ _ _ _ _ _).length (encZ _ _ _ _ _ _ _ _).length = _
        rw [encZ_length, encZ_length, Nat.min_self]
      have cRg := conRg (encP ps m lo hi bo z l) (by omega)
      rw [hn] at cRg
      have y : 0 + l.length * 2 ≤ (vp (encP ps m lo hi bo z l)).length := by rw [vp_length, hn]; omega
      by_cases hG : goE z ta tb = 0
      · have cIs := conIsV ps (by omega) m lo hi l (by omega) bo z (by omega) ta tb (by rw [isE_z hB]; exact hG)
        have cIR := conIR hv hl10 hm ha hb hbo N (z := z) (by omega) hzz ta tb
        refine ⟨⟨cYr⟩, ⟨cYs⟩, ⟨cyR⟩, .inr ⟨_, _, _, ⟨cEO⟩, ⟨cYr⟩, ⟨cYs⟩, ⟨cyG⟩, _, _, ⟨cIs⟩, _, ⟨cbE⟩, ?_⟩⟩
        rw [hB]
        simp only [bc_qt]
        refine ⟨_, ⟨crE⟩, ?_⟩
        rw [hZ]
        simp only [bc_nf, bc_t y, vp_tk hn]
        refine .inr ⟨_, _, ⟨cO⟩, ?_⟩
        simp only [bc_t y, vp_tk hn]
        refine .inl ⟨⟨cRg⟩, _, ⟨cGE⟩, ?_⟩
        rw [hG]
        simp only [bc_nf, bc_qt]
        refine ⟨_, ⟨cIR⟩, ?_⟩
        simp only [bc_qt]
      · have cIs := conIsE ps (by omega) m lo hi l (by omega) bo z (by omega) ta tb (by rw [isE_z hB]; exact hG)
        rw [isE_z hB] at cIs
        refine ⟨⟨cYr⟩, ⟨cYs⟩, ⟨cyR⟩, .inr ⟨_, _, _, ⟨cEO⟩, ⟨cYr⟩, ⟨cYs⟩, ⟨cyG⟩, _, _, ⟨cIs⟩, _, ⟨cbE⟩, ?_⟩⟩
        rw [hB]
        simp only [bc_qt]
        refine ⟨_, ⟨crE⟩, ?_⟩
        rw [hZ]
        simp only [bc_nf, bc_t y, vp_tk hn]
        refine .inr ⟨_, _, ⟨cO⟩, ?_⟩
        simp only [bc_t y, vp_tk hn]
        refine .inl ⟨⟨cRg⟩, _, ⟨cGE⟩, ?_⟩
        refine bc_bne (fun _ => ?_) (fun h => absurd h hG)
        simp only [bc_qt]
    · rw [if_neg hZ] at cEO
      have hG : goE z ta tb = rtE z := by unfold goE; rw [if_pos hZ]
      have cIs := conIsE ps (by omega) m lo hi l (by omega) bo z (by omega) ta tb (by rw [isE_z hB, hG]; exact hZ)
      rw [isE_z hB, hG] at cIs
      refine ⟨⟨cYr⟩, ⟨cYs⟩, ⟨cyR⟩, .inl ⟨_, ⟨cEO⟩, ⟨cYr⟩, ⟨cYs⟩, ⟨cyG⟩, _, _, ⟨cIs⟩, _, ⟨cbE⟩, ?_⟩⟩
      rw [hB]
      simp only [bc_qt]
      refine ⟨_, ⟨crE⟩, bc_bne (fun _ => ?_) (fun h => absurd h hZ)⟩
      simp only [bc_qt]
  · have cIs := conIsE ps (by omega) m lo hi l (by omega) bo z (by omega) ta tb (by rw [isE_b hB]; exact hB)
    rw [isE_b hB] at cIs
    rw [eoE_b hB, if_neg hB] at cEO
    refine ⟨⟨cYr⟩, ⟨cYs⟩, ⟨cyR⟩, .inl ⟨_, ⟨cEO⟩, ⟨cYr⟩, ⟨cYs⟩, ⟨cyG⟩, _, _, ⟨cIs⟩, _, ⟨cbE⟩, ?_⟩⟩
    refine bc_beq (fun h => absurd h hB) (fun _ => bc_bne (fun _ => ?_) (fun h => absurd h hB))
    simp only [bc_qt]
end Go.Proofs.G5g

/- FurnaceEnclosures in data: the other shapes. -/
namespace Go.Proofs.G5g
open Go Go.Abs Go.Proofs Go.Proofs.G2
set_option maxRecDepth 100000
theorem rul_nil (m lo hi : Int) : rulE [] m lo hi = 10 := rfl
theorem sl_nil (bo : Int) : slE [] bo = 10 := rfl
theorem lawSSN (ps : List Pt) (m lo hi : Int) (l : List Int) (bo : Int) (ta tb : Int) : C5 3 [dRu ps m lo hi, dSl l bo, dGn ta tb] [.val (.bool true)] := by
  refine con_flat hokL mixed Try.func3 rfl (by show 2 ≤ 400; omega) rfl (by kernel_rfl) (fun caps => ?_)
  show gLssn _ _ ps.length (caps 500) (vp ps) m lo hi l.length (caps 501) (vi l) bo ta tb _
  rw [gLssn_text]
  refine .inl ⟨⟨conA⟩, bc_dec (fun h12 => bc_dec (fun h10 => ?_) (fun _ => rfl)) (fun _ => rfl)⟩
  have cYr := conYr ps (by omega) m lo hi
  have cYs := conYs l (by omega) bo
  have cyR := conyRn
  have cyG := conyGn ta tb
  have cEO := conEO ps (by omega) m lo hi l (by omega) bo [] (by decide)
  have cbE := conbE ps (by omega) m lo hi l (by omega) bo
  try simp only [vi_whole, bc_t (v1le l), vp_whole, bc_t (v2le ps), Dw, Tk, eq_self, true_and, and_true]
  by_cases hB : both (rulE ps m lo hi) (slE l bo) = 0
  · rw [eoE_z hB, if_pos (show rtE [] = 0 from rfl)] at cEO
    obtain ⟨e1, e2⟩ := both0 hB
    obtain ⟨q2, q8, hg, hbo⟩ := sl_ok e2
    have N : NodOK l := ⟨q2, q8, hg⟩
    have cO := conrOn ps (m := m) (a := lo) (b := hi) (bo := bo) N
    have hn : (l.zip l).length = l.length := by simp
    have cRg := conRg (l.zip l) (by omega)
    rw [hn] at cRg
    have y : 0 + l.length * 2 ≤ (vp (l.zip l)).length := by rw [vp_length, hn]; omega
    have cIs := conIsE ps (by omega) m lo hi l (by omega) bo [] (by decide) ta tb (by rw [isE_z hB]; show (10 : Int) ≠ 0; decide)
    rw [isE_z hB, show goE [] ta tb = 10 from rfl] at cIs
    have ez : encP ps m lo hi bo [] l = l.zip l := rfl
    rw [ez] at cEO
    refine ⟨⟨cYr⟩, ⟨cYs⟩, ⟨cyR⟩, .inr ⟨_, _, _, ⟨cEO⟩, ⟨cYr⟩, ⟨cYs⟩, ⟨cyG⟩, _, _, ⟨cIs⟩, _, ⟨cbE⟩, ?_⟩⟩
    rw [hB]
    simp only [bc_qt]
    refine ⟨_, ⟨conrEn⟩, ?_⟩
    simp only [bc_nf, bc_t y, vp_tk hn]
    refine .inr ⟨_, _, ⟨cO⟩, ?_⟩
    simp only [bc_t y, vp_tk hn]
    refine .inl ⟨⟨cRg⟩, _, ⟨conGEn ta tb⟩, ?_⟩
    refine bc_bne (fun _ => ?_) (fun h => absurd h (by decide))
    simp only [bc_qt]
  · have cIs := conIsE ps (by omega) m lo hi l (by omega) bo [] (by decide) ta tb (by rw [isE_b hB]; exact hB)
    rw [isE_b hB] at cIs
    rw [eoE_b hB, if_neg hB] at cEO
    refine ⟨⟨cYr⟩, ⟨cYs⟩, ⟨cyR⟩, .inl ⟨_, ⟨cEO⟩, ⟨cYr⟩, ⟨cYs⟩, ⟨cyG⟩, _, _, ⟨cIs⟩, _, ⟨cbE⟩, ?_⟩⟩
    refine bc_beq (fun h => absurd h hB) (fun _ => bc_bne (fun _ => ?_) (fun h => absurd h hB))
    simp only [bc_qt]
theorem lawSNS (ps : List Pt) (m lo hi : Int) (bo : Int) (z : List (Int × Int)) (ta tb : Int) : C5 3 [dRu ps m lo hi, dSn bo, dGo z ta tb] [.val (.bool true)] := by
  refine con_flat hokL mixed Try.func3 rfl (by show 2 ≤ 400; omega) rfl (by kernel_rfl) (fun caps => ?_)
  show gLsns _ _ ps.length (caps 500) (vp ps) m lo hi bo z.length (caps 501) (vp z) ta tb _
  rw [gLsns_text]
  refine .inl ⟨⟨conA⟩, bc_dec (fun h12 => bc_dec (fun _ => rfl) (fun h7 => ?_)) (fun _ => rfl)⟩
  have cYr := conYr ps (by omega) m lo hi
  have cYs := conYsn bo
  have cyR := conyR z (by omega)
  have cyG := conyG z (by omega) ta tb
  have cEO := conEO ps (by omega) m lo hi [] (by decide) bo z (by omega)
  have cbE := conbE1 ps (by omega) m lo hi bo
  rw [← sl_nil bo] at cbE
  have hB : both (rulE ps m lo hi) (slE [] bo) ≠ 0 := by rw [sl_nil]; unfold both; split <;> omega
  try simp only [bc_t (v2le z), vp_whole, bc_t (v2le ps), Dw, Tk, eq_self, true_and, and_true]
  have cIs := conIsE ps (by omega) m lo hi [] (by decide) bo z (by omega) ta tb (by rw [isE_b hB]; exact hB)
  rw [isE_b hB] at cIs
  rw [eoE_b hB, if_neg hB] at cEO
  refine ⟨⟨cYr⟩, ⟨cYs⟩, ⟨cyR⟩, .inl ⟨_, ⟨cEO⟩, ⟨cYr⟩, ⟨cYs⟩, ⟨cyG⟩, _, _, ⟨cIs⟩, _, ⟨cbE⟩, ?_⟩⟩
  refine bc_beq (fun h => absurd h hB) (fun _ => bc_bne (fun _ => ?_) (fun h => absurd h hB))
  simp only [bc_qt]
theorem lawSNN (ps : List Pt) (m lo hi : Int) (bo : Int) (ta tb : Int) : C5 3 [dRu ps m lo hi, dSn bo, dGn ta tb] [.val (.bool true)] := by
  refine con_flat hokL mixed Try.func3 rfl (by show 1 ≤ 400; omega) rfl (by kernel_rfl) (fun caps => ?_)
  show gLsnn _ _ ps.length (caps 500) (vp ps) m lo hi bo ta tb _
  rw [gLsnn_text]
  refine .inl ⟨⟨conA⟩, bc_dec (fun h12 => ?_) (fun _ => rfl)⟩
  have cYr := conYr ps (by omega) m lo hi
  have cYs := conYsn bo
  have cyR := conyRn
  have cyG := conyGn ta tb
  have cEO := conEO ps (by omega) m lo hi [] (by decide) bo [] (by decide)
  have cbE := conbE1 ps (by omega) m lo hi bo
  rw [← sl_nil bo] at cbE
  have hB : both (rulE ps m lo hi) (slE [] bo) ≠ 0 := by rw [sl_nil]; unfold both; split <;> omega
  try simp only [vp_whole, bc_t (v2le ps), Dw, Tk, eq_self, true_and, and_true]
  have cIs := conIsE ps (by omega) m lo hi [] (by decide) bo [] (by decide) ta tb (by rw [isE_b hB]; exact hB)
  rw [isE_b hB] at cIs
  rw [eoE_b hB, if_neg hB] at cEO
  refine ⟨⟨cYr⟩, ⟨cYs⟩, ⟨cyR⟩, .inl ⟨_, ⟨cEO⟩, ⟨cYr⟩, ⟨cYs⟩, ⟨cyG⟩, _, _, ⟨cIs⟩, _, ⟨cbE⟩, ?_⟩⟩
  refine bc_beq (fun h => absurd h hB) (fun _ => bc_bne (fun _ => ?_) (fun h => absurd h hB))
  simp only [bc_qt]
theorem lawNSS (m lo hi : Int) (l : List Int) (bo : Int) (z : List (Int × Int)) (ta tb : Int) : C5 3 [dRn m lo hi, dSl l bo, dGo z ta tb] [.val (.bool true)] := by
  refine con_flat hokL mixed Try.func3 rfl (by show 2 ≤ 400; omega) rfl (by kernel_rfl) (fun caps => ?_)
  show gLnss _ _ m lo hi l.length (caps 500) (vi l) bo z.length (caps 501) (vp z) ta tb _
  rw [gLnss_text]
  refine .inl ⟨⟨conA⟩, bc_dec (fun h10 => bc_dec (fun _ => rfl) (fun h7 => ?_)) (fun _ => rfl)⟩
  have cYr := conYrn m lo hi
  have cYs := conYs l (by omega) bo
  have cyR := conyR z (by omega)
  have cyG := conyG z (by omega) ta tb
  have cEO := conEO [] (by decide) m lo hi l (by omega) bo z (by omega)
  have cbE := conbE2 m lo hi l bo
  have hB : both (rulE [] m lo hi) (slE l bo) ≠ 0 := by rw [rul_nil]; unfold both; rw [if_pos (by decide)]; decide
  have hBe : both (rulE [] m lo hi) (slE l bo) = 10 := by rw [rul_nil]; unfold both; rw [if_pos (by decide)]
  rw [← hBe] at cbE
  try simp only [vp_whole, bc_t (v2le z), vi_whole, bc_t (v1le l), Dw, Tk, eq_self, true_and, and_true]
  have cIs := conIsE [] (by decide) m lo hi l (by omega) bo z (by omega) ta tb (by rw [isE_b hB]; exact hB)
  rw [isE_b hB] at cIs
  rw [eoE_b hB, if_neg hB] at cEO
  refine ⟨⟨cYr⟩, ⟨cYs⟩, ⟨cyR⟩, .inl ⟨_, ⟨cEO⟩, ⟨cYr⟩, ⟨cYs⟩, ⟨cyG⟩, _, _, ⟨cIs⟩, _, ⟨cbE⟩, ?_⟩⟩
  refine bc_beq (fun h => absurd h hB) (fun _ => bc_bne (fun _ => ?_) (fun h => absurd h hB))
  simp only [bc_qt]
theorem lawNSN (m lo hi : Int) (l : List Int) (bo : Int) (ta tb : Int) : C5 3 [dRn m lo hi, dSl l bo, dGn ta tb] [.val (.bool true)] := by
  refine con_flat hokL mixed Try.func3 rfl (by show 1 ≤ 400; omega) rfl (by kernel_rfl) (fun caps => ?_)
  show gLnsn _ _ m lo hi l.length (caps 500) (vi l) bo ta tb _
  rw [gLnsn_text]
  refine .inl ⟨⟨conA⟩, bc_dec (fun h10 => ?_) (fun _ => rfl)⟩
  have cYr := conYrn m lo hi
  have cYs := conYs l (by omega) bo
  have cyR := conyRn
  have cyG := conyGn ta tb
  have cEO := conEO [] (by decide) m lo hi l (by omega) bo [] (by decide)
  have cbE := conbE2 m lo hi l bo
  have hB : both (rulE [] m lo hi) (slE l bo) ≠ 0 := by rw [rul_nil]; unfold both; rw [if_pos (by decide)]; decide
  have hBe : both (rulE [] m lo hi) (slE l bo) = 10 := by rw [rul_nil]; unfold both; rw [if_pos (by decide)]
  rw [← hBe] at cbE
  try simp only [vi_whole, bc_t (v1le l), Dw, Tk, eq_self, true_and, and_true]
  have cIs := conIsE [] (by decide) m lo hi l (by omega) bo [] (by decide) ta tb (by rw [isE_b hB]; exact hB)
  rw [isE_b hB] at cIs
  rw [eoE_b hB, if_neg hB] at cEO
  refine ⟨⟨cYr⟩, ⟨cYs⟩, ⟨cyR⟩, .inl ⟨_, ⟨cEO⟩, ⟨cYr⟩, ⟨cYs⟩, ⟨cyG⟩, _, _, ⟨cIs⟩, _, ⟨cbE⟩, ?_⟩⟩
  refine bc_beq (fun h => absurd h hB) (fun _ => bc_bne (fun _ => ?_) (fun h => absurd h hB))
  simp only [bc_qt]
theorem lawNNS (m lo hi : Int) (bo : Int) (z : List (Int × Int)) (ta tb : Int) : C5 3 [dRn m lo hi, dSn bo, dGo z ta tb] [.val (.bool true)] := by
  refine con_flat hokL mixed Try.func3 rfl (by show 1 ≤ 400; omega) rfl (by kernel_rfl) (fun caps => ?_)
  show gLnns _ _ m lo hi bo z.length (caps 500) (vp z) ta tb _
  rw [gLnns_text]
  refine .inl ⟨⟨conA⟩, bc_dec (fun _ => rfl) (fun h7 => ?_)⟩
  have cYr := conYrn m lo hi
  have cYs := conYsn bo
  have cyR := conyR z (by omega)
  have cyG := conyG z (by omega) ta tb
  have cEO := conEO [] (by decide) m lo hi [] (by decide) bo z (by omega)
  have cbE := conbE3 m lo hi bo
  have hB : both (rulE [] m lo hi) (slE [] bo) ≠ 0 := by rw [rul_nil]; unfold both; rw [if_pos (by decide)]; decide
  have hBe : both (rulE [] m lo hi) (slE [] bo) = 10 := by rw [rul_nil]; unfold both; rw [if_pos (by decide)]
  rw [← hBe] at cbE
  try simp only [vp_whole, bc_t (v2le z), Dw, Tk, eq_self, true_and, and_true]
  have cIs := conIsE [] (by decide) m lo hi [] (by decide) bo z (by omega) ta tb (by rw [isE_b hB]; exact hB)
  rw [isE_b hB] at cIs
  rw [eoE_b hB, if_neg hB] at cEO
  refine ⟨⟨cYr⟩, ⟨cYs⟩, ⟨cyR⟩, .inl ⟨_, ⟨cEO⟩, ⟨cYr⟩, ⟨cYs⟩, ⟨cyG⟩, _, _, ⟨cIs⟩, _, ⟨cbE⟩, ?_⟩⟩
  refine bc_beq (fun h => absurd h hB) (fun _ => bc_bne (fun _ => ?_) (fun h => absurd h hB))
  simp only [bc_qt]
theorem lawNNN (m lo hi : Int) (bo : Int) (ta tb : Int) : C5 3 [dRn m lo hi, dSn bo, dGn ta tb] [.val (.bool true)] := by
  refine con_flat hokL mixed Try.func3 rfl (by show 0 ≤ 400; omega) rfl (by kernel_rfl) (fun caps => ?_)
  show gLnnn _ _ m lo hi bo ta tb _
  rw [gLnnn_text]
  refine .inl ⟨⟨conA⟩, ?_⟩
  have cYr := conYrn m lo hi
  have cYs := conYsn bo
  have cyR := conyRn
  have cyG := conyGn ta tb
  have cEO := conEO [] (by decide) m lo hi [] (by decide) bo [] (by decide)
  have cbE := conbE3 m lo hi bo
  have hB : both (rulE [] m lo hi) (slE [] bo) ≠ 0 := by rw [rul_nil]; unfold both; rw [if_pos (by decide)]; decide
  have hBe : both (rulE [] m lo hi) (slE [] bo) = 10 := by rw [rul_nil]; unfold both; rw [if_pos (by decide)]
  rw [← hBe] at cbE
  try simp only [Dw, Tk, eq_self, true_and, and_true]
  have cIs := conIsE [] (by decide) m lo hi [] (by decide) bo [] (by decide) ta tb (by rw [isE_b hB]; exact hB)
  rw [isE_b hB] at cIs
  rw [eoE_b hB, if_neg hB] at cEO
  refine ⟨⟨cYr⟩, ⟨cYs⟩, ⟨cyR⟩, .inl ⟨_, ⟨cEO⟩, ⟨cYr⟩, ⟨cYs⟩, ⟨cyG⟩, _, _, ⟨cIs⟩, _, ⟨cbE⟩, ?_⟩⟩
  refine bc_beq (fun h => absurd h hB) (fun _ => bc_bne (fun _ => ?_) (fun h => absurd h hB))
  simp only [bc_qt]
end Go.Proofs.G5g

/- FurnaceEnclosures: whatever the input, it returns true, and the input reads as it did. No condition. -/
namespace Go.Proofs.Ytncecdbelpahnaa.K
open Go Go.Abs Go.RowKit Go.ChangeShapes Go.WideShapes Go.ChangeAt Go.Proofs Go.Flat Go.Proofs.G5g
set_option maxRecDepth 100000
namespace FurnaceEnclosures
abbrev shs : List Sh := [.agg [22, 3, 3, 3], .agg [29, 3], .agg [32, 3, 3]]
theorem shapes : Try.f3.params.toList.mapM (argSh Try.prog) = some shs := by kernel_rfl
theorem all (ds : List D) (h : ShDs Try.prog shs ds) : Con Try.prog 3 ds [.val (.bool true)] := by
  cases h with | cons h1 t => cases t with | cons h2 t => cases t with | cons h3 t =>
  cases t
  obtain ⟨d1, rfl, h1⟩ := h1
  obtain ⟨d2, rfl, h2⟩ := h2
  obtain ⟨d3, rfl, h3⟩ := h3
  cases h1 with | cons p1 t => cases t with | cons p2 t => cases t with | cons p3 t => cases t with | cons p4 t =>
  cases t
  cases h2 with | cons q1 t => cases t with | cons q2 t =>
  cases t
  cases h3 with | cons r0 t => cases t with | cons r1 t => cases t with | cons r2 t =>
  cases t
  obtain ⟨m, rfl, _⟩ := leaf_int Try.underlying3 p2
  obtain ⟨lo, rfl, _⟩ := leaf_int Try.underlying3 p3
  obtain ⟨hi, rfl, _⟩ := leaf_int Try.underlying3 p4
  obtain ⟨bo, rfl, _⟩ := leaf_int Try.underlying3 q2
  obtain ⟨ta, rfl, _⟩ := leaf_int Try.underlying3 r1
  obtain ⟨tb, rfl, _⟩ := leaf_int Try.underlying3 r2
  rcases leaf_prs Try.underlying22 (by kernel_rfl) p1 with rfl | ⟨ps, rfl, _⟩ <;>
  rcases leaf_ints Try.underlying29 (by kernel_rfl) q1 with rfl | ⟨l, rfl⟩ <;>
  rcases leaf_prs Try.underlying32 (by kernel_rfl) r0 with rfl | ⟨z, rfl, _⟩
  · exact lawNNN m lo hi bo ta tb
  · exact lawNNS m lo hi bo z ta tb
  · exact lawNSN m lo hi l bo ta tb
  · exact lawNSS m lo hi l bo z ta tb
  · exact lawSNN ps m lo hi bo ta tb
  · exact lawSNS ps m lo hi bo z ta tb
  · exact lawSSN ps m lo hi l bo ta tb
  · exact lawSSS ps m lo hi l bo z ta tb
theorem lifted (os : Os) (started : os.Started) (H : Type) (enc : TypeId × Value → H) :
    ReturnsInHanded {} Try.checked os 3 .any (Rows.furnaceEnclosuresSpec.pre6 enc Try.prog Try.f3 Rows.furnaceEnclosuresRow.domain false) (Rows.furnaceEnclosuresSpec.post enc Try.prog Try.f3 false true false false) := by
  refine returnsInHanded_of_change (C := Try.checked) own started (by kernel_rfl) Try.func3
    (ChangeSpec.witness6 (enc := enc) (C := Try.checked) false ⟨#[], #[.agg #[.slice none 0 0, .int .i64 0, .int .i64 0, .int .i64 0], .agg #[.slice none 0 0, .int .i64 0], .agg #[.slice none 0 0, .int .i64 0, .int .i64 0]], []⟩ 8 (by kernel_rfl) (by kernel_rfl) (by kernel_rfl) (by kernel_rfl)) ?_
  intro W base args ds gs before hval hW _ _
  exact law_shapes (tb := 4) (s := Rows.furnaceEnclosuresSpec) shapes all laidP mapsP slicesP (tsP (by kernel_rfl)) rfl Try.underlying4 rfl (fun ds h => by
    match ds, h with
    | [_, _, _], _ => exact ⟨rfl, rfl, rfl⟩) hval hW (good0 W)
theorem holds : Rows.FurnaceEnclosuresSaid :=
  OpenClaim.holds_of_wide 3 Try.f3 rfl rfl rfl rfl rfl rfl rfl ⟨rfl, rfl, rfl, rfl, rfl⟩ rfl rfl rfl rfl rfl (by kernel_rfl) Try.func3 (by kernel_rfl)
    (of_decide_eq_true (by kernel_rfl)) (by unfold Func.isWrapper; first | (rw [if_pos (by decide +kernel)]; kernel_rfl) | (rw [if_neg (by decide +kernel)]; exact ⟨rfl, rfl⟩))
    (fun os started H enc _ => lifted os started H enc)
#print axioms holds
end FurnaceEnclosures
end Go.Proofs.Ytncecdbelpahnaa.K
