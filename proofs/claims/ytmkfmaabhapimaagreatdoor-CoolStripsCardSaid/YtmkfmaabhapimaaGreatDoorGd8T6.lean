/- What is left to show of each function, written out; the kernel reckons it. -/
import Derived.Test.YtmkfmaabhapimaaGreatDoorGd8T5
namespace Go.Proofs.G5d
open Go Go.Abs Go.Proofs
set_option maxRecDepth 100000
set_option linter.unusedVariables false
def gLSt (C : Ct) (L : AtLoop) (x0 : Int) (x1 : Int) (n3 : Nat) (c3 : Nat) (l3 : List Value) (n4 : Nat) (c4 : Nat) (l4 : List Value) (n5 : Nat) (c5 : Nat) (l5 : List Value) (k : List D → Prop) : Prop := wpFn Tryz.prog (hC C) L 0 3 #[.agg #[.int .i64 x0, .int .i64 x1, .slice none 0 0], .agg #[.slice (some ⟨500, 0, none⟩) n3 c3, .slice (some ⟨501, 0, none⟩) n4 c4], .slice (some ⟨502, 0, none⟩) n5 c5] (heapOf [(500, .sym l3 false 2), (501, .sym l4 false 2), (502, .sym l5 false 1)]) (dataK k)
theorem gLSt_text (C : Ct) (L : AtLoop) (x0 : Int) (x1 : Int) (n3 : Nat) (c3 : Nat) (l3 : List Go.Value) (n4 : Nat) (c4 : Nat) (l4 : List Go.Value) (n5 : Nat) (c5 : Nat) (l5 : List Go.Value) (k : List D → Prop) : gLSt C L x0 x1 n3 c3 l3 n4 c4 l4 n5 c5 l5 k =
 (((Says C 4 [] kT) ∧
 (bcase (decide ((↑n3 : Int) ≤ 14))
 (bcase (decide ((↑n4 : Int) ≤ 14))
 (bcase (decide ((↑n5 : Int) ≤ 14))
 (bcase (dL n3 2 l3)
 (bcase (dL n4 2 l4)
 ((Says C 8 [(D.agg [(Dw n3 2 l3), (Dw n4 2 l4)])] [(D.agg [(Dw n3 2 l3), (Dw n4 2 l4)])]) ∧
 (bcase (dL n3 2 (Tk n3 2 l3))
 (bcase (dL n4 2 (Tk n4 2 l4))
 (∃ n1 : Int,
 (∃ n2 : Int,
 ((Says C 7 [(D.agg [(Dw n3 2 (Tk n3 2 l3)), (Dw n4 2 (Tk n4 2 l4))])] [(dI n1), (dI n2)]) ∧
 (((Qv (Sl 502 (n5) (c5))) ∧
 ((Qv (Go.Value.agg [(Sl 500 (n3) (c3)), (Sl 501 (n4) (c4))].toArray)) ∧
 ((Qv (Go.Value.agg [(vI x0), (vI x1), (Go.Value.slice Option.none 0 0)].toArray)) ∧
 True))) ∧
 ((Says C 10 [(D.agg [(dI x0), (dI x1), D.nil])] [(D.agg [(dI x0), (dI x1), (D.sl 0 3 [])])]) ∧
 (((Qv (Sl 502 (n5) (c5))) ∧
 ((Qv (Go.Value.agg [(Sl 500 (n3) (c3)), (Sl 501 (n4) (c4))].toArray)) ∧
 True)) ∧
 (bcase (dL n3 2 l3)
 (bcase (dL n4 2 l4)
 ((Says C 8 [(D.agg [(Dw n3 2 l3), (Dw n4 2 l4)])] [(D.agg [(Dw n3 2 l3), (Dw n4 2 l4)])]) ∧
 (((Qv (Sl 502 (n5) (c5))) ∧
 True) ∧
 (bcase (dL n5 1 l5)
 ((Says C 11 [(Dw n5 1 l5)] [(Dw n5 1 l5)]) ∧
 (True ∧
 (bcase (dL n3 2 (Tk n3 2 l3))
 (bcase (dL n4 2 (Tk n4 2 l4))
 (bcase (dL n5 1 (Tk n5 1 l5))
 ((∃ n6 : Int,
 ((Says C 9 [(D.agg [(dI x0), (dI x1), (D.sl 0 3 [])]), (D.agg [(Dw n3 2 (Tk n3 2 l3)), (Dw n4 2 (Tk n4 2 l4))]), (Dw n5 1 (Tk n5 1 l5))] [D.nil, (dI n6)]) ∧
 (((Qv (vI n6)) ∧
 ((Qv (Go.Value.slice Option.none 0 0)) ∧
 ((Qv (Go.Value.tuple [(Go.Value.slice Option.none 0 0), (vI n6)].toArray)) ∧
 True))) ∧
 (((Qv (vI n6)) ∧
 True) ∧
 (True ∧
 (((Qv (Sl 502 (n5) (c5))) ∧
 ((Qv (Go.Value.agg [(Sl 500 (n3) (c3)), (Sl 501 (n4) (c4))].toArray)) ∧
 ((Qv (Go.Value.agg [(vI x0), (vI x1), (Go.Value.slice Option.none 0 0)].toArray)) ∧
 True))) ∧
 ((Says C 10 [(D.agg [(dI x0), (dI x1), D.nil])] [(D.agg [(dI x0), (dI x1), (D.sl 0 3 [])])]) ∧
 (((Qv (Sl 502 (n5) (c5))) ∧
 ((Qv (Go.Value.agg [(Sl 500 (n3) (c3)), (Sl 501 (n4) (c4))].toArray)) ∧
 True)) ∧
 (bcase (dL n3 2 l3)
 (bcase (dL n4 2 l4)
 ((Says C 8 [(D.agg [(Dw n3 2 l3), (Dw n4 2 l4)])] [(D.agg [(Dw n3 2 l3), (Dw n4 2 l4)])]) ∧
 (((Qv (Sl 502 (n5) (c5))) ∧
 True) ∧
 (bcase (dL n5 1 l5)
 ((Says C 11 [(Dw n5 1 l5)] [(Dw n5 1 l5)]) ∧
 (True ∧
 (bcase (dL n3 2 (Tk n3 2 l3))
 (bcase (dL n4 2 (Tk n4 2 l4))
 (bcase (dL n5 1 (Tk n5 1 l5))
 ((∃ n7 : Int,
 ((Says C 12 [(D.agg [(dI x0), (dI x1), (D.sl 0 3 [])]), (D.agg [(Dw n3 2 (Tk n3 2 l3)), (Dw n4 2 (Tk n4 2 l4))]), (Dw n5 1 (Tk n5 1 l5))] [D.nil, (dI n7)]) ∧
 (((Qv (vI n7)) ∧
 ((Qv (Go.Value.slice Option.none 0 0)) ∧
 ((Qv (Go.Value.tuple [(Go.Value.slice Option.none 0 0), (vI n7)].toArray)) ∧
 True))) ∧
 (((Qv (vI n7)) ∧
 True) ∧
 (True ∧
 (bcase (dL n3 2 l3)
 (bcase (dL n4 2 l4)
 (∃ n8 : Int,
 (∃ n9 : Int,
 ((Says C 13 [(D.agg [(Dw n3 2 l3), (Dw n4 2 l4)])] [(dI n8), (dI n9)]) ∧
 (bcase (n2 != n9)
 (k kF)
 (bcase (n1 != n8)
 (k kF)
 (bcase (dL n3 2 l3)
 (bcase (dL n4 2 l4)
 (∃ n10 : Int,
 ((Says C 14 [(D.agg [(dI x0), (dI x1), D.nil]), (D.agg [(Dw n3 2 l3), (Dw n4 2 l4)])] [(dI n10)]) ∧
 (bcase (n10 == 0)
 (bcase (dL n3 2 l3)
 (bcase (dL n4 2 l4)
 (bcase (dL n5 1 l5)
 (∃ n11 : Int,
 ((Says C 15 [(D.agg [(dI x0), (dI x1), D.nil]), (D.agg [(Dw n3 2 l3), (Dw n4 2 l4)]), (Dw n5 1 l5)] [(dI n11)]) ∧
 (bcase (n11 != 0)
 (bcase (n6 == n11)
 (bcase (n7 == n11)
 (k kT)
 (k kF))
 (k kF))
 (bcase (n6 == 0)
 (bcase (dL n3 2 l3)
 (bcase (dL n4 2 l4)
 (bcase (dL n5 1 l5)
 (((Says C 17 [(D.agg [(dI x0), (dI x1), D.nil]), (D.agg [(Dw n3 2 l3), (Dw n4 2 l4)]), (Dw n5 1 l5)] [D.nil]) ∧
 (((Says C 16 [D.nil, D.nil] kT) ∧
 (bcase (n7 == 0)
 (bcase (dL n3 2 l3)
 (bcase (dL n4 2 l4)
 (bcase (dL n5 1 l5)
 (((Says C 19 [(D.agg [(dI x0), (dI x1), D.nil]), (D.agg [(Dw n3 2 l3), (Dw n4 2 l4)]), (Dw n5 1 l5)] [D.nil]) ∧
 (((Says C 18 [D.nil, D.nil] kT) ∧
 (k kT)) ∨
 ((Says C 18 [D.nil, D.nil] kF) ∧
 (k kF)))) ∨
 (∃ n12 : Nat,
 (∃ cs1 : List Go.Value,
 ((Says C 19 [(D.agg [(dI x0), (dI x1), D.nil]), (D.agg [(Dw n3 2 l3), (Dw n4 2 l4)]), (Dw n5 1 l5)] [(D.sl (n12) 1 (cs1))]) ∧
 (bcase (dL n12 1 cs1)
 (((Says C 18 [D.nil, (Dw n12 1 cs1)] kT) ∧
 (k kT)) ∨
 ((Says C 18 [D.nil, (Dw n12 1 cs1)] kF) ∧
 (k kF)))
 False)))))
 False)
 False)
 False)
 (k kF))) ∨
 ((Says C 16 [D.nil, D.nil] kF) ∧
 (k kF)))) ∨
 (∃ n12 : Nat,
 (∃ cs1 : List Go.Value,
 ((Says C 17 [(D.agg [(dI x0), (dI x1), D.nil]), (D.agg [(Dw n3 2 l3), (Dw n4 2 l4)]), (Dw n5 1 l5)] [(D.sl (n12) 2 (cs1))]) ∧
 (bcase (dL n12 2 cs1)
 (((Says C 16 [D.nil, (Dw n12 2 cs1)] kT) ∧
 (bcase (n7 == 0)
 (bcase (dL n3 2 l3)
 (bcase (dL n4 2 l4)
 (bcase (dL n5 1 l5)
 (((Says C 19 [(D.agg [(dI x0), (dI x1), D.nil]), (D.agg [(Dw n3 2 l3), (Dw n4 2 l4)]), (Dw n5 1 l5)] [D.nil]) ∧
 (((Says C 18 [D.nil, D.nil] kT) ∧
 (k kT)) ∨
 ((Says C 18 [D.nil, D.nil] kF) ∧
 (k kF)))) ∨
 (∃ n13 : Nat,
 (∃ cs2 : List Go.Value,
 ((Says C 19 [(D.agg [(dI x0), (dI x1), D.nil]), (D.agg [(Dw n3 2 l3), (Dw n4 2 l4)]), (Dw n5 1 l5)] [(D.sl (n13) 1 (cs2))]) ∧
 (bcase (dL n13 1 cs2)
 (((Says C 18 [D.nil, (Dw n13 1 cs2)] kT) ∧
 (k kT)) ∨
 ((Says C 18 [D.nil, (Dw n13 1 cs2)] kF) ∧
 (k kF)))
 False)))))
 False)
 False)
 False)
 (k kF))) ∨
 ((Says C 16 [D.nil, (Dw n12 2 cs1)] kF) ∧
 (k kF)))
 False)))))
 False)
 False)
 False)
 (k kF)))))
 False)
 False)
 False)
 (bcase (n10 != 0)
 (bcase (n6 == n10)
 (bcase (n7 == n10)
 (k kT)
 (k kF))
 (k kF))
 (bcase (n6 == 0)
 (bcase (dL n3 2 l3)
 (bcase (dL n4 2 l4)
 (bcase (dL n5 1 l5)
 (((Says C 17 [(D.agg [(dI x0), (dI x1), D.nil]), (D.agg [(Dw n3 2 l3), (Dw n4 2 l4)]), (Dw n5 1 l5)] [D.nil]) ∧
 (((Says C 16 [D.nil, D.nil] kT) ∧
 (bcase (n7 == 0)
 (bcase (dL n3 2 l3)
 (bcase (dL n4 2 l4)
 (bcase (dL n5 1 l5)
 (((Says C 19 [(D.agg [(dI x0), (dI x1), D.nil]), (D.agg [(Dw n3 2 l3), (Dw n4 2 l4)]), (Dw n5 1 l5)] [D.nil]) ∧
 (((Says C 18 [D.nil, D.nil] kT) ∧
 (k kT)) ∨
 ((Says C 18 [D.nil, D.nil] kF) ∧
 (k kF)))) ∨
 (∃ n11 : Nat,
 (∃ cs1 : List Go.Value,
 ((Says C 19 [(D.agg [(dI x0), (dI x1), D.nil]), (D.agg [(Dw n3 2 l3), (Dw n4 2 l4)]), (Dw n5 1 l5)] [(D.sl (n11) 1 (cs1))]) ∧
 (bcase (dL n11 1 cs1)
 (((Says C 18 [D.nil, (Dw n11 1 cs1)] kT) ∧
 (k kT)) ∨
 ((Says C 18 [D.nil, (Dw n11 1 cs1)] kF) ∧
 (k kF)))
 False)))))
 False)
 False)
 False)
 (k kF))) ∨
 ((Says C 16 [D.nil, D.nil] kF) ∧
 (k kF)))) ∨
 (∃ n11 : Nat,
 (∃ cs1 : List Go.Value,
 ((Says C 17 [(D.agg [(dI x0), (dI x1), D.nil]), (D.agg [(Dw n3 2 l3), (Dw n4 2 l4)]), (Dw n5 1 l5)] [(D.sl (n11) 2 (cs1))]) ∧
 (bcase (dL n11 2 cs1)
 (((Says C 16 [D.nil, (Dw n11 2 cs1)] kT) ∧
 (bcase (n7 == 0)
 (bcase (dL n3 2 l3)
 (bcase (dL n4 2 l4)
 (bcase (dL n5 1 l5)
 (((Says C 19 [(D.agg [(dI x0), (dI x1), D.nil]), (D.agg [(Dw n3 2 l3), (Dw n4 2 l4)]), (Dw n5 1 l5)] [D.nil]) ∧
 (((Says C 18 [D.nil, D.nil] kT) ∧
 (k kT)) ∨
 ((Says C 18 [D.nil, D.nil] kF) ∧
 (k kF)))) ∨
 (∃ n12 : Nat,
 (∃ cs2 : List Go.Value,
 ((Says C 19 [(D.agg [(dI x0), (dI x1), D.nil]), (D.agg [(Dw n3 2 l3), (Dw n4 2 l4)]), (Dw n5 1 l5)] [(D.sl (n12) 1 (cs2))]) ∧
 (bcase (dL n12 1 cs2)
 (((Says C 18 [D.nil, (Dw n12 1 cs2)] kT) ∧
 (k kT)) ∨
 ((Says C 18 [D.nil, (Dw n12 1 cs2)] kF) ∧
 (k kF)))
 False)))))
 False)
 False)
 False)
 (k kF))) ∨
 ((Says C 16 [D.nil, (Dw n11 2 cs1)] kF) ∧
 (k kF)))
 False)))))
 False)
 False)
 False)
 (k kF))))))
 False)
 False))))))
 False)
 False)))))) ∨
 (∃ n7 : Nat,
 (∃ cs1 : List Go.Value,
 (∃ n8 : Int,
 ((Says C 12 [(D.agg [(dI x0), (dI x1), (D.sl 0 3 [])]), (D.agg [(Dw n3 2 (Tk n3 2 l3)), (Dw n4 2 (Tk n4 2 l4))]), (Dw n5 1 (Tk n5 1 l5))] [(D.sl (n7) 1 (cs1)), (dI n8)]) ∧
 (((Qv (vI n8)) ∧
 ((Qv (Sl 1015 (n7) (n7))) ∧
 ((Qv (Go.Value.tuple [(Sl 1015 (n7) (n7)), (vI n8)].toArray)) ∧
 True))) ∧
 (((Qv (vI n8)) ∧
 True) ∧
 (True ∧
 (bcase (dL n3 2 l3)
 (bcase (dL n4 2 l4)
 (∃ n9 : Int,
 (∃ n10 : Int,
 ((Says C 13 [(D.agg [(Dw n3 2 l3), (Dw n4 2 l4)])] [(dI n9), (dI n10)]) ∧
 (bcase (n2 != n10)
 (k kF)
 (bcase (n1 != n9)
 (k kF)
 (bcase (dL n3 2 l3)
 (bcase (dL n4 2 l4)
 (∃ n11 : Int,
 ((Says C 14 [(D.agg [(dI x0), (dI x1), D.nil]), (D.agg [(Dw n3 2 l3), (Dw n4 2 l4)])] [(dI n11)]) ∧
 (bcase (n11 == 0)
 (bcase (dL n3 2 l3)
 (bcase (dL n4 2 l4)
 (bcase (dL n5 1 l5)
 (∃ n12 : Int,
 ((Says C 15 [(D.agg [(dI x0), (dI x1), D.nil]), (D.agg [(Dw n3 2 l3), (Dw n4 2 l4)]), (Dw n5 1 l5)] [(dI n12)]) ∧
 (bcase (n12 != 0)
 (bcase (n6 == n12)
 (bcase (n8 == n12)
 (bcase ((↑n7 : Int) == 0)
 (k kT)
 (k kF))
 (k kF))
 (k kF))
 (bcase (n6 == 0)
 (bcase (dL n3 2 l3)
 (bcase (dL n4 2 l4)
 (bcase (dL n5 1 l5)
 (((Says C 17 [(D.agg [(dI x0), (dI x1), D.nil]), (D.agg [(Dw n3 2 l3), (Dw n4 2 l4)]), (Dw n5 1 l5)] [D.nil]) ∧
 (((Says C 16 [D.nil, D.nil] kT) ∧
 (bcase (n8 == 0)
 (bcase (dL n3 2 l3)
 (bcase (dL n4 2 l4)
 (bcase (dL n5 1 l5)
 (((Says C 19 [(D.agg [(dI x0), (dI x1), D.nil]), (D.agg [(Dw n3 2 l3), (Dw n4 2 l4)]), (Dw n5 1 l5)] [D.nil]) ∧
 (bcase (dL n7 1 cs1)
 (((Says C 18 [(Dw n7 1 cs1), D.nil] kT) ∧
 (k kT)) ∨
 ((Says C 18 [(Dw n7 1 cs1), D.nil] kF) ∧
 (k kF)))
 False)) ∨
 (∃ n13 : Nat,
 (∃ cs2 : List Go.Value,
 ((Says C 19 [(D.agg [(dI x0), (dI x1), D.nil]), (D.agg [(Dw n3 2 l3), (Dw n4 2 l4)]), (Dw n5 1 l5)] [(D.sl (n13) 1 (cs2))]) ∧
 (bcase (dL n7 1 cs1)
 (bcase (dL n13 1 cs2)
 (((Says C 18 [(Dw n7 1 cs1), (Dw n13 1 cs2)] kT) ∧
 (k kT)) ∨
 ((Says C 18 [(Dw n7 1 cs1), (Dw n13 1 cs2)] kF) ∧
 (k kF)))
 False)
 False)))))
 False)
 False)
 False)
 (k kF))) ∨
 ((Says C 16 [D.nil, D.nil] kF) ∧
 (k kF)))) ∨
 (∃ n13 : Nat,
 (∃ cs2 : List Go.Value,
 ((Says C 17 [(D.agg [(dI x0), (dI x1), D.nil]), (D.agg [(Dw n3 2 l3), (Dw n4 2 l4)]), (Dw n5 1 l5)] [(D.sl (n13) 2 (cs2))]) ∧
 (bcase (dL n13 2 cs2)
 (((Says C 16 [D.nil, (Dw n13 2 cs2)] kT) ∧
 (bcase (n8 == 0)
 (bcase (dL n3 2 l3)
 (bcase (dL n4 2 l4)
 (bcase (dL n5 1 l5)
 (((Says C 19 [(D.agg [(dI x0), (dI x1), D.nil]), (D.agg [(Dw n3 2 l3), (Dw n4 2 l4)]), (Dw n5 1 l5)] [D.nil]) ∧
 (bcase (dL n7 1 cs1)
 (((Says C 18 [(Dw n7 1 cs1), D.nil] kT) ∧
 (k kT)) ∨
 ((Says C 18 [(Dw n7 1 cs1), D.nil] kF) ∧
 (k kF)))
 False)) ∨
 (∃ n14 : Nat,
 (∃ cs3 : List Go.Value,
 ((Says C 19 [(D.agg [(dI x0), (dI x1), D.nil]), (D.agg [(Dw n3 2 l3), (Dw n4 2 l4)]), (Dw n5 1 l5)] [(D.sl (n14) 1 (cs3))]) ∧
 (bcase (dL n7 1 cs1)
 (bcase (dL n14 1 cs3)
 (((Says C 18 [(Dw n7 1 cs1), (Dw n14 1 cs3)] kT) ∧
 (k kT)) ∨
 ((Says C 18 [(Dw n7 1 cs1), (Dw n14 1 cs3)] kF) ∧
 (k kF)))
 False)
 False)))))
 False)
 False)
 False)
 (k kF))) ∨
 ((Says C 16 [D.nil, (Dw n13 2 cs2)] kF) ∧
 (k kF)))
 False)))))
 False)
 False)
 False)
 (k kF)))))
 False)
 False)
 False)
 (bcase (n11 != 0)
 (bcase (n6 == n11)
 (bcase (n8 == n11)
 (bcase ((↑n7 : Int) == 0)
 (k kT)
 (k kF))
 (k kF))
 (k kF))
 (bcase (n6 == 0)
 (bcase (dL n3 2 l3)
 (bcase (dL n4 2 l4)
 (bcase (dL n5 1 l5)
 (((Says C 17 [(D.agg [(dI x0), (dI x1), D.nil]), (D.agg [(Dw n3 2 l3), (Dw n4 2 l4)]), (Dw n5 1 l5)] [D.nil]) ∧
 (((Says C 16 [D.nil, D.nil] kT) ∧
 (bcase (n8 == 0)
 (bcase (dL n3 2 l3)
 (bcase (dL n4 2 l4)
 (bcase (dL n5 1 l5)
 (((Says C 19 [(D.agg [(dI x0), (dI x1), D.nil]), (D.agg [(Dw n3 2 l3), (Dw n4 2 l4)]), (Dw n5 1 l5)] [D.nil]) ∧
 (bcase (dL n7 1 cs1)
 (((Says C 18 [(Dw n7 1 cs1), D.nil] kT) ∧
 (k kT)) ∨
 ((Says C 18 [(Dw n7 1 cs1), D.nil] kF) ∧
 (k kF)))
 False)) ∨
 (∃ n12 : Nat,
 (∃ cs2 : List Go.Value,
 ((Says C 19 [(D.agg [(dI x0), (dI x1), D.nil]), (D.agg [(Dw n3 2 l3), (Dw n4 2 l4)]), (Dw n5 1 l5)] [(D.sl (n12) 1 (cs2))]) ∧
 (bcase (dL n7 1 cs1)
 (bcase (dL n12 1 cs2)
 (((Says C 18 [(Dw n7 1 cs1), (Dw n12 1 cs2)] kT) ∧
 (k kT)) ∨
 ((Says C 18 [(Dw n7 1 cs1), (Dw n12 1 cs2)] kF) ∧
 (k kF)))
 False)
 False)))))
 False)
 False)
 False)
 (k kF))) ∨
 ((Says C 16 [D.nil, D.nil] kF) ∧
 (k kF)))) ∨
 (∃ n12 : Nat,
 (∃ cs2 : List Go.Value,
 ((Says C 17 [(D.agg [(dI x0), (dI x1), D.nil]), (D.agg [(Dw n3 2 l3), (Dw n4 2 l4)]), (Dw n5 1 l5)] [(D.sl (n12) 2 (cs2))]) ∧
 (bcase (dL n12 2 cs2)
 (((Says C 16 [D.nil, (Dw n12 2 cs2)] kT) ∧
 (bcase (n8 == 0)
 (bcase (dL n3 2 l3)
 (bcase (dL n4 2 l4)
 (bcase (dL n5 1 l5)
 (((Says C 19 [(D.agg [(dI x0), (dI x1), D.nil]), (D.agg [(Dw n3 2 l3), (Dw n4 2 l4)]), (Dw n5 1 l5)] [D.nil]) ∧
 (bcase (dL n7 1 cs1)
 (((Says C 18 [(Dw n7 1 cs1), D.nil] kT) ∧
 (k kT)) ∨
 ((Says C 18 [(Dw n7 1 cs1), D.nil] kF) ∧
 (k kF)))
 False)) ∨
 (∃ n13 : Nat,
 (∃ cs3 : List Go.Value,
 ((Says C 19 [(D.agg [(dI x0), (dI x1), D.nil]), (D.agg [(Dw n3 2 l3), (Dw n4 2 l4)]), (Dw n5 1 l5)] [(D.sl (n13) 1 (cs3))]) ∧
 (bcase (dL n7 1 cs1)
 (bcase (dL n13 1 cs3)
 (((Says C 18 [(Dw n7 1 cs1), (Dw n13 1 cs3)] kT) ∧
 (k kT)) ∨
 ((Says C 18 [(Dw n7 1 cs1), (Dw n13 1 cs3)] kF) ∧
 (k kF)))
 False)
 False)))))
 False)
 False)
 False)
 (k kF))) ∨
 ((Says C 16 [D.nil, (Dw n12 2 cs2)] kF) ∧
 (k kF)))
 False)))))
 False)
 False)
 False)
 (k kF))))))
 False)
 False))))))
 False)
 False)))))))))
 False)
 False)
 False)))
 False)))
 False)
 False))))))))) ∨
 (∃ n6 : Nat,
 (∃ cs1 : List Go.Value,
 (∃ n7 : Int,
 ((Says C 9 [(D.agg [(dI x0), (dI x1), (D.sl 0 3 [])]), (D.agg [(Dw n3 2 (Tk n3 2 l3)), (Dw n4 2 (Tk n4 2 l4))]), (Dw n5 1 (Tk n5 1 l5))] [(D.sl (n6) 2 (cs1)), (dI n7)]) ∧
 (((Qv (vI n7)) ∧
 ((Qv (Sl 1011 (n6) (n6))) ∧
 ((Qv (Go.Value.tuple [(Sl 1011 (n6) (n6)), (vI n7)].toArray)) ∧
 True))) ∧
 (((Qv (vI n7)) ∧
 True) ∧
 (True ∧
 (((Qv (Sl 502 (n5) (c5))) ∧
 ((Qv (Go.Value.agg [(Sl 500 (n3) (c3)), (Sl 501 (n4) (c4))].toArray)) ∧
 ((Qv (Go.Value.agg [(vI x0), (vI x1), (Go.Value.slice Option.none 0 0)].toArray)) ∧
 True))) ∧
 ((Says C 10 [(D.agg [(dI x0), (dI x1), D.nil])] [(D.agg [(dI x0), (dI x1), (D.sl 0 3 [])])]) ∧
 (((Qv (Sl 502 (n5) (c5))) ∧
 ((Qv (Go.Value.agg [(Sl 500 (n3) (c3)), (Sl 501 (n4) (c4))].toArray)) ∧
 True)) ∧
 (bcase (dL n3 2 l3)
 (bcase (dL n4 2 l4)
 ((Says C 8 [(D.agg [(Dw n3 2 l3), (Dw n4 2 l4)])] [(D.agg [(Dw n3 2 l3), (Dw n4 2 l4)])]) ∧
 (((Qv (Sl 502 (n5) (c5))) ∧
 True) ∧
 (bcase (dL n5 1 l5)
 ((Says C 11 [(Dw n5 1 l5)] [(Dw n5 1 l5)]) ∧
 (True ∧
 (bcase (dL n3 2 (Tk n3 2 l3))
 (bcase (dL n4 2 (Tk n4 2 l4))
 (bcase (dL n5 1 (Tk n5 1 l5))
 ((∃ n8 : Int,
 ((Says C 12 [(D.agg [(dI x0), (dI x1), (D.sl 0 3 [])]), (D.agg [(Dw n3 2 (Tk n3 2 l3)), (Dw n4 2 (Tk n4 2 l4))]), (Dw n5 1 (Tk n5 1 l5))] [D.nil, (dI n8)]) ∧
 (((Qv (vI n8)) ∧
 ((Qv (Go.Value.slice Option.none 0 0)) ∧
 ((Qv (Go.Value.tuple [(Go.Value.slice Option.none 0 0), (vI n8)].toArray)) ∧
 True))) ∧
 (((Qv (vI n8)) ∧
 True) ∧
 (True ∧
 (bcase (dL n3 2 l3)
 (bcase (dL n4 2 l4)
 (∃ n9 : Int,
 (∃ n10 : Int,
 ((Says C 13 [(D.agg [(Dw n3 2 l3), (Dw n4 2 l4)])] [(dI n9), (dI n10)]) ∧
 (bcase (n2 != n10)
 (k kF)
 (bcase (n1 != n9)
 (k kF)
 (bcase (dL n3 2 l3)
 (bcase (dL n4 2 l4)
 (∃ n11 : Int,
 ((Says C 14 [(D.agg [(dI x0), (dI x1), D.nil]), (D.agg [(Dw n3 2 l3), (Dw n4 2 l4)])] [(dI n11)]) ∧
 (bcase (n11 == 0)
 (bcase (dL n3 2 l3)
 (bcase (dL n4 2 l4)
 (bcase (dL n5 1 l5)
 (∃ n12 : Int,
 ((Says C 15 [(D.agg [(dI x0), (dI x1), D.nil]), (D.agg [(Dw n3 2 l3), (Dw n4 2 l4)]), (Dw n5 1 l5)] [(dI n12)]) ∧
 (bcase (n12 != 0)
 (bcase (n7 == n12)
 (bcase (n8 == n12)
 (bcase ((↑n6 : Int) == 0)
 (k kT)
 (k kF))
 (k kF))
 (k kF))
 (bcase (n7 == 0)
 (bcase (dL n3 2 l3)
 (bcase (dL n4 2 l4)
 (bcase (dL n5 1 l5)
 (((Says C 17 [(D.agg [(dI x0), (dI x1), D.nil]), (D.agg [(Dw n3 2 l3), (Dw n4 2 l4)]), (Dw n5 1 l5)] [D.nil]) ∧
 (bcase (dL n6 2 cs1)
 (((Says C 16 [(Dw n6 2 cs1), D.nil] kT) ∧
 (bcase (n8 == 0)
 (bcase (dL n3 2 l3)
 (bcase (dL n4 2 l4)
 (bcase (dL n5 1 l5)
 (((Says C 19 [(D.agg [(dI x0), (dI x1), D.nil]), (D.agg [(Dw n3 2 l3), (Dw n4 2 l4)]), (Dw n5 1 l5)] [D.nil]) ∧
 (((Says C 18 [D.nil, D.nil] kT) ∧
 (k kT)) ∨
 ((Says C 18 [D.nil, D.nil] kF) ∧
 (k kF)))) ∨
 (∃ n13 : Nat,
 (∃ cs2 : List Go.Value,
 ((Says C 19 [(D.agg [(dI x0), (dI x1), D.nil]), (D.agg [(Dw n3 2 l3), (Dw n4 2 l4)]), (Dw n5 1 l5)] [(D.sl (n13) 1 (cs2))]) ∧
 (bcase (dL n13 1 cs2)
 (((Says C 18 [D.nil, (Dw n13 1 cs2)] kT) ∧
 (k kT)) ∨
 ((Says C 18 [D.nil, (Dw n13 1 cs2)] kF) ∧
 (k kF)))
 False)))))
 False)
 False)
 False)
 (k kF))) ∨
 ((Says C 16 [(Dw n6 2 cs1), D.nil] kF) ∧
 (k kF)))
 False)) ∨
 (∃ n13 : Nat,
 (∃ cs2 : List Go.Value,
 ((Says C 17 [(D.agg [(dI x0), (dI x1), D.nil]), (D.agg [(Dw n3 2 l3), (Dw n4 2 l4)]), (Dw n5 1 l5)] [(D.sl (n13) 2 (cs2))]) ∧
 (bcase (dL n6 2 cs1)
 (bcase (dL n13 2 cs2)
 (((Says C 16 [(Dw n6 2 cs1), (Dw n13 2 cs2)] kT) ∧
 (bcase (n8 == 0)
 (bcase (dL n3 2 l3)
 (bcase (dL n4 2 l4)
 (bcase (dL n5 1 l5)
 (((Says C 19 [(D.agg [(dI x0), (dI x1), D.nil]), (D.agg [(Dw n3 2 l3), (Dw n4 2 l4)]), (Dw n5 1 l5)] [D.nil]) ∧
 (((Says C 18 [D.nil, D.nil] kT) ∧
 (k kT)) ∨
 ((Says C 18 [D.nil, D.nil] kF) ∧
 (k kF)))) ∨
 (∃ n14 : Nat,
 (∃ cs3 : List Go.Value,
 ((Says C 19 [(D.agg [(dI x0), (dI x1), D.nil]), (D.agg [(Dw n3 2 l3), (Dw n4 2 l4)]), (Dw n5 1 l5)] [(D.sl (n14) 1 (cs3))]) ∧
 (bcase (dL n14 1 cs3)
 (((Says C 18 [D.nil, (Dw n14 1 cs3)] kT) ∧
 (k kT)) ∨
 ((Says C 18 [D.nil, (Dw n14 1 cs3)] kF) ∧
 (k kF)))
 False)))))
 False)
 False)
 False)
 (k kF))) ∨
 ((Says C 16 [(Dw n6 2 cs1), (Dw n13 2 cs2)] kF) ∧
 (k kF)))
 False)
 False)))))
 False)
 False)
 False)
 (k kF)))))
 False)
 False)
 False)
 (bcase (n11 != 0)
 (bcase (n7 == n11)
 (bcase (n8 == n11)
 (bcase ((↑n6 : Int) == 0)
 (k kT)
 (k kF))
 (k kF))
 (k kF))
 (bcase (n7 == 0)
 (bcase (dL n3 2 l3)
 (bcase (dL n4 2 l4)
 (bcase (dL n5 1 l5)
 (((Says C 17 [(D.agg [(dI x0), (dI x1), D.nil]), (D.agg [(Dw n3 2 l3), (Dw n4 2 l4)]), (Dw n5 1 l5)] [D.nil]) ∧
 (bcase (dL n6 2 cs1)
 (((Says C 16 [(Dw n6 2 cs1), D.nil] kT) ∧
 (bcase (n8 == 0)
 (bcase (dL n3 2 l3)
 (bcase (dL n4 2 l4)
 (bcase (dL n5 1 l5)
 (((Says C 19 [(D.agg [(dI x0), (dI x1), D.nil]), (D.agg [(Dw n3 2 l3), (Dw n4 2 l4)]), (Dw n5 1 l5)] [D.nil]) ∧
 (((Says C 18 [D.nil, D.nil] kT) ∧
 (k kT)) ∨
 ((Says C 18 [D.nil, D.nil] kF) ∧
 (k kF)))) ∨
 (∃ n12 : Nat,
 (∃ cs2 : List Go.Value,
 ((Says C 19 [(D.agg [(dI x0), (dI x1), D.nil]), (D.agg [(Dw n3 2 l3), (Dw n4 2 l4)]), (Dw n5 1 l5)] [(D.sl (n12) 1 (cs2))]) ∧
 (bcase (dL n12 1 cs2)
 (((Says C 18 [D.nil, (Dw n12 1 cs2)] kT) ∧
 (k kT)) ∨
 ((Says C 18 [D.nil, (Dw n12 1 cs2)] kF) ∧
 (k kF)))
 False)))))
 False)
 False)
 False)
 (k kF))) ∨
 ((Says C 16 [(Dw n6 2 cs1), D.nil] kF) ∧
 (k kF)))
 False)) ∨
 (∃ n12 : Nat,
 (∃ cs2 : List Go.Value,
 ((Says C 17 [(D.agg [(dI x0), (dI x1), D.nil]), (D.agg [(Dw n3 2 l3), (Dw n4 2 l4)]), (Dw n5 1 l5)] [(D.sl (n12) 2 (cs2))]) ∧
 (bcase (dL n6 2 cs1)
 (bcase (dL n12 2 cs2)
 (((Says C 16 [(Dw n6 2 cs1), (Dw n12 2 cs2)] kT) ∧
 (bcase (n8 == 0)
 (bcase (dL n3 2 l3)
 (bcase (dL n4 2 l4)
 (bcase (dL n5 1 l5)
 (((Says C 19 [(D.agg [(dI x0), (dI x1), D.nil]), (D.agg [(Dw n3 2 l3), (Dw n4 2 l4)]), (Dw n5 1 l5)] [D.nil]) ∧
 (((Says C 18 [D.nil, D.nil] kT) ∧
 (k kT)) ∨
 ((Says C 18 [D.nil, D.nil] kF) ∧
 (k kF)))) ∨
 (∃ n13 : Nat,
 (∃ cs3 : List Go.Value,
 ((Says C 19 [(D.agg [(dI x0), (dI x1), D.nil]), (D.agg [(Dw n3 2 l3), (Dw n4 2 l4)]), (Dw n5 1 l5)] [(D.sl (n13) 1 (cs3))]) ∧
 (bcase (dL n13 1 cs3)
 (((Says C 18 [D.nil, (Dw n13 1 cs3)] kT) ∧
 (k kT)) ∨
 ((Says C 18 [D.nil, (Dw n13 1 cs3)] kF) ∧
 (k kF)))
 False)))))
 False)
 False)
 False)
 (k kF))) ∨
 ((Says C 16 [(Dw n6 2 cs1), (Dw n12 2 cs2)] kF) ∧
 (k kF)))
 False)
 False)))))
 False)
 False)
 False)
 (k kF))))))
 False)
 False))))))
 False)
 False)))))) ∨
 (∃ n8 : Nat,
 (∃ cs2 : List Go.Value,
 (∃ n9 : Int,
 ((Says C 12 [(D.agg [(dI x0), (dI x1), (D.sl 0 3 [])]), (D.agg [(Dw n3 2 (Tk n3 2 l3)), (Dw n4 2 (Tk n4 2 l4))]), (Dw n5 1 (Tk n5 1 l5))] [(D.sl (n8) 1 (cs2)), (dI n9)]) ∧
 (((Qv (vI n9)) ∧
 ((Qv (Sl 1016 (n8) (n8))) ∧
 ((Qv (Go.Value.tuple [(Sl 1016 (n8) (n8)), (vI n9)].toArray)) ∧
 True))) ∧
 (((Qv (vI n9)) ∧
 True) ∧
 (True ∧
 (bcase (dL n3 2 l3)
 (bcase (dL n4 2 l4)
 (∃ n10 : Int,
 (∃ n11 : Int,
 ((Says C 13 [(D.agg [(Dw n3 2 l3), (Dw n4 2 l4)])] [(dI n10), (dI n11)]) ∧
 (bcase (n2 != n11)
 (k kF)
 (bcase (n1 != n10)
 (k kF)
 (bcase (dL n3 2 l3)
 (bcase (dL n4 2 l4)
 (∃ n12 : Int,
 ((Says C 14 [(D.agg [(dI x0), (dI x1), D.nil]), (D.agg [(Dw n3 2 l3), (Dw n4 2 l4)])] [(dI n12)]) ∧
 (bcase (n12 == 0)
 (bcase (dL n3 2 l3)
 (bcase (dL n4 2 l4)
 (bcase (dL n5 1 l5)
 (∃ n13 : Int,
 ((Says C 15 [(D.agg [(dI x0), (dI x1), D.nil]), (D.agg [(Dw n3 2 l3), (Dw n4 2 l4)]), (Dw n5 1 l5)] [(dI n13)]) ∧
 (bcase (n13 != 0)
 (bcase (n7 == n13)
 (bcase (n9 == n13)
 (bcase ((↑n6 : Int) == 0)
 (bcase ((↑n8 : Int) == 0)
 (k kT)
 (k kF))
 (k kF))
 (k kF))
 (k kF))
 (bcase (n7 == 0)
 (bcase (dL n3 2 l3)
 (bcase (dL n4 2 l4)
 (bcase (dL n5 1 l5)
 (((Says C 17 [(D.agg [(dI x0), (dI x1), D.nil]), (D.agg [(Dw n3 2 l3), (Dw n4 2 l4)]), (Dw n5 1 l5)] [D.nil]) ∧
 (bcase (dL n6 2 cs1)
 (((Says C 16 [(Dw n6 2 cs1), D.nil] kT) ∧
 (bcase (n9 == 0)
 (bcase (dL n3 2 l3)
 (bcase (dL n4 2 l4)
 (bcase (dL n5 1 l5)
 (((Says C 19 [(D.agg [(dI x0), (dI x1), D.nil]), (D.agg [(Dw n3 2 l3), (Dw n4 2 l4)]), (Dw n5 1 l5)] [D.nil]) ∧
 (bcase (dL n8 1 cs2)
 (((Says C 18 [(Dw n8 1 cs2), D.nil] kT) ∧
 (k kT)) ∨
 ((Says C 18 [(Dw n8 1 cs2), D.nil] kF) ∧
 (k kF)))
 False)) ∨
 (∃ n14 : Nat,
 (∃ cs3 : List Go.Value,
 ((Says C 19 [(D.agg [(dI x0), (dI x1), D.nil]), (D.agg [(Dw n3 2 l3), (Dw n4 2 l4)]), (Dw n5 1 l5)] [(D.sl (n14) 1 (cs3))]) ∧
 (bcase (dL n8 1 cs2)
 (bcase (dL n14 1 cs3)
 (((Says C 18 [(Dw n8 1 cs2), (Dw n14 1 cs3)] kT) ∧
 (k kT)) ∨
 ((Says C 18 [(Dw n8 1 cs2), (Dw n14 1 cs3)] kF) ∧
 (k kF)))
 False)
 False)))))
 False)
 False)
 False)
 (k kF))) ∨
 ((Says C 16 [(Dw n6 2 cs1), D.nil] kF) ∧
 (k kF)))
 False)) ∨
 (∃ n14 : Nat,
 (∃ cs3 : List Go.Value,
 ((Says C 17 [(D.agg [(dI x0), (dI x1), D.nil]), (D.agg [(Dw n3 2 l3), (Dw n4 2 l4)]), (Dw n5 1 l5)] [(D.sl (n14) 2 (cs3))]) ∧
 (bcase (dL n6 2 cs1)
 (bcase (dL n14 2 cs3)
 (((Says C 16 [(Dw n6 2 cs1), (Dw n14 2 cs3)] kT) ∧
 (bcase (n9 == 0)
 (bcase (dL n3 2 l3)
 (bcase (dL n4 2 l4)
 (bcase (dL n5 1 l5)
 (((Says C 19 [(D.agg [(dI x0), (dI x1), D.nil]), (D.agg [(Dw n3 2 l3), (Dw n4 2 l4)]), (Dw n5 1 l5)] [D.nil]) ∧
 (bcase (dL n8 1 cs2)
 (((Says C 18 [(Dw n8 1 cs2), D.nil] kT) ∧
 (k kT)) ∨
 ((Says C 18 [(Dw n8 1 cs2), D.nil] kF) ∧
 (k kF)))
 False)) ∨
 (∃ n15 : Nat,
 (∃ cs4 : List Go.Value,
 ((Says C 19 [(D.agg [(dI x0), (dI x1), D.nil]), (D.agg [(Dw n3 2 l3), (Dw n4 2 l4)]), (Dw n5 1 l5)] [(D.sl (n15) 1 (cs4))]) ∧
 (bcase (dL n8 1 cs2)
 (bcase (dL n15 1 cs4)
 (((Says C 18 [(Dw n8 1 cs2), (Dw n15 1 cs4)] kT) ∧
 (k kT)) ∨
 ((Says C 18 [(Dw n8 1 cs2), (Dw n15 1 cs4)] kF) ∧
 (k kF)))
 False)
 False)))))
 False)
 False)
 False)
 (k kF))) ∨
 ((Says C 16 [(Dw n6 2 cs1), (Dw n14 2 cs3)] kF) ∧
 (k kF)))
 False)
 False)))))
 False)
 False)
 False)
 (k kF)))))
 False)
 False)
 False)
 (bcase (n12 != 0)
 (bcase (n7 == n12)
 (bcase (n9 == n12)
 (bcase ((↑n6 : Int) == 0)
 (bcase ((↑n8 : Int) == 0)
 (k kT)
 (k kF))
 (k kF))
 (k kF))
 (k kF))
 (bcase (n7 == 0)
 (bcase (dL n3 2 l3)
 (bcase (dL n4 2 l4)
 (bcase (dL n5 1 l5)
 (((Says C 17 [(D.agg [(dI x0), (dI x1), D.nil]), (D.agg [(Dw n3 2 l3), (Dw n4 2 l4)]), (Dw n5 1 l5)] [D.nil]) ∧
 (bcase (dL n6 2 cs1)
 (((Says C 16 [(Dw n6 2 cs1), D.nil] kT) ∧
 (bcase (n9 == 0)
 (bcase (dL n3 2 l3)
 (bcase (dL n4 2 l4)
 (bcase (dL n5 1 l5)
 (((Says C 19 [(D.agg [(dI x0), (dI x1), D.nil]), (D.agg [(Dw n3 2 l3), (Dw n4 2 l4)]), (Dw n5 1 l5)] [D.nil]) ∧
 (bcase (dL n8 1 cs2)
 (((Says C 18 [(Dw n8 1 cs2), D.nil] kT) ∧
 (k kT)) ∨
 ((Says C 18 [(Dw n8 1 cs2), D.nil] kF) ∧
 (k kF)))
 False)) ∨
 (∃ n13 : Nat,
 (∃ cs3 : List Go.Value,
 ((Says C 19 [(D.agg [(dI x0), (dI x1), D.nil]), (D.agg [(Dw n3 2 l3), (Dw n4 2 l4)]), (Dw n5 1 l5)] [(D.sl (n13) 1 (cs3))]) ∧
 (bcase (dL n8 1 cs2)
 (bcase (dL n13 1 cs3)
 (((Says C 18 [(Dw n8 1 cs2), (Dw n13 1 cs3)] kT) ∧
 (k kT)) ∨
 ((Says C 18 [(Dw n8 1 cs2), (Dw n13 1 cs3)] kF) ∧
 (k kF)))
 False)
 False)))))
 False)
 False)
 False)
 (k kF))) ∨
 ((Says C 16 [(Dw n6 2 cs1), D.nil] kF) ∧
 (k kF)))
 False)) ∨
 (∃ n13 : Nat,
 (∃ cs3 : List Go.Value,
 ((Says C 17 [(D.agg [(dI x0), (dI x1), D.nil]), (D.agg [(Dw n3 2 l3), (Dw n4 2 l4)]), (Dw n5 1 l5)] [(D.sl (n13) 2 (cs3))]) ∧
 (bcase (dL n6 2 cs1)
 (bcase (dL n13 2 cs3)
 (((Says C 16 [(Dw n6 2 cs1), (Dw n13 2 cs3)] kT) ∧
 (bcase (n9 == 0)
 (bcase (dL n3 2 l3)
 (bcase (dL n4 2 l4)
 (bcase (dL n5 1 l5)
 (((Says C 19 [(D.agg [(dI x0), (dI x1), D.nil]), (D.agg [(Dw n3 2 l3), (Dw n4 2 l4)]), (Dw n5 1 l5)] [D.nil]) ∧
 (bcase (dL n8 1 cs2)
 (((Says C 18 [(Dw n8 1 cs2), D.nil] kT) ∧
 (k kT)) ∨
 ((Says C 18 [(Dw n8 1 cs2), D.nil] kF) ∧
 (k kF)))
 False)) ∨
 (∃ n14 : Nat,
 (∃ cs4 : List Go.Value,
 ((Says C 19 [(D.agg [(dI x0), (dI x1), D.nil]), (D.agg [(Dw n3 2 l3), (Dw n4 2 l4)]), (Dw n5 1 l5)] [(D.sl (n14) 1 (cs4))]) ∧
 (bcase (dL n8 1 cs2)
 (bcase (dL n14 1 cs4)
 (((Says C 18 [(Dw n8 1 cs2), (Dw n14 1 cs4)] kT) ∧
 (k kT)) ∨
 ((Says C 18 [(Dw n8 1 cs2), (Dw n14 1 cs4)] kF) ∧
 (k kF)))
 False)
 False)))))
 False)
 False)
 False)
 (k kF))) ∨
 ((Says C 16 [(Dw n6 2 cs1), (Dw n13 2 cs3)] kF) ∧
 (k kF)))
 False)
 False)))))
 False)
 False)
 False)
 (k kF))))))
 False)
 False))))))
 False)
 False)))))))))
 False)
 False)
 False)))
 False)))
 False)
 False))))))))))))
 False)
 False)
 False)))
 False)))
 False)
 False)))))))
 False)
 False))
 False)
 False)
 (k kT))
 (k kT))
 (k kT))) ∨
 ((Says C 4 [] kF) ∧
 (k kF))) := by kernel_rfl
def gLStn (C : Ct) (L : AtLoop) (x0 : Int) (x1 : Int) (n3 : Nat) (c3 : Nat) (l3 : List Value) (n4 : Nat) (c4 : Nat) (l4 : List Value) (k : List D → Prop) : Prop := wpFn Tryz.prog (hC C) L 0 3 #[.agg #[.int .i64 x0, .int .i64 x1, .slice none 0 0], .agg #[.slice (some ⟨500, 0, none⟩) n3 c3, .slice (some ⟨501, 0, none⟩) n4 c4], .slice none 0 0] (heapOf [(500, .sym l3 false 2), (501, .sym l4 false 2)]) (dataK k)
theorem gLStn_text (C : Ct) (L : AtLoop) (x0 : Int) (x1 : Int) (n3 : Nat) (c3 : Nat) (l3 : List Go.Value) (n4 : Nat) (c4 : Nat) (l4 : List Go.Value) (k : List D → Prop) : gLStn C L x0 x1 n3 c3 l3 n4 c4 l4 k =
 (((Says C 4 [] kT) ∧
 (bcase (decide ((↑n3 : Int) ≤ 14))
 (bcase (decide ((↑n4 : Int) ≤ 14))
 (bcase (dL n3 2 l3)
 (bcase (dL n4 2 l4)
 ((Says C 8 [(D.agg [(Dw n3 2 l3), (Dw n4 2 l4)])] [(D.agg [(Dw n3 2 l3), (Dw n4 2 l4)])]) ∧
 (bcase (dL n3 2 (Tk n3 2 l3))
 (bcase (dL n4 2 (Tk n4 2 l4))
 (∃ n1 : Int,
 (∃ n2 : Int,
 ((Says C 7 [(D.agg [(Dw n3 2 (Tk n3 2 l3)), (Dw n4 2 (Tk n4 2 l4))])] [(dI n1), (dI n2)]) ∧
 (((Qv (Go.Value.slice Option.none 0 0)) ∧
 ((Qv (Go.Value.agg [(Sl 500 (n3) (c3)), (Sl 501 (n4) (c4))].toArray)) ∧
 ((Qv (Go.Value.agg [(vI x0), (vI x1), (Go.Value.slice Option.none 0 0)].toArray)) ∧
 True))) ∧
 ((Says C 10 [(D.agg [(dI x0), (dI x1), D.nil])] [(D.agg [(dI x0), (dI x1), (D.sl 0 3 [])])]) ∧
 (((Qv (Go.Value.slice Option.none 0 0)) ∧
 ((Qv (Go.Value.agg [(Sl 500 (n3) (c3)), (Sl 501 (n4) (c4))].toArray)) ∧
 True)) ∧
 (bcase (dL n3 2 l3)
 (bcase (dL n4 2 l4)
 ((Says C 8 [(D.agg [(Dw n3 2 l3), (Dw n4 2 l4)])] [(D.agg [(Dw n3 2 l3), (Dw n4 2 l4)])]) ∧
 (((Qv (Go.Value.slice Option.none 0 0)) ∧
 True) ∧
 ((Says C 11 [D.nil] [(D.sl 0 1 [])]) ∧
 (True ∧
 (bcase (dL n3 2 (Tk n3 2 l3))
 (bcase (dL n4 2 (Tk n4 2 l4))
 ((∃ n5 : Int,
 ((Says C 9 [(D.agg [(dI x0), (dI x1), (D.sl 0 3 [])]), (D.agg [(Dw n3 2 (Tk n3 2 l3)), (Dw n4 2 (Tk n4 2 l4))]), (D.sl 0 1 [])] [D.nil, (dI n5)]) ∧
 (((Qv (vI n5)) ∧
 ((Qv (Go.Value.slice Option.none 0 0)) ∧
 ((Qv (Go.Value.tuple [(Go.Value.slice Option.none 0 0), (vI n5)].toArray)) ∧
 True))) ∧
 (((Qv (vI n5)) ∧
 True) ∧
 (True ∧
 (((Qv (Go.Value.slice Option.none 0 0)) ∧
 ((Qv (Go.Value.agg [(Sl 500 (n3) (c3)), (Sl 501 (n4) (c4))].toArray)) ∧
 ((Qv (Go.Value.agg [(vI x0), (vI x1), (Go.Value.slice Option.none 0 0)].toArray)) ∧
 True))) ∧
 ((Says C 10 [(D.agg [(dI x0), (dI x1), D.nil])] [(D.agg [(dI x0), (dI x1), (D.sl 0 3 [])])]) ∧
 (((Qv (Go.Value.slice Option.none 0 0)) ∧
 ((Qv (Go.Value.agg [(Sl 500 (n3) (c3)), (Sl 501 (n4) (c4))].toArray)) ∧
 True)) ∧
 (bcase (dL n3 2 l3)
 (bcase (dL n4 2 l4)
 ((Says C 8 [(D.agg [(Dw n3 2 l3), (Dw n4 2 l4)])] [(D.agg [(Dw n3 2 l3), (Dw n4 2 l4)])]) ∧
 (((Qv (Go.Value.slice Option.none 0 0)) ∧
 True) ∧
 ((Says C 11 [D.nil] [(D.sl 0 1 [])]) ∧
 (True ∧
 (bcase (dL n3 2 (Tk n3 2 l3))
 (bcase (dL n4 2 (Tk n4 2 l4))
 ((∃ n6 : Int,
 ((Says C 12 [(D.agg [(dI x0), (dI x1), (D.sl 0 3 [])]), (D.agg [(Dw n3 2 (Tk n3 2 l3)), (Dw n4 2 (Tk n4 2 l4))]), (D.sl 0 1 [])] [D.nil, (dI n6)]) ∧
 (((Qv (vI n6)) ∧
 ((Qv (Go.Value.slice Option.none 0 0)) ∧
 ((Qv (Go.Value.tuple [(Go.Value.slice Option.none 0 0), (vI n6)].toArray)) ∧
 True))) ∧
 (((Qv (vI n6)) ∧
 True) ∧
 (True ∧
 (bcase (dL n3 2 l3)
 (bcase (dL n4 2 l4)
 (∃ n7 : Int,
 (∃ n8 : Int,
 ((Says C 13 [(D.agg [(Dw n3 2 l3), (Dw n4 2 l4)])] [(dI n7), (dI n8)]) ∧
 (bcase (n2 != n8)
 (k kF)
 (bcase (n1 != n7)
 (k kF)
 (bcase (dL n3 2 l3)
 (bcase (dL n4 2 l4)
 (∃ n9 : Int,
 ((Says C 14 [(D.agg [(dI x0), (dI x1), D.nil]), (D.agg [(Dw n3 2 l3), (Dw n4 2 l4)])] [(dI n9)]) ∧
 (bcase (n9 == 0)
 (bcase (dL n3 2 l3)
 (bcase (dL n4 2 l4)
 (∃ n10 : Int,
 ((Says C 15 [(D.agg [(dI x0), (dI x1), D.nil]), (D.agg [(Dw n3 2 l3), (Dw n4 2 l4)]), D.nil] [(dI n10)]) ∧
 (bcase (n10 != 0)
 (bcase (n5 == n10)
 (bcase (n6 == n10)
 (k kT)
 (k kF))
 (k kF))
 (bcase (n5 == 0)
 (bcase (dL n3 2 l3)
 (bcase (dL n4 2 l4)
 (((Says C 17 [(D.agg [(dI x0), (dI x1), D.nil]), (D.agg [(Dw n3 2 l3), (Dw n4 2 l4)]), D.nil] [D.nil]) ∧
 (((Says C 16 [D.nil, D.nil] kT) ∧
 (bcase (n6 == 0)
 (bcase (dL n3 2 l3)
 (bcase (dL n4 2 l4)
 (((Says C 19 [(D.agg [(dI x0), (dI x1), D.nil]), (D.agg [(Dw n3 2 l3), (Dw n4 2 l4)]), D.nil] [D.nil]) ∧
 (((Says C 18 [D.nil, D.nil] kT) ∧
 (k kT)) ∨
 ((Says C 18 [D.nil, D.nil] kF) ∧
 (k kF)))) ∨
 (∃ n11 : Nat,
 (∃ cs1 : List Go.Value,
 ((Says C 19 [(D.agg [(dI x0), (dI x1), D.nil]), (D.agg [(Dw n3 2 l3), (Dw n4 2 l4)]), D.nil] [(D.sl (n11) 1 (cs1))]) ∧
 (bcase (dL n11 1 cs1)
 (((Says C 18 [D.nil, (Dw n11 1 cs1)] kT) ∧
 (k kT)) ∨
 ((Says C 18 [D.nil, (Dw n11 1 cs1)] kF) ∧
 (k kF)))
 False)))))
 False)
 False)
 (k kF))) ∨
 ((Says C 16 [D.nil, D.nil] kF) ∧
 (k kF)))) ∨
 (∃ n11 : Nat,
 (∃ cs1 : List Go.Value,
 ((Says C 17 [(D.agg [(dI x0), (dI x1), D.nil]), (D.agg [(Dw n3 2 l3), (Dw n4 2 l4)]), D.nil] [(D.sl (n11) 2 (cs1))]) ∧
 (bcase (dL n11 2 cs1)
 (((Says C 16 [D.nil, (Dw n11 2 cs1)] kT) ∧
 (bcase (n6 == 0)
 (bcase (dL n3 2 l3)
 (bcase (dL n4 2 l4)
 (((Says C 19 [(D.agg [(dI x0), (dI x1), D.nil]), (D.agg [(Dw n3 2 l3), (Dw n4 2 l4)]), D.nil] [D.nil]) ∧
 (((Says C 18 [D.nil, D.nil] kT) ∧
 (k kT)) ∨
 ((Says C 18 [D.nil, D.nil] kF) ∧
 (k kF)))) ∨
 (∃ n12 : Nat,
 (∃ cs2 : List Go.Value,
 ((Says C 19 [(D.agg [(dI x0), (dI x1), D.nil]), (D.agg [(Dw n3 2 l3), (Dw n4 2 l4)]), D.nil] [(D.sl (n12) 1 (cs2))]) ∧
 (bcase (dL n12 1 cs2)
 (((Says C 18 [D.nil, (Dw n12 1 cs2)] kT) ∧
 (k kT)) ∨
 ((Says C 18 [D.nil, (Dw n12 1 cs2)] kF) ∧
 (k kF)))
 False)))))
 False)
 False)
 (k kF))) ∨
 ((Says C 16 [D.nil, (Dw n11 2 cs1)] kF) ∧
 (k kF)))
 False)))))
 False)
 False)
 (k kF)))))
 False)
 False)
 (bcase (n9 != 0)
 (bcase (n5 == n9)
 (bcase (n6 == n9)
 (k kT)
 (k kF))
 (k kF))
 (bcase (n5 == 0)
 (bcase (dL n3 2 l3)
 (bcase (dL n4 2 l4)
 (((Says C 17 [(D.agg [(dI x0), (dI x1), D.nil]), (D.agg [(Dw n3 2 l3), (Dw n4 2 l4)]), D.nil] [D.nil]) ∧
 (((Says C 16 [D.nil, D.nil] kT) ∧
 (bcase (n6 == 0)
 (bcase (dL n3 2 l3)
 (bcase (dL n4 2 l4)
 (((Says C 19 [(D.agg [(dI x0), (dI x1), D.nil]), (D.agg [(Dw n3 2 l3), (Dw n4 2 l4)]), D.nil] [D.nil]) ∧
 (((Says C 18 [D.nil, D.nil] kT) ∧
 (k kT)) ∨
 ((Says C 18 [D.nil, D.nil] kF) ∧
 (k kF)))) ∨
 (∃ n10 : Nat,
 (∃ cs1 : List Go.Value,
 ((Says C 19 [(D.agg [(dI x0), (dI x1), D.nil]), (D.agg [(Dw n3 2 l3), (Dw n4 2 l4)]), D.nil] [(D.sl (n10) 1 (cs1))]) ∧
 (bcase (dL n10 1 cs1)
 (((Says C 18 [D.nil, (Dw n10 1 cs1)] kT) ∧
 (k kT)) ∨
 ((Says C 18 [D.nil, (Dw n10 1 cs1)] kF) ∧
 (k kF)))
 False)))))
 False)
 False)
 (k kF))) ∨
 ((Says C 16 [D.nil, D.nil] kF) ∧
 (k kF)))) ∨
 (∃ n10 : Nat,
 (∃ cs1 : List Go.Value,
 ((Says C 17 [(D.agg [(dI x0), (dI x1), D.nil]), (D.agg [(Dw n3 2 l3), (Dw n4 2 l4)]), D.nil] [(D.sl (n10) 2 (cs1))]) ∧
 (bcase (dL n10 2 cs1)
 (((Says C 16 [D.nil, (Dw n10 2 cs1)] kT) ∧
 (bcase (n6 == 0)
 (bcase (dL n3 2 l3)
 (bcase (dL n4 2 l4)
 (((Says C 19 [(D.agg [(dI x0), (dI x1), D.nil]), (D.agg [(Dw n3 2 l3), (Dw n4 2 l4)]), D.nil] [D.nil]) ∧
 (((Says C 18 [D.nil, D.nil] kT) ∧
 (k kT)) ∨
 ((Says C 18 [D.nil, D.nil] kF) ∧
 (k kF)))) ∨
 (∃ n11 : Nat,
 (∃ cs2 : List Go.Value,
 ((Says C 19 [(D.agg [(dI x0), (dI x1), D.nil]), (D.agg [(Dw n3 2 l3), (Dw n4 2 l4)]), D.nil] [(D.sl (n11) 1 (cs2))]) ∧
 (bcase (dL n11 1 cs2)
 (((Says C 18 [D.nil, (Dw n11 1 cs2)] kT) ∧
 (k kT)) ∨
 ((Says C 18 [D.nil, (Dw n11 1 cs2)] kF) ∧
 (k kF)))
 False)))))
 False)
 False)
 (k kF))) ∨
 ((Says C 16 [D.nil, (Dw n10 2 cs1)] kF) ∧
 (k kF)))
 False)))))
 False)
 False)
 (k kF))))))
 False)
 False))))))
 False)
 False)))))) ∨
 (∃ n6 : Nat,
 (∃ cs1 : List Go.Value,
 (∃ n7 : Int,
 ((Says C 12 [(D.agg [(dI x0), (dI x1), (D.sl 0 3 [])]), (D.agg [(Dw n3 2 (Tk n3 2 l3)), (Dw n4 2 (Tk n4 2 l4))]), (D.sl 0 1 [])] [(D.sl (n6) 1 (cs1)), (dI n7)]) ∧
 (((Qv (vI n7)) ∧
 ((Qv (Sl 1015 (n6) (n6))) ∧
 ((Qv (Go.Value.tuple [(Sl 1015 (n6) (n6)), (vI n7)].toArray)) ∧
 True))) ∧
 (((Qv (vI n7)) ∧
 True) ∧
 (True ∧
 (bcase (dL n3 2 l3)
 (bcase (dL n4 2 l4)
 (∃ n8 : Int,
 (∃ n9 : Int,
 ((Says C 13 [(D.agg [(Dw n3 2 l3), (Dw n4 2 l4)])] [(dI n8), (dI n9)]) ∧
 (bcase (n2 != n9)
 (k kF)
 (bcase (n1 != n8)
 (k kF)
 (bcase (dL n3 2 l3)
 (bcase (dL n4 2 l4)
 (∃ n10 : Int,
 ((Says C 14 [(D.agg [(dI x0), (dI x1), D.nil]), (D.agg [(Dw n3 2 l3), (Dw n4 2 l4)])] [(dI n10)]) ∧
 (bcase (n10 == 0)
 (bcase (dL n3 2 l3)
 (bcase (dL n4 2 l4)
 (∃ n11 : Int,
 ((Says C 15 [(D.agg [(dI x0), (dI x1), D.nil]), (D.agg [(Dw n3 2 l3), (Dw n4 2 l4)]), D.nil] [(dI n11)]) ∧
 (bcase (n11 != 0)
 (bcase (n5 == n11)
 (bcase (n7 == n11)
 (bcase ((↑n6 : Int) == 0)
 (k kT)
 (k kF))
 (k kF))
 (k kF))
 (bcase (n5 == 0)
 (bcase (dL n3 2 l3)
 (bcase (dL n4 2 l4)
 (((Says C 17 [(D.agg [(dI x0), (dI x1), D.nil]), (D.agg [(Dw n3 2 l3), (Dw n4 2 l4)]), D.nil] [D.nil]) ∧
 (((Says C 16 [D.nil, D.nil] kT) ∧
 (bcase (n7 == 0)
 (bcase (dL n3 2 l3)
 (bcase (dL n4 2 l4)
 (((Says C 19 [(D.agg [(dI x0), (dI x1), D.nil]), (D.agg [(Dw n3 2 l3), (Dw n4 2 l4)]), D.nil] [D.nil]) ∧
 (bcase (dL n6 1 cs1)
 (((Says C 18 [(Dw n6 1 cs1), D.nil] kT) ∧
 (k kT)) ∨
 ((Says C 18 [(Dw n6 1 cs1), D.nil] kF) ∧
 (k kF)))
 False)) ∨
 (∃ n12 : Nat,
 (∃ cs2 : List Go.Value,
 ((Says C 19 [(D.agg [(dI x0), (dI x1), D.nil]), (D.agg [(Dw n3 2 l3), (Dw n4 2 l4)]), D.nil] [(D.sl (n12) 1 (cs2))]) ∧
 (bcase (dL n6 1 cs1)
 (bcase (dL n12 1 cs2)
 (((Says C 18 [(Dw n6 1 cs1), (Dw n12 1 cs2)] kT) ∧
 (k kT)) ∨
 ((Says C 18 [(Dw n6 1 cs1), (Dw n12 1 cs2)] kF) ∧
 (k kF)))
 False)
 False)))))
 False)
 False)
 (k kF))) ∨
 ((Says C 16 [D.nil, D.nil] kF) ∧
 (k kF)))) ∨
 (∃ n12 : Nat,
 (∃ cs2 : List Go.Value,
 ((Says C 17 [(D.agg [(dI x0), (dI x1), D.nil]), (D.agg [(Dw n3 2 l3), (Dw n4 2 l4)]), D.nil] [(D.sl (n12) 2 (cs2))]) ∧
 (bcase (dL n12 2 cs2)
 (((Says C 16 [D.nil, (Dw n12 2 cs2)] kT) ∧
 (bcase (n7 == 0)
 (bcase (dL n3 2 l3)
 (bcase (dL n4 2 l4)
 (((Says C 19 [(D.agg [(dI x0), (dI x1), D.nil]), (D.agg [(Dw n3 2 l3), (Dw n4 2 l4)]), D.nil] [D.nil]) ∧
 (bcase (dL n6 1 cs1)
 (((Says C 18 [(Dw n6 1 cs1), D.nil] kT) ∧
 (k kT)) ∨
 ((Says C 18 [(Dw n6 1 cs1), D.nil] kF) ∧
 (k kF)))
 False)) ∨
 (∃ n13 : Nat,
 (∃ cs3 : List Go.Value,
 ((Says C 19 [(D.agg [(dI x0), (dI x1), D.nil]), (D.agg [(Dw n3 2 l3), (Dw n4 2 l4)]), D.nil] [(D.sl (n13) 1 (cs3))]) ∧
 (bcase (dL n6 1 cs1)
 (bcase (dL n13 1 cs3)
 (((Says C 18 [(Dw n6 1 cs1), (Dw n13 1 cs3)] kT) ∧
 (k kT)) ∨
 ((Says C 18 [(Dw n6 1 cs1), (Dw n13 1 cs3)] kF) ∧
 (k kF)))
 False)
 False)))))
 False)
 False)
 (k kF))) ∨
 ((Says C 16 [D.nil, (Dw n12 2 cs2)] kF) ∧
 (k kF)))
 False)))))
 False)
 False)
 (k kF)))))
 False)
 False)
 (bcase (n10 != 0)
 (bcase (n5 == n10)
 (bcase (n7 == n10)
 (bcase ((↑n6 : Int) == 0)
 (k kT)
 (k kF))
 (k kF))
 (k kF))
 (bcase (n5 == 0)
 (bcase (dL n3 2 l3)
 (bcase (dL n4 2 l4)
 (((Says C 17 [(D.agg [(dI x0), (dI x1), D.nil]), (D.agg [(Dw n3 2 l3), (Dw n4 2 l4)]), D.nil] [D.nil]) ∧
 (((Says C 16 [D.nil, D.nil] kT) ∧
 (bcase (n7 == 0)
 (bcase (dL n3 2 l3)
 (bcase (dL n4 2 l4)
 (((Says C 19 [(D.agg [(dI x0), (dI x1), D.nil]), (D.agg [(Dw n3 2 l3), (Dw n4 2 l4)]), D.nil] [D.nil]) ∧
 (bcase (dL n6 1 cs1)
 (((Says C 18 [(Dw n6 1 cs1), D.nil] kT) ∧
 (k kT)) ∨
 ((Says C 18 [(Dw n6 1 cs1), D.nil] kF) ∧
 (k kF)))
 False)) ∨
 (∃ n11 : Nat,
 (∃ cs2 : List Go.Value,
 ((Says C 19 [(D.agg [(dI x0), (dI x1), D.nil]), (D.agg [(Dw n3 2 l3), (Dw n4 2 l4)]), D.nil] [(D.sl (n11) 1 (cs2))]) ∧
 (bcase (dL n6 1 cs1)
 (bcase (dL n11 1 cs2)
 (((Says C 18 [(Dw n6 1 cs1), (Dw n11 1 cs2)] kT) ∧
 (k kT)) ∨
 ((Says C 18 [(Dw n6 1 cs1), (Dw n11 1 cs2)] kF) ∧
 (k kF)))
 False)
 False)))))
 False)
 False)
 (k kF))) ∨
 ((Says C 16 [D.nil, D.nil] kF) ∧
 (k kF)))) ∨
 (∃ n11 : Nat,
 (∃ cs2 : List Go.Value,
 ((Says C 17 [(D.agg [(dI x0), (dI x1), D.nil]), (D.agg [(Dw n3 2 l3), (Dw n4 2 l4)]), D.nil] [(D.sl (n11) 2 (cs2))]) ∧
 (bcase (dL n11 2 cs2)
 (((Says C 16 [D.nil, (Dw n11 2 cs2)] kT) ∧
 (bcase (n7 == 0)
 (bcase (dL n3 2 l3)
 (bcase (dL n4 2 l4)
 (((Says C 19 [(D.agg [(dI x0), (dI x1), D.nil]), (D.agg [(Dw n3 2 l3), (Dw n4 2 l4)]), D.nil] [D.nil]) ∧
 (bcase (dL n6 1 cs1)
 (((Says C 18 [(Dw n6 1 cs1), D.nil] kT) ∧
 (k kT)) ∨
 ((Says C 18 [(Dw n6 1 cs1), D.nil] kF) ∧
 (k kF)))
 False)) ∨
 (∃ n12 : Nat,
 (∃ cs3 : List Go.Value,
 ((Says C 19 [(D.agg [(dI x0), (dI x1), D.nil]), (D.agg [(Dw n3 2 l3), (Dw n4 2 l4)]), D.nil] [(D.sl (n12) 1 (cs3))]) ∧
 (bcase (dL n6 1 cs1)
 (bcase (dL n12 1 cs3)
 (((Says C 18 [(Dw n6 1 cs1), (Dw n12 1 cs3)] kT) ∧
 (k kT)) ∨
 ((Says C 18 [(Dw n6 1 cs1), (Dw n12 1 cs3)] kF) ∧
 (k kF)))
 False)
 False)))))
 False)
 False)
 (k kF))) ∨
 ((Says C 16 [D.nil, (Dw n11 2 cs2)] kF) ∧
 (k kF)))
 False)))))
 False)
 False)
 (k kF))))))
 False)
 False))))))
 False)
 False)))))))))
 False)
 False)))))
 False)
 False))))))))) ∨
 (∃ n5 : Nat,
 (∃ cs1 : List Go.Value,
 (∃ n6 : Int,
 ((Says C 9 [(D.agg [(dI x0), (dI x1), (D.sl 0 3 [])]), (D.agg [(Dw n3 2 (Tk n3 2 l3)), (Dw n4 2 (Tk n4 2 l4))]), (D.sl 0 1 [])] [(D.sl (n5) 2 (cs1)), (dI n6)]) ∧
 (((Qv (vI n6)) ∧
 ((Qv (Sl 1011 (n5) (n5))) ∧
 ((Qv (Go.Value.tuple [(Sl 1011 (n5) (n5)), (vI n6)].toArray)) ∧
 True))) ∧
 (((Qv (vI n6)) ∧
 True) ∧
 (True ∧
 (((Qv (Go.Value.slice Option.none 0 0)) ∧
 ((Qv (Go.Value.agg [(Sl 500 (n3) (c3)), (Sl 501 (n4) (c4))].toArray)) ∧
 ((Qv (Go.Value.agg [(vI x0), (vI x1), (Go.Value.slice Option.none 0 0)].toArray)) ∧
 True))) ∧
 ((Says C 10 [(D.agg [(dI x0), (dI x1), D.nil])] [(D.agg [(dI x0), (dI x1), (D.sl 0 3 [])])]) ∧
 (((Qv (Go.Value.slice Option.none 0 0)) ∧
 ((Qv (Go.Value.agg [(Sl 500 (n3) (c3)), (Sl 501 (n4) (c4))].toArray)) ∧
 True)) ∧
 (bcase (dL n3 2 l3)
 (bcase (dL n4 2 l4)
 ((Says C 8 [(D.agg [(Dw n3 2 l3), (Dw n4 2 l4)])] [(D.agg [(Dw n3 2 l3), (Dw n4 2 l4)])]) ∧
 (((Qv (Go.Value.slice Option.none 0 0)) ∧
 True) ∧
 ((Says C 11 [D.nil] [(D.sl 0 1 [])]) ∧
 (True ∧
 (bcase (dL n3 2 (Tk n3 2 l3))
 (bcase (dL n4 2 (Tk n4 2 l4))
 ((∃ n7 : Int,
 ((Says C 12 [(D.agg [(dI x0), (dI x1), (D.sl 0 3 [])]), (D.agg [(Dw n3 2 (Tk n3 2 l3)), (Dw n4 2 (Tk n4 2 l4))]), (D.sl 0 1 [])] [D.nil, (dI n7)]) ∧
 (((Qv (vI n7)) ∧
 ((Qv (Go.Value.slice Option.none 0 0)) ∧
 ((Qv (Go.Value.tuple [(Go.Value.slice Option.none 0 0), (vI n7)].toArray)) ∧
 True))) ∧
 (((Qv (vI n7)) ∧
 True) ∧
 (True ∧
 (bcase (dL n3 2 l3)
 (bcase (dL n4 2 l4)
 (∃ n8 : Int,
 (∃ n9 : Int,
 ((Says C 13 [(D.agg [(Dw n3 2 l3), (Dw n4 2 l4)])] [(dI n8), (dI n9)]) ∧
 (bcase (n2 != n9)
 (k kF)
 (bcase (n1 != n8)
 (k kF)
 (bcase (dL n3 2 l3)
 (bcase (dL n4 2 l4)
 (∃ n10 : Int,
 ((Says C 14 [(D.agg [(dI x0), (dI x1), D.nil]), (D.agg [(Dw n3 2 l3), (Dw n4 2 l4)])] [(dI n10)]) ∧
 (bcase (n10 == 0)
 (bcase (dL n3 2 l3)
 (bcase (dL n4 2 l4)
 (∃ n11 : Int,
 ((Says C 15 [(D.agg [(dI x0), (dI x1), D.nil]), (D.agg [(Dw n3 2 l3), (Dw n4 2 l4)]), D.nil] [(dI n11)]) ∧
 (bcase (n11 != 0)
 (bcase (n6 == n11)
 (bcase (n7 == n11)
 (bcase ((↑n5 : Int) == 0)
 (k kT)
 (k kF))
 (k kF))
 (k kF))
 (bcase (n6 == 0)
 (bcase (dL n3 2 l3)
 (bcase (dL n4 2 l4)
 (((Says C 17 [(D.agg [(dI x0), (dI x1), D.nil]), (D.agg [(Dw n3 2 l3), (Dw n4 2 l4)]), D.nil] [D.nil]) ∧
 (bcase (dL n5 2 cs1)
 (((Says C 16 [(Dw n5 2 cs1), D.nil] kT) ∧
 (bcase (n7 == 0)
 (bcase (dL n3 2 l3)
 (bcase (dL n4 2 l4)
 (((Says C 19 [(D.agg [(dI x0), (dI x1), D.nil]), (D.agg [(Dw n3 2 l3), (Dw n4 2 l4)]), D.nil] [D.nil]) ∧
 (((Says C 18 [D.nil, D.nil] kT) ∧
 (k kT)) ∨
 ((Says C 18 [D.nil, D.nil] kF) ∧
 (k kF)))) ∨
 (∃ n12 : Nat,
 (∃ cs2 : List Go.Value,
 ((Says C 19 [(D.agg [(dI x0), (dI x1), D.nil]), (D.agg [(Dw n3 2 l3), (Dw n4 2 l4)]), D.nil] [(D.sl (n12) 1 (cs2))]) ∧
 (bcase (dL n12 1 cs2)
 (((Says C 18 [D.nil, (Dw n12 1 cs2)] kT) ∧
 (k kT)) ∨
 ((Says C 18 [D.nil, (Dw n12 1 cs2)] kF) ∧
 (k kF)))
 False)))))
 False)
 False)
 (k kF))) ∨
 ((Says C 16 [(Dw n5 2 cs1), D.nil] kF) ∧
 (k kF)))
 False)) ∨
 (∃ n12 : Nat,
 (∃ cs2 : List Go.Value,
 ((Says C 17 [(D.agg [(dI x0), (dI x1), D.nil]), (D.agg [(Dw n3 2 l3), (Dw n4 2 l4)]), D.nil] [(D.sl (n12) 2 (cs2))]) ∧
 (bcase (dL n5 2 cs1)
 (bcase (dL n12 2 cs2)
 (((Says C 16 [(Dw n5 2 cs1), (Dw n12 2 cs2)] kT) ∧
 (bcase (n7 == 0)
 (bcase (dL n3 2 l3)
 (bcase (dL n4 2 l4)
 (((Says C 19 [(D.agg [(dI x0), (dI x1), D.nil]), (D.agg [(Dw n3 2 l3), (Dw n4 2 l4)]), D.nil] [D.nil]) ∧
 (((Says C 18 [D.nil, D.nil] kT) ∧
 (k kT)) ∨
 ((Says C 18 [D.nil, D.nil] kF) ∧
 (k kF)))) ∨
 (∃ n13 : Nat,
 (∃ cs3 : List Go.Value,
 ((Says C 19 [(D.agg [(dI x0), (dI x1), D.nil]), (D.agg [(Dw n3 2 l3), (Dw n4 2 l4)]), D.nil] [(D.sl (n13) 1 (cs3))]) ∧
 (bcase (dL n13 1 cs3)
 (((Says C 18 [D.nil, (Dw n13 1 cs3)] kT) ∧
 (k kT)) ∨
 ((Says C 18 [D.nil, (Dw n13 1 cs3)] kF) ∧
 (k kF)))
 False)))))
 False)
 False)
 (k kF))) ∨
 ((Says C 16 [(Dw n5 2 cs1), (Dw n12 2 cs2)] kF) ∧
 (k kF)))
 False)
 False)))))
 False)
 False)
 (k kF)))))
 False)
 False)
 (bcase (n10 != 0)
 (bcase (n6 == n10)
 (bcase (n7 == n10)
 (bcase ((↑n5 : Int) == 0)
 (k kT)
 (k kF))
 (k kF))
 (k kF))
 (bcase (n6 == 0)
 (bcase (dL n3 2 l3)
 (bcase (dL n4 2 l4)
 (((Says C 17 [(D.agg [(dI x0), (dI x1), D.nil]), (D.agg [(Dw n3 2 l3), (Dw n4 2 l4)]), D.nil] [D.nil]) ∧
 (bcase (dL n5 2 cs1)
 (((Says C 16 [(Dw n5 2 cs1), D.nil] kT) ∧
 (bcase (n7 == 0)
 (bcase (dL n3 2 l3)
 (bcase (dL n4 2 l4)
 (((Says C 19 [(D.agg [(dI x0), (dI x1), D.nil]), (D.agg [(Dw n3 2 l3), (Dw n4 2 l4)]), D.nil] [D.nil]) ∧
 (((Says C 18 [D.nil, D.nil] kT) ∧
 (k kT)) ∨
 ((Says C 18 [D.nil, D.nil] kF) ∧
 (k kF)))) ∨
 (∃ n11 : Nat,
 (∃ cs2 : List Go.Value,
 ((Says C 19 [(D.agg [(dI x0), (dI x1), D.nil]), (D.agg [(Dw n3 2 l3), (Dw n4 2 l4)]), D.nil] [(D.sl (n11) 1 (cs2))]) ∧
 (bcase (dL n11 1 cs2)
 (((Says C 18 [D.nil, (Dw n11 1 cs2)] kT) ∧
 (k kT)) ∨
 ((Says C 18 [D.nil, (Dw n11 1 cs2)] kF) ∧
 (k kF)))
 False)))))
 False)
 False)
 (k kF))) ∨
 ((Says C 16 [(Dw n5 2 cs1), D.nil] kF) ∧
 (k kF)))
 False)) ∨
 (∃ n11 : Nat,
 (∃ cs2 : List Go.Value,
 ((Says C 17 [(D.agg [(dI x0), (dI x1), D.nil]), (D.agg [(Dw n3 2 l3), (Dw n4 2 l4)]), D.nil] [(D.sl (n11) 2 (cs2))]) ∧
 (bcase (dL n5 2 cs1)
 (bcase (dL n11 2 cs2)
 (((Says C 16 [(Dw n5 2 cs1), (Dw n11 2 cs2)] kT) ∧
 (bcase (n7 == 0)
 (bcase (dL n3 2 l3)
 (bcase (dL n4 2 l4)
 (((Says C 19 [(D.agg [(dI x0), (dI x1), D.nil]), (D.agg [(Dw n3 2 l3), (Dw n4 2 l4)]), D.nil] [D.nil]) ∧
 (((Says C 18 [D.nil, D.nil] kT) ∧
 (k kT)) ∨
 ((Says C 18 [D.nil, D.nil] kF) ∧
 (k kF)))) ∨
 (∃ n12 : Nat,
 (∃ cs3 : List Go.Value,
 ((Says C 19 [(D.agg [(dI x0), (dI x1), D.nil]), (D.agg [(Dw n3 2 l3), (Dw n4 2 l4)]), D.nil] [(D.sl (n12) 1 (cs3))]) ∧
 (bcase (dL n12 1 cs3)
 (((Says C 18 [D.nil, (Dw n12 1 cs3)] kT) ∧
 (k kT)) ∨
 ((Says C 18 [D.nil, (Dw n12 1 cs3)] kF) ∧
 (k kF)))
 False)))))
 False)
 False)
 (k kF))) ∨
 ((Says C 16 [(Dw n5 2 cs1), (Dw n11 2 cs2)] kF) ∧
 (k kF)))
 False)
 False)))))
 False)
 False)
 (k kF))))))
 False)
 False))))))
 False)
 False)))))) ∨
 (∃ n7 : Nat,
 (∃ cs2 : List Go.Value,
 (∃ n8 : Int,
 ((Says C 12 [(D.agg [(dI x0), (dI x1), (D.sl 0 3 [])]), (D.agg [(Dw n3 2 (Tk n3 2 l3)), (Dw n4 2 (Tk n4 2 l4))]), (D.sl 0 1 [])] [(D.sl (n7) 1 (cs2)), (dI n8)]) ∧
 (((Qv (vI n8)) ∧
 ((Qv (Sl 1016 (n7) (n7))) ∧
 ((Qv (Go.Value.tuple [(Sl 1016 (n7) (n7)), (vI n8)].toArray)) ∧
 True))) ∧
 (((Qv (vI n8)) ∧
 True) ∧
 (True ∧
 (bcase (dL n3 2 l3)
 (bcase (dL n4 2 l4)
 (∃ n9 : Int,
 (∃ n10 : Int,
 ((Says C 13 [(D.agg [(Dw n3 2 l3), (Dw n4 2 l4)])] [(dI n9), (dI n10)]) ∧
 (bcase (n2 != n10)
 (k kF)
 (bcase (n1 != n9)
 (k kF)
 (bcase (dL n3 2 l3)
 (bcase (dL n4 2 l4)
 (∃ n11 : Int,
 ((Says C 14 [(D.agg [(dI x0), (dI x1), D.nil]), (D.agg [(Dw n3 2 l3), (Dw n4 2 l4)])] [(dI n11)]) ∧
 (bcase (n11 == 0)
 (bcase (dL n3 2 l3)
 (bcase (dL n4 2 l4)
 (∃ n12 : Int,
 ((Says C 15 [(D.agg [(dI x0), (dI x1), D.nil]), (D.agg [(Dw n3 2 l3), (Dw n4 2 l4)]), D.nil] [(dI n12)]) ∧
 (bcase (n12 != 0)
 (bcase (n6 == n12)
 (bcase (n8 == n12)
 (bcase ((↑n5 : Int) == 0)
 (bcase ((↑n7 : Int) == 0)
 (k kT)
 (k kF))
 (k kF))
 (k kF))
 (k kF))
 (bcase (n6 == 0)
 (bcase (dL n3 2 l3)
 (bcase (dL n4 2 l4)
 (((Says C 17 [(D.agg [(dI x0), (dI x1), D.nil]), (D.agg [(Dw n3 2 l3), (Dw n4 2 l4)]), D.nil] [D.nil]) ∧
 (bcase (dL n5 2 cs1)
 (((Says C 16 [(Dw n5 2 cs1), D.nil] kT) ∧
 (bcase (n8 == 0)
 (bcase (dL n3 2 l3)
 (bcase (dL n4 2 l4)
 (((Says C 19 [(D.agg [(dI x0), (dI x1), D.nil]), (D.agg [(Dw n3 2 l3), (Dw n4 2 l4)]), D.nil] [D.nil]) ∧
 (bcase (dL n7 1 cs2)
 (((Says C 18 [(Dw n7 1 cs2), D.nil] kT) ∧
 (k kT)) ∨
 ((Says C 18 [(Dw n7 1 cs2), D.nil] kF) ∧
 (k kF)))
 False)) ∨
 (∃ n13 : Nat,
 (∃ cs3 : List Go.Value,
 ((Says C 19 [(D.agg [(dI x0), (dI x1), D.nil]), (D.agg [(Dw n3 2 l3), (Dw n4 2 l4)]), D.nil] [(D.sl (n13) 1 (cs3))]) ∧
 (bcase (dL n7 1 cs2)
 (bcase (dL n13 1 cs3)
 (((Says C 18 [(Dw n7 1 cs2), (Dw n13 1 cs3)] kT) ∧
 (k kT)) ∨
 ((Says C 18 [(Dw n7 1 cs2), (Dw n13 1 cs3)] kF) ∧
 (k kF)))
 False)
 False)))))
 False)
 False)
 (k kF))) ∨
 ((Says C 16 [(Dw n5 2 cs1), D.nil] kF) ∧
 (k kF)))
 False)) ∨
 (∃ n13 : Nat,
 (∃ cs3 : List Go.Value,
 ((Says C 17 [(D.agg [(dI x0), (dI x1), D.nil]), (D.agg [(Dw n3 2 l3), (Dw n4 2 l4)]), D.nil] [(D.sl (n13) 2 (cs3))]) ∧
 (bcase (dL n5 2 cs1)
 (bcase (dL n13 2 cs3)
 (((Says C 16 [(Dw n5 2 cs1), (Dw n13 2 cs3)] kT) ∧
 (bcase (n8 == 0)
 (bcase (dL n3 2 l3)
 (bcase (dL n4 2 l4)
 (((Says C 19 [(D.agg [(dI x0), (dI x1), D.nil]), (D.agg [(Dw n3 2 l3), (Dw n4 2 l4)]), D.nil] [D.nil]) ∧
 (bcase (dL n7 1 cs2)
 (((Says C 18 [(Dw n7 1 cs2), D.nil] kT) ∧
 (k kT)) ∨
 ((Says C 18 [(Dw n7 1 cs2), D.nil] kF) ∧
 (k kF)))
 False)) ∨
 (∃ n14 : Nat,
 (∃ cs4 : List Go.Value,
 ((Says C 19 [(D.agg [(dI x0), (dI x1), D.nil]), (D.agg [(Dw n3 2 l3), (Dw n4 2 l4)]), D.nil] [(D.sl (n14) 1 (cs4))]) ∧
 (bcase (dL n7 1 cs2)
 (bcase (dL n14 1 cs4)
 (((Says C 18 [(Dw n7 1 cs2), (Dw n14 1 cs4)] kT) ∧
 (k kT)) ∨
 ((Says C 18 [(Dw n7 1 cs2), (Dw n14 1 cs4)] kF) ∧
 (k kF)))
 False)
 False)))))
 False)
 False)
 (k kF))) ∨
 ((Says C 16 [(Dw n5 2 cs1), (Dw n13 2 cs3)] kF) ∧
 (k kF)))
 False)
 False)))))
 False)
 False)
 (k kF)))))
 False)
 False)
 (bcase (n11 != 0)
 (bcase (n6 == n11)
 (bcase (n8 == n11)
 (bcase ((↑n5 : Int) == 0)
 (bcase ((↑n7 : Int) == 0)
 (k kT)
 (k kF))
 (k kF))
 (k kF))
 (k kF))
 (bcase (n6 == 0)
 (bcase (dL n3 2 l3)
 (bcase (dL n4 2 l4)
 (((Says C 17 [(D.agg [(dI x0), (dI x1), D.nil]), (D.agg [(Dw n3 2 l3), (Dw n4 2 l4)]), D.nil] [D.nil]) ∧
 (bcase (dL n5 2 cs1)
 (((Says C 16 [(Dw n5 2 cs1), D.nil] kT) ∧
 (bcase (n8 == 0)
 (bcase (dL n3 2 l3)
 (bcase (dL n4 2 l4)
 (((Says C 19 [(D.agg [(dI x0), (dI x1), D.nil]), (D.agg [(Dw n3 2 l3), (Dw n4 2 l4)]), D.nil] [D.nil]) ∧
 (bcase (dL n7 1 cs2)
 (((Says C 18 [(Dw n7 1 cs2), D.nil] kT) ∧
 (k kT)) ∨
 ((Says C 18 [(Dw n7 1 cs2), D.nil] kF) ∧
 (k kF)))
 False)) ∨
 (∃ n12 : Nat,
 (∃ cs3 : List Go.Value,
 ((Says C 19 [(D.agg [(dI x0), (dI x1), D.nil]), (D.agg [(Dw n3 2 l3), (Dw n4 2 l4)]), D.nil] [(D.sl (n12) 1 (cs3))]) ∧
 (bcase (dL n7 1 cs2)
 (bcase (dL n12 1 cs3)
 (((Says C 18 [(Dw n7 1 cs2), (Dw n12 1 cs3)] kT) ∧
 (k kT)) ∨
 ((Says C 18 [(Dw n7 1 cs2), (Dw n12 1 cs3)] kF) ∧
 (k kF)))
 False)
 False)))))
 False)
 False)
 (k kF))) ∨
 ((Says C 16 [(Dw n5 2 cs1), D.nil] kF) ∧
 (k kF)))
 False)) ∨
 (∃ n12 : Nat,
 (∃ cs3 : List Go.Value,
 ((Says C 17 [(D.agg [(dI x0), (dI x1), D.nil]), (D.agg [(Dw n3 2 l3), (Dw n4 2 l4)]), D.nil] [(D.sl (n12) 2 (cs3))]) ∧
 (bcase (dL n5 2 cs1)
 (bcase (dL n12 2 cs3)
 (((Says C 16 [(Dw n5 2 cs1), (Dw n12 2 cs3)] kT) ∧
 (bcase (n8 == 0)
 (bcase (dL n3 2 l3)
 (bcase (dL n4 2 l4)
 (((Says C 19 [(D.agg [(dI x0), (dI x1), D.nil]), (D.agg [(Dw n3 2 l3), (Dw n4 2 l4)]), D.nil] [D.nil]) ∧
 (bcase (dL n7 1 cs2)
 (((Says C 18 [(Dw n7 1 cs2), D.nil] kT) ∧
 (k kT)) ∨
 ((Says C 18 [(Dw n7 1 cs2), D.nil] kF) ∧
 (k kF)))
 False)) ∨
 (∃ n13 : Nat,
 (∃ cs4 : List Go.Value,
 ((Says C 19 [(D.agg [(dI x0), (dI x1), D.nil]), (D.agg [(Dw n3 2 l3), (Dw n4 2 l4)]), D.nil] [(D.sl (n13) 1 (cs4))]) ∧
 (bcase (dL n7 1 cs2)
 (bcase (dL n13 1 cs4)
 (((Says C 18 [(Dw n7 1 cs2), (Dw n13 1 cs4)] kT) ∧
 (k kT)) ∨
 ((Says C 18 [(Dw n7 1 cs2), (Dw n13 1 cs4)] kF) ∧
 (k kF)))
 False)
 False)))))
 False)
 False)
 (k kF))) ∨
 ((Says C 16 [(Dw n5 2 cs1), (Dw n12 2 cs3)] kF) ∧
 (k kF)))
 False)
 False)))))
 False)
 False)
 (k kF))))))
 False)
 False))))))
 False)
 False)))))))))
 False)
 False)))))
 False)
 False))))))))))))
 False)
 False)))))
 False)
 False)))))))
 False)
 False))
 False)
 False)
 (k kT))
 (k kT))) ∨
 ((Says C 4 [] kF) ∧
 (k kF))) := by kernel_rfl
def gLSta (C : Ct) (L : AtLoop) (x0 : Int) (x1 : Int) (n4 : Nat) (c4 : Nat) (l4 : List Value) (n5 : Nat) (c5 : Nat) (l5 : List Value) (k : List D → Prop) : Prop := wpFn Tryz.prog (hC C) L 0 3 #[.agg #[.int .i64 x0, .int .i64 x1, .slice none 0 0], .agg #[.slice none 0 0, .slice (some ⟨500, 0, none⟩) n4 c4], .slice (some ⟨501, 0, none⟩) n5 c5] (heapOf [(500, .sym l4 false 2), (501, .sym l5 false 1)]) (dataK k)
theorem gLSta_text (C : Ct) (L : AtLoop) (x0 : Int) (x1 : Int) (n4 : Nat) (c4 : Nat) (l4 : List Go.Value) (n5 : Nat) (c5 : Nat) (l5 : List Go.Value) (k : List D → Prop) : gLSta C L x0 x1 n4 c4 l4 n5 c5 l5 k =
 (((Says C 4 [] kT) ∧
 (bcase (decide ((↑n4 : Int) ≤ 14))
 (bcase (decide ((↑n5 : Int) ≤ 14))
 (bcase (dL n4 2 l4)
 ((Says C 8 [(D.agg [D.nil, (Dw n4 2 l4)])] [(D.agg [(D.sl 0 2 []), (Dw n4 2 l4)])]) ∧
 (bcase (dL n4 2 (Tk n4 2 l4))
 (∃ n1 : Int,
 (∃ n2 : Int,
 ((Says C 7 [(D.agg [(D.sl 0 2 []), (Dw n4 2 (Tk n4 2 l4))])] [(dI n1), (dI n2)]) ∧
 (((Qv (Sl 501 (n5) (c5))) ∧
 ((Qv (Go.Value.agg [(Go.Value.slice Option.none 0 0), (Sl 500 (n4) (c4))].toArray)) ∧
 ((Qv (Go.Value.agg [(vI x0), (vI x1), (Go.Value.slice Option.none 0 0)].toArray)) ∧
 True))) ∧
 ((Says C 10 [(D.agg [(dI x0), (dI x1), D.nil])] [(D.agg [(dI x0), (dI x1), (D.sl 0 3 [])])]) ∧
 (((Qv (Sl 501 (n5) (c5))) ∧
 ((Qv (Go.Value.agg [(Go.Value.slice Option.none 0 0), (Sl 500 (n4) (c4))].toArray)) ∧
 True)) ∧
 (bcase (dL n4 2 l4)
 ((Says C 8 [(D.agg [D.nil, (Dw n4 2 l4)])] [(D.agg [(D.sl 0 2 []), (Dw n4 2 l4)])]) ∧
 (((Qv (Sl 501 (n5) (c5))) ∧
 True) ∧
 (bcase (dL n5 1 l5)
 ((Says C 11 [(Dw n5 1 l5)] [(Dw n5 1 l5)]) ∧
 (True ∧
 (bcase (dL n4 2 (Tk n4 2 l4))
 (bcase (dL n5 1 (Tk n5 1 l5))
 ((∃ n3 : Int,
 ((Says C 9 [(D.agg [(dI x0), (dI x1), (D.sl 0 3 [])]), (D.agg [(D.sl 0 2 []), (Dw n4 2 (Tk n4 2 l4))]), (Dw n5 1 (Tk n5 1 l5))] [D.nil, (dI n3)]) ∧
 (((Qv (vI n3)) ∧
 ((Qv (Go.Value.slice Option.none 0 0)) ∧
 ((Qv (Go.Value.tuple [(Go.Value.slice Option.none 0 0), (vI n3)].toArray)) ∧
 True))) ∧
 (((Qv (vI n3)) ∧
 True) ∧
 (True ∧
 (((Qv (Sl 501 (n5) (c5))) ∧
 ((Qv (Go.Value.agg [(Go.Value.slice Option.none 0 0), (Sl 500 (n4) (c4))].toArray)) ∧
 ((Qv (Go.Value.agg [(vI x0), (vI x1), (Go.Value.slice Option.none 0 0)].toArray)) ∧
 True))) ∧
 ((Says C 10 [(D.agg [(dI x0), (dI x1), D.nil])] [(D.agg [(dI x0), (dI x1), (D.sl 0 3 [])])]) ∧
 (((Qv (Sl 501 (n5) (c5))) ∧
 ((Qv (Go.Value.agg [(Go.Value.slice Option.none 0 0), (Sl 500 (n4) (c4))].toArray)) ∧
 True)) ∧
 (bcase (dL n4 2 l4)
 ((Says C 8 [(D.agg [D.nil, (Dw n4 2 l4)])] [(D.agg [(D.sl 0 2 []), (Dw n4 2 l4)])]) ∧
 (((Qv (Sl 501 (n5) (c5))) ∧
 True) ∧
 (bcase (dL n5 1 l5)
 ((Says C 11 [(Dw n5 1 l5)] [(Dw n5 1 l5)]) ∧
 (True ∧
 (bcase (dL n4 2 (Tk n4 2 l4))
 (bcase (dL n5 1 (Tk n5 1 l5))
 ((∃ n6 : Int,
 ((Says C 12 [(D.agg [(dI x0), (dI x1), (D.sl 0 3 [])]), (D.agg [(D.sl 0 2 []), (Dw n4 2 (Tk n4 2 l4))]), (Dw n5 1 (Tk n5 1 l5))] [D.nil, (dI n6)]) ∧
 (((Qv (vI n6)) ∧
 ((Qv (Go.Value.slice Option.none 0 0)) ∧
 ((Qv (Go.Value.tuple [(Go.Value.slice Option.none 0 0), (vI n6)].toArray)) ∧
 True))) ∧
 (((Qv (vI n6)) ∧
 True) ∧
 (True ∧
 (bcase (dL n4 2 l4)
 (∃ n7 : Int,
 (∃ n8 : Int,
 ((Says C 13 [(D.agg [D.nil, (Dw n4 2 l4)])] [(dI n7), (dI n8)]) ∧
 (bcase (n2 != n8)
 (k kF)
 (bcase (n1 != n7)
 (k kF)
 (bcase (dL n4 2 l4)
 (∃ n9 : Int,
 ((Says C 14 [(D.agg [(dI x0), (dI x1), D.nil]), (D.agg [D.nil, (Dw n4 2 l4)])] [(dI n9)]) ∧
 (bcase (n9 == 0)
 (bcase (dL n4 2 l4)
 (bcase (dL n5 1 l5)
 (∃ n10 : Int,
 ((Says C 15 [(D.agg [(dI x0), (dI x1), D.nil]), (D.agg [D.nil, (Dw n4 2 l4)]), (Dw n5 1 l5)] [(dI n10)]) ∧
 (bcase (n10 != 0)
 (bcase (n3 == n10)
 (bcase (n6 == n10)
 (k kT)
 (k kF))
 (k kF))
 (bcase (n3 == 0)
 (bcase (dL n4 2 l4)
 (bcase (dL n5 1 l5)
 (((Says C 17 [(D.agg [(dI x0), (dI x1), D.nil]), (D.agg [D.nil, (Dw n4 2 l4)]), (Dw n5 1 l5)] [D.nil]) ∧
 (((Says C 16 [D.nil, D.nil] kT) ∧
 (bcase (n6 == 0)
 (bcase (dL n4 2 l4)
 (bcase (dL n5 1 l5)
 (((Says C 19 [(D.agg [(dI x0), (dI x1), D.nil]), (D.agg [D.nil, (Dw n4 2 l4)]), (Dw n5 1 l5)] [D.nil]) ∧
 (((Says C 18 [D.nil, D.nil] kT) ∧
 (k kT)) ∨
 ((Says C 18 [D.nil, D.nil] kF) ∧
 (k kF)))) ∨
 (∃ n11 : Nat,
 (∃ cs1 : List Go.Value,
 ((Says C 19 [(D.agg [(dI x0), (dI x1), D.nil]), (D.agg [D.nil, (Dw n4 2 l4)]), (Dw n5 1 l5)] [(D.sl (n11) 1 (cs1))]) ∧
 (bcase (dL n11 1 cs1)
 (((Says C 18 [D.nil, (Dw n11 1 cs1)] kT) ∧
 (k kT)) ∨
 ((Says C 18 [D.nil, (Dw n11 1 cs1)] kF) ∧
 (k kF)))
 False)))))
 False)
 False)
 (k kF))) ∨
 ((Says C 16 [D.nil, D.nil] kF) ∧
 (k kF)))) ∨
 (∃ n11 : Nat,
 (∃ cs1 : List Go.Value,
 ((Says C 17 [(D.agg [(dI x0), (dI x1), D.nil]), (D.agg [D.nil, (Dw n4 2 l4)]), (Dw n5 1 l5)] [(D.sl (n11) 2 (cs1))]) ∧
 (bcase (dL n11 2 cs1)
 (((Says C 16 [D.nil, (Dw n11 2 cs1)] kT) ∧
 (bcase (n6 == 0)
 (bcase (dL n4 2 l4)
 (bcase (dL n5 1 l5)
 (((Says C 19 [(D.agg [(dI x0), (dI x1), D.nil]), (D.agg [D.nil, (Dw n4 2 l4)]), (Dw n5 1 l5)] [D.nil]) ∧
 (((Says C 18 [D.nil, D.nil] kT) ∧
 (k kT)) ∨
 ((Says C 18 [D.nil, D.nil] kF) ∧
 (k kF)))) ∨
 (∃ n12 : Nat,
 (∃ cs2 : List Go.Value,
 ((Says C 19 [(D.agg [(dI x0), (dI x1), D.nil]), (D.agg [D.nil, (Dw n4 2 l4)]), (Dw n5 1 l5)] [(D.sl (n12) 1 (cs2))]) ∧
 (bcase (dL n12 1 cs2)
 (((Says C 18 [D.nil, (Dw n12 1 cs2)] kT) ∧
 (k kT)) ∨
 ((Says C 18 [D.nil, (Dw n12 1 cs2)] kF) ∧
 (k kF)))
 False)))))
 False)
 False)
 (k kF))) ∨
 ((Says C 16 [D.nil, (Dw n11 2 cs1)] kF) ∧
 (k kF)))
 False)))))
 False)
 False)
 (k kF)))))
 False)
 False)
 (bcase (n9 != 0)
 (bcase (n3 == n9)
 (bcase (n6 == n9)
 (k kT)
 (k kF))
 (k kF))
 (bcase (n3 == 0)
 (bcase (dL n4 2 l4)
 (bcase (dL n5 1 l5)
 (((Says C 17 [(D.agg [(dI x0), (dI x1), D.nil]), (D.agg [D.nil, (Dw n4 2 l4)]), (Dw n5 1 l5)] [D.nil]) ∧
 (((Says C 16 [D.nil, D.nil] kT) ∧
 (bcase (n6 == 0)
 (bcase (dL n4 2 l4)
 (bcase (dL n5 1 l5)
 (((Says C 19 [(D.agg [(dI x0), (dI x1), D.nil]), (D.agg [D.nil, (Dw n4 2 l4)]), (Dw n5 1 l5)] [D.nil]) ∧
 (((Says C 18 [D.nil, D.nil] kT) ∧
 (k kT)) ∨
 ((Says C 18 [D.nil, D.nil] kF) ∧
 (k kF)))) ∨
 (∃ n10 : Nat,
 (∃ cs1 : List Go.Value,
 ((Says C 19 [(D.agg [(dI x0), (dI x1), D.nil]), (D.agg [D.nil, (Dw n4 2 l4)]), (Dw n5 1 l5)] [(D.sl (n10) 1 (cs1))]) ∧
 (bcase (dL n10 1 cs1)
 (((Says C 18 [D.nil, (Dw n10 1 cs1)] kT) ∧
 (k kT)) ∨
 ((Says C 18 [D.nil, (Dw n10 1 cs1)] kF) ∧
 (k kF)))
 False)))))
 False)
 False)
 (k kF))) ∨
 ((Says C 16 [D.nil, D.nil] kF) ∧
 (k kF)))) ∨
 (∃ n10 : Nat,
 (∃ cs1 : List Go.Value,
 ((Says C 17 [(D.agg [(dI x0), (dI x1), D.nil]), (D.agg [D.nil, (Dw n4 2 l4)]), (Dw n5 1 l5)] [(D.sl (n10) 2 (cs1))]) ∧
 (bcase (dL n10 2 cs1)
 (((Says C 16 [D.nil, (Dw n10 2 cs1)] kT) ∧
 (bcase (n6 == 0)
 (bcase (dL n4 2 l4)
 (bcase (dL n5 1 l5)
 (((Says C 19 [(D.agg [(dI x0), (dI x1), D.nil]), (D.agg [D.nil, (Dw n4 2 l4)]), (Dw n5 1 l5)] [D.nil]) ∧
 (((Says C 18 [D.nil, D.nil] kT) ∧
 (k kT)) ∨
 ((Says C 18 [D.nil, D.nil] kF) ∧
 (k kF)))) ∨
 (∃ n11 : Nat,
 (∃ cs2 : List Go.Value,
 ((Says C 19 [(D.agg [(dI x0), (dI x1), D.nil]), (D.agg [D.nil, (Dw n4 2 l4)]), (Dw n5 1 l5)] [(D.sl (n11) 1 (cs2))]) ∧
 (bcase (dL n11 1 cs2)
 (((Says C 18 [D.nil, (Dw n11 1 cs2)] kT) ∧
 (k kT)) ∨
 ((Says C 18 [D.nil, (Dw n11 1 cs2)] kF) ∧
 (k kF)))
 False)))))
 False)
 False)
 (k kF))) ∨
 ((Says C 16 [D.nil, (Dw n10 2 cs1)] kF) ∧
 (k kF)))
 False)))))
 False)
 False)
 (k kF))))))
 False))))))
 False)))))) ∨
 (∃ n6 : Nat,
 (∃ cs1 : List Go.Value,
 (∃ n7 : Int,
 ((Says C 12 [(D.agg [(dI x0), (dI x1), (D.sl 0 3 [])]), (D.agg [(D.sl 0 2 []), (Dw n4 2 (Tk n4 2 l4))]), (Dw n5 1 (Tk n5 1 l5))] [(D.sl (n6) 1 (cs1)), (dI n7)]) ∧
 (((Qv (vI n7)) ∧
 ((Qv (Sl 1015 (n6) (n6))) ∧
 ((Qv (Go.Value.tuple [(Sl 1015 (n6) (n6)), (vI n7)].toArray)) ∧
 True))) ∧
 (((Qv (vI n7)) ∧
 True) ∧
 (True ∧
 (bcase (dL n4 2 l4)
 (∃ n8 : Int,
 (∃ n9 : Int,
 ((Says C 13 [(D.agg [D.nil, (Dw n4 2 l4)])] [(dI n8), (dI n9)]) ∧
 (bcase (n2 != n9)
 (k kF)
 (bcase (n1 != n8)
 (k kF)
 (bcase (dL n4 2 l4)
 (∃ n10 : Int,
 ((Says C 14 [(D.agg [(dI x0), (dI x1), D.nil]), (D.agg [D.nil, (Dw n4 2 l4)])] [(dI n10)]) ∧
 (bcase (n10 == 0)
 (bcase (dL n4 2 l4)
 (bcase (dL n5 1 l5)
 (∃ n11 : Int,
 ((Says C 15 [(D.agg [(dI x0), (dI x1), D.nil]), (D.agg [D.nil, (Dw n4 2 l4)]), (Dw n5 1 l5)] [(dI n11)]) ∧
 (bcase (n11 != 0)
 (bcase (n3 == n11)
 (bcase (n7 == n11)
 (bcase ((↑n6 : Int) == 0)
 (k kT)
 (k kF))
 (k kF))
 (k kF))
 (bcase (n3 == 0)
 (bcase (dL n4 2 l4)
 (bcase (dL n5 1 l5)
 (((Says C 17 [(D.agg [(dI x0), (dI x1), D.nil]), (D.agg [D.nil, (Dw n4 2 l4)]), (Dw n5 1 l5)] [D.nil]) ∧
 (((Says C 16 [D.nil, D.nil] kT) ∧
 (bcase (n7 == 0)
 (bcase (dL n4 2 l4)
 (bcase (dL n5 1 l5)
 (((Says C 19 [(D.agg [(dI x0), (dI x1), D.nil]), (D.agg [D.nil, (Dw n4 2 l4)]), (Dw n5 1 l5)] [D.nil]) ∧
 (bcase (dL n6 1 cs1)
 (((Says C 18 [(Dw n6 1 cs1), D.nil] kT) ∧
 (k kT)) ∨
 ((Says C 18 [(Dw n6 1 cs1), D.nil] kF) ∧
 (k kF)))
 False)) ∨
 (∃ n12 : Nat,
 (∃ cs2 : List Go.Value,
 ((Says C 19 [(D.agg [(dI x0), (dI x1), D.nil]), (D.agg [D.nil, (Dw n4 2 l4)]), (Dw n5 1 l5)] [(D.sl (n12) 1 (cs2))]) ∧
 (bcase (dL n6 1 cs1)
 (bcase (dL n12 1 cs2)
 (((Says C 18 [(Dw n6 1 cs1), (Dw n12 1 cs2)] kT) ∧
 (k kT)) ∨
 ((Says C 18 [(Dw n6 1 cs1), (Dw n12 1 cs2)] kF) ∧
 (k kF)))
 False)
 False)))))
 False)
 False)
 (k kF))) ∨
 ((Says C 16 [D.nil, D.nil] kF) ∧
 (k kF)))) ∨
 (∃ n12 : Nat,
 (∃ cs2 : List Go.Value,
 ((Says C 17 [(D.agg [(dI x0), (dI x1), D.nil]), (D.agg [D.nil, (Dw n4 2 l4)]), (Dw n5 1 l5)] [(D.sl (n12) 2 (cs2))]) ∧
 (bcase (dL n12 2 cs2)
 (((Says C 16 [D.nil, (Dw n12 2 cs2)] kT) ∧
 (bcase (n7 == 0)
 (bcase (dL n4 2 l4)
 (bcase (dL n5 1 l5)
 (((Says C 19 [(D.agg [(dI x0), (dI x1), D.nil]), (D.agg [D.nil, (Dw n4 2 l4)]), (Dw n5 1 l5)] [D.nil]) ∧
 (bcase (dL n6 1 cs1)
 (((Says C 18 [(Dw n6 1 cs1), D.nil] kT) ∧
 (k kT)) ∨
 ((Says C 18 [(Dw n6 1 cs1), D.nil] kF) ∧
 (k kF)))
 False)) ∨
 (∃ n13 : Nat,
 (∃ cs3 : List Go.Value,
 ((Says C 19 [(D.agg [(dI x0), (dI x1), D.nil]), (D.agg [D.nil, (Dw n4 2 l4)]), (Dw n5 1 l5)] [(D.sl (n13) 1 (cs3))]) ∧
 (bcase (dL n6 1 cs1)
 (bcase (dL n13 1 cs3)
 (((Says C 18 [(Dw n6 1 cs1), (Dw n13 1 cs3)] kT) ∧
 (k kT)) ∨
 ((Says C 18 [(Dw n6 1 cs1), (Dw n13 1 cs3)] kF) ∧
 (k kF)))
 False)
 False)))))
 False)
 False)
 (k kF))) ∨
 ((Says C 16 [D.nil, (Dw n12 2 cs2)] kF) ∧
 (k kF)))
 False)))))
 False)
 False)
 (k kF)))))
 False)
 False)
 (bcase (n10 != 0)
 (bcase (n3 == n10)
 (bcase (n7 == n10)
 (bcase ((↑n6 : Int) == 0)
 (k kT)
 (k kF))
 (k kF))
 (k kF))
 (bcase (n3 == 0)
 (bcase (dL n4 2 l4)
 (bcase (dL n5 1 l5)
 (((Says C 17 [(D.agg [(dI x0), (dI x1), D.nil]), (D.agg [D.nil, (Dw n4 2 l4)]), (Dw n5 1 l5)] [D.nil]) ∧
 (((Says C 16 [D.nil, D.nil] kT) ∧
 (bcase (n7 == 0)
 (bcase (dL n4 2 l4)
 (bcase (dL n5 1 l5)
 (((Says C 19 [(D.agg [(dI x0), (dI x1), D.nil]), (D.agg [D.nil, (Dw n4 2 l4)]), (Dw n5 1 l5)] [D.nil]) ∧
 (bcase (dL n6 1 cs1)
 (((Says C 18 [(Dw n6 1 cs1), D.nil] kT) ∧
 (k kT)) ∨
 ((Says C 18 [(Dw n6 1 cs1), D.nil] kF) ∧
 (k kF)))
 False)) ∨
 (∃ n11 : Nat,
 (∃ cs2 : List Go.Value,
 ((Says C 19 [(D.agg [(dI x0), (dI x1), D.nil]), (D.agg [D.nil, (Dw n4 2 l4)]), (Dw n5 1 l5)] [(D.sl (n11) 1 (cs2))]) ∧
 (bcase (dL n6 1 cs1)
 (bcase (dL n11 1 cs2)
 (((Says C 18 [(Dw n6 1 cs1), (Dw n11 1 cs2)] kT) ∧
 (k kT)) ∨
 ((Says C 18 [(Dw n6 1 cs1), (Dw n11 1 cs2)] kF) ∧
 (k kF)))
 False)
 False)))))
 False)
 False)
 (k kF))) ∨
 ((Says C 16 [D.nil, D.nil] kF) ∧
 (k kF)))) ∨
 (∃ n11 : Nat,
 (∃ cs2 : List Go.Value,
 ((Says C 17 [(D.agg [(dI x0), (dI x1), D.nil]), (D.agg [D.nil, (Dw n4 2 l4)]), (Dw n5 1 l5)] [(D.sl (n11) 2 (cs2))]) ∧
 (bcase (dL n11 2 cs2)
 (((Says C 16 [D.nil, (Dw n11 2 cs2)] kT) ∧
 (bcase (n7 == 0)
 (bcase (dL n4 2 l4)
 (bcase (dL n5 1 l5)
 (((Says C 19 [(D.agg [(dI x0), (dI x1), D.nil]), (D.agg [D.nil, (Dw n4 2 l4)]), (Dw n5 1 l5)] [D.nil]) ∧
 (bcase (dL n6 1 cs1)
 (((Says C 18 [(Dw n6 1 cs1), D.nil] kT) ∧
 (k kT)) ∨
 ((Says C 18 [(Dw n6 1 cs1), D.nil] kF) ∧
 (k kF)))
 False)) ∨
 (∃ n12 : Nat,
 (∃ cs3 : List Go.Value,
 ((Says C 19 [(D.agg [(dI x0), (dI x1), D.nil]), (D.agg [D.nil, (Dw n4 2 l4)]), (Dw n5 1 l5)] [(D.sl (n12) 1 (cs3))]) ∧
 (bcase (dL n6 1 cs1)
 (bcase (dL n12 1 cs3)
 (((Says C 18 [(Dw n6 1 cs1), (Dw n12 1 cs3)] kT) ∧
 (k kT)) ∨
 ((Says C 18 [(Dw n6 1 cs1), (Dw n12 1 cs3)] kF) ∧
 (k kF)))
 False)
 False)))))
 False)
 False)
 (k kF))) ∨
 ((Says C 16 [D.nil, (Dw n11 2 cs2)] kF) ∧
 (k kF)))
 False)))))
 False)
 False)
 (k kF))))))
 False))))))
 False)))))))))
 False)
 False)))
 False)))
 False))))))))) ∨
 (∃ n3 : Nat,
 (∃ cs1 : List Go.Value,
 (∃ n6 : Int,
 ((Says C 9 [(D.agg [(dI x0), (dI x1), (D.sl 0 3 [])]), (D.agg [(D.sl 0 2 []), (Dw n4 2 (Tk n4 2 l4))]), (Dw n5 1 (Tk n5 1 l5))] [(D.sl (n3) 2 (cs1)), (dI n6)]) ∧
 (((Qv (vI n6)) ∧
 ((Qv (Sl 1011 (n3) (n3))) ∧
 ((Qv (Go.Value.tuple [(Sl 1011 (n3) (n3)), (vI n6)].toArray)) ∧
 True))) ∧
 (((Qv (vI n6)) ∧
 True) ∧
 (True ∧
 (((Qv (Sl 501 (n5) (c5))) ∧
 ((Qv (Go.Value.agg [(Go.Value.slice Option.none 0 0), (Sl 500 (n4) (c4))].toArray)) ∧
 ((Qv (Go.Value.agg [(vI x0), (vI x1), (Go.Value.slice Option.none 0 0)].toArray)) ∧
 True))) ∧
 ((Says C 10 [(D.agg [(dI x0), (dI x1), D.nil])] [(D.agg [(dI x0), (dI x1), (D.sl 0 3 [])])]) ∧
 (((Qv (Sl 501 (n5) (c5))) ∧
 ((Qv (Go.Value.agg [(Go.Value.slice Option.none 0 0), (Sl 500 (n4) (c4))].toArray)) ∧
 True)) ∧
 (bcase (dL n4 2 l4)
 ((Says C 8 [(D.agg [D.nil, (Dw n4 2 l4)])] [(D.agg [(D.sl 0 2 []), (Dw n4 2 l4)])]) ∧
 (((Qv (Sl 501 (n5) (c5))) ∧
 True) ∧
 (bcase (dL n5 1 l5)
 ((Says C 11 [(Dw n5 1 l5)] [(Dw n5 1 l5)]) ∧
 (True ∧
 (bcase (dL n4 2 (Tk n4 2 l4))
 (bcase (dL n5 1 (Tk n5 1 l5))
 ((∃ n7 : Int,
 ((Says C 12 [(D.agg [(dI x0), (dI x1), (D.sl 0 3 [])]), (D.agg [(D.sl 0 2 []), (Dw n4 2 (Tk n4 2 l4))]), (Dw n5 1 (Tk n5 1 l5))] [D.nil, (dI n7)]) ∧
 (((Qv (vI n7)) ∧
 ((Qv (Go.Value.slice Option.none 0 0)) ∧
 ((Qv (Go.Value.tuple [(Go.Value.slice Option.none 0 0), (vI n7)].toArray)) ∧
 True))) ∧
 (((Qv (vI n7)) ∧
 True) ∧
 (True ∧
 (bcase (dL n4 2 l4)
 (∃ n8 : Int,
 (∃ n9 : Int,
 ((Says C 13 [(D.agg [D.nil, (Dw n4 2 l4)])] [(dI n8), (dI n9)]) ∧
 (bcase (n2 != n9)
 (k kF)
 (bcase (n1 != n8)
 (k kF)
 (bcase (dL n4 2 l4)
 (∃ n10 : Int,
 ((Says C 14 [(D.agg [(dI x0), (dI x1), D.nil]), (D.agg [D.nil, (Dw n4 2 l4)])] [(dI n10)]) ∧
 (bcase (n10 == 0)
 (bcase (dL n4 2 l4)
 (bcase (dL n5 1 l5)
 (∃ n11 : Int,
 ((Says C 15 [(D.agg [(dI x0), (dI x1), D.nil]), (D.agg [D.nil, (Dw n4 2 l4)]), (Dw n5 1 l5)] [(dI n11)]) ∧
 (bcase (n11 != 0)
 (bcase (n6 == n11)
 (bcase (n7 == n11)
 (bcase ((↑n3 : Int) == 0)
 (k kT)
 (k kF))
 (k kF))
 (k kF))
 (bcase (n6 == 0)
 (bcase (dL n4 2 l4)
 (bcase (dL n5 1 l5)
 (((Says C 17 [(D.agg [(dI x0), (dI x1), D.nil]), (D.agg [D.nil, (Dw n4 2 l4)]), (Dw n5 1 l5)] [D.nil]) ∧
 (bcase (dL n3 2 cs1)
 (((Says C 16 [(Dw n3 2 cs1), D.nil] kT) ∧
 (bcase (n7 == 0)
 (bcase (dL n4 2 l4)
 (bcase (dL n5 1 l5)
 (((Says C 19 [(D.agg [(dI x0), (dI x1), D.nil]), (D.agg [D.nil, (Dw n4 2 l4)]), (Dw n5 1 l5)] [D.nil]) ∧
 (((Says C 18 [D.nil, D.nil] kT) ∧
 (k kT)) ∨
 ((Says C 18 [D.nil, D.nil] kF) ∧
 (k kF)))) ∨
 (∃ n12 : Nat,
 (∃ cs2 : List Go.Value,
 ((Says C 19 [(D.agg [(dI x0), (dI x1), D.nil]), (D.agg [D.nil, (Dw n4 2 l4)]), (Dw n5 1 l5)] [(D.sl (n12) 1 (cs2))]) ∧
 (bcase (dL n12 1 cs2)
 (((Says C 18 [D.nil, (Dw n12 1 cs2)] kT) ∧
 (k kT)) ∨
 ((Says C 18 [D.nil, (Dw n12 1 cs2)] kF) ∧
 (k kF)))
 False)))))
 False)
 False)
 (k kF))) ∨
 ((Says C 16 [(Dw n3 2 cs1), D.nil] kF) ∧
 (k kF)))
 False)) ∨
 (∃ n12 : Nat,
 (∃ cs2 : List Go.Value,
 ((Says C 17 [(D.agg [(dI x0), (dI x1), D.nil]), (D.agg [D.nil, (Dw n4 2 l4)]), (Dw n5 1 l5)] [(D.sl (n12) 2 (cs2))]) ∧
 (bcase (dL n3 2 cs1)
 (bcase (dL n12 2 cs2)
 (((Says C 16 [(Dw n3 2 cs1), (Dw n12 2 cs2)] kT) ∧
 (bcase (n7 == 0)
 (bcase (dL n4 2 l4)
 (bcase (dL n5 1 l5)
 (((Says C 19 [(D.agg [(dI x0), (dI x1), D.nil]), (D.agg [D.nil, (Dw n4 2 l4)]), (Dw n5 1 l5)] [D.nil]) ∧
 (((Says C 18 [D.nil, D.nil] kT) ∧
 (k kT)) ∨
 ((Says C 18 [D.nil, D.nil] kF) ∧
 (k kF)))) ∨
 (∃ n13 : Nat,
 (∃ cs3 : List Go.Value,
 ((Says C 19 [(D.agg [(dI x0), (dI x1), D.nil]), (D.agg [D.nil, (Dw n4 2 l4)]), (Dw n5 1 l5)] [(D.sl (n13) 1 (cs3))]) ∧
 (bcase (dL n13 1 cs3)
 (((Says C 18 [D.nil, (Dw n13 1 cs3)] kT) ∧
 (k kT)) ∨
 ((Says C 18 [D.nil, (Dw n13 1 cs3)] kF) ∧
 (k kF)))
 False)))))
 False)
 False)
 (k kF))) ∨
 ((Says C 16 [(Dw n3 2 cs1), (Dw n12 2 cs2)] kF) ∧
 (k kF)))
 False)
 False)))))
 False)
 False)
 (k kF)))))
 False)
 False)
 (bcase (n10 != 0)
 (bcase (n6 == n10)
 (bcase (n7 == n10)
 (bcase ((↑n3 : Int) == 0)
 (k kT)
 (k kF))
 (k kF))
 (k kF))
 (bcase (n6 == 0)
 (bcase (dL n4 2 l4)
 (bcase (dL n5 1 l5)
 (((Says C 17 [(D.agg [(dI x0), (dI x1), D.nil]), (D.agg [D.nil, (Dw n4 2 l4)]), (Dw n5 1 l5)] [D.nil]) ∧
 (bcase (dL n3 2 cs1)
 (((Says C 16 [(Dw n3 2 cs1), D.nil] kT) ∧
 (bcase (n7 == 0)
 (bcase (dL n4 2 l4)
 (bcase (dL n5 1 l5)
 (((Says C 19 [(D.agg [(dI x0), (dI x1), D.nil]), (D.agg [D.nil, (Dw n4 2 l4)]), (Dw n5 1 l5)] [D.nil]) ∧
 (((Says C 18 [D.nil, D.nil] kT) ∧
 (k kT)) ∨
 ((Says C 18 [D.nil, D.nil] kF) ∧
 (k kF)))) ∨
 (∃ n11 : Nat,
 (∃ cs2 : List Go.Value,
 ((Says C 19 [(D.agg [(dI x0), (dI x1), D.nil]), (D.agg [D.nil, (Dw n4 2 l4)]), (Dw n5 1 l5)] [(D.sl (n11) 1 (cs2))]) ∧
 (bcase (dL n11 1 cs2)
 (((Says C 18 [D.nil, (Dw n11 1 cs2)] kT) ∧
 (k kT)) ∨
 ((Says C 18 [D.nil, (Dw n11 1 cs2)] kF) ∧
 (k kF)))
 False)))))
 False)
 False)
 (k kF))) ∨
 ((Says C 16 [(Dw n3 2 cs1), D.nil] kF) ∧
 (k kF)))
 False)) ∨
 (∃ n11 : Nat,
 (∃ cs2 : List Go.Value,
 ((Says C 17 [(D.agg [(dI x0), (dI x1), D.nil]), (D.agg [D.nil, (Dw n4 2 l4)]), (Dw n5 1 l5)] [(D.sl (n11) 2 (cs2))]) ∧
 (bcase (dL n3 2 cs1)
 (bcase (dL n11 2 cs2)
 (((Says C 16 [(Dw n3 2 cs1), (Dw n11 2 cs2)] kT) ∧
 (bcase (n7 == 0)
 (bcase (dL n4 2 l4)
 (bcase (dL n5 1 l5)
 (((Says C 19 [(D.agg [(dI x0), (dI x1), D.nil]), (D.agg [D.nil, (Dw n4 2 l4)]), (Dw n5 1 l5)] [D.nil]) ∧
 (((Says C 18 [D.nil, D.nil] kT) ∧
 (k kT)) ∨
 ((Says C 18 [D.nil, D.nil] kF) ∧
 (k kF)))) ∨
 (∃ n12 : Nat,
 (∃ cs3 : List Go.Value,
 ((Says C 19 [(D.agg [(dI x0), (dI x1), D.nil]), (D.agg [D.nil, (Dw n4 2 l4)]), (Dw n5 1 l5)] [(D.sl (n12) 1 (cs3))]) ∧
 (bcase (dL n12 1 cs3)
 (((Says C 18 [D.nil, (Dw n12 1 cs3)] kT) ∧
 (k kT)) ∨
 ((Says C 18 [D.nil, (Dw n12 1 cs3)] kF) ∧
 (k kF)))
 False)))))
 False)
 False)
 (k kF))) ∨
 ((Says C 16 [(Dw n3 2 cs1), (Dw n11 2 cs2)] kF) ∧
 (k kF)))
 False)
 False)))))
 False)
 False)
 (k kF))))))
 False))))))
 False)))))) ∨
 (∃ n7 : Nat,
 (∃ cs2 : List Go.Value,
 (∃ n8 : Int,
 ((Says C 12 [(D.agg [(dI x0), (dI x1), (D.sl 0 3 [])]), (D.agg [(D.sl 0 2 []), (Dw n4 2 (Tk n4 2 l4))]), (Dw n5 1 (Tk n5 1 l5))] [(D.sl (n7) 1 (cs2)), (dI n8)]) ∧
 (((Qv (vI n8)) ∧
 ((Qv (Sl 1016 (n7) (n7))) ∧
 ((Qv (Go.Value.tuple [(Sl 1016 (n7) (n7)), (vI n8)].toArray)) ∧
 True))) ∧
 (((Qv (vI n8)) ∧
 True) ∧
 (True ∧
 (bcase (dL n4 2 l4)
 (∃ n9 : Int,
 (∃ n10 : Int,
 ((Says C 13 [(D.agg [D.nil, (Dw n4 2 l4)])] [(dI n9), (dI n10)]) ∧
 (bcase (n2 != n10)
 (k kF)
 (bcase (n1 != n9)
 (k kF)
 (bcase (dL n4 2 l4)
 (∃ n11 : Int,
 ((Says C 14 [(D.agg [(dI x0), (dI x1), D.nil]), (D.agg [D.nil, (Dw n4 2 l4)])] [(dI n11)]) ∧
 (bcase (n11 == 0)
 (bcase (dL n4 2 l4)
 (bcase (dL n5 1 l5)
 (∃ n12 : Int,
 ((Says C 15 [(D.agg [(dI x0), (dI x1), D.nil]), (D.agg [D.nil, (Dw n4 2 l4)]), (Dw n5 1 l5)] [(dI n12)]) ∧
 (bcase (n12 != 0)
 (bcase (n6 == n12)
 (bcase (n8 == n12)
 (bcase ((↑n3 : Int) == 0)
 (bcase ((↑n7 : Int) == 0)
 (k kT)
 (k kF))
 (k kF))
 (k kF))
 (k kF))
 (bcase (n6 == 0)
 (bcase (dL n4 2 l4)
 (bcase (dL n5 1 l5)
 (((Says C 17 [(D.agg [(dI x0), (dI x1), D.nil]), (D.agg [D.nil, (Dw n4 2 l4)]), (Dw n5 1 l5)] [D.nil]) ∧
 (bcase (dL n3 2 cs1)
 (((Says C 16 [(Dw n3 2 cs1), D.nil] kT) ∧
 (bcase (n8 == 0)
 (bcase (dL n4 2 l4)
 (bcase (dL n5 1 l5)
 (((Says C 19 [(D.agg [(dI x0), (dI x1), D.nil]), (D.agg [D.nil, (Dw n4 2 l4)]), (Dw n5 1 l5)] [D.nil]) ∧
 (bcase (dL n7 1 cs2)
 (((Says C 18 [(Dw n7 1 cs2), D.nil] kT) ∧
 (k kT)) ∨
 ((Says C 18 [(Dw n7 1 cs2), D.nil] kF) ∧
 (k kF)))
 False)) ∨
 (∃ n13 : Nat,
 (∃ cs3 : List Go.Value,
 ((Says C 19 [(D.agg [(dI x0), (dI x1), D.nil]), (D.agg [D.nil, (Dw n4 2 l4)]), (Dw n5 1 l5)] [(D.sl (n13) 1 (cs3))]) ∧
 (bcase (dL n7 1 cs2)
 (bcase (dL n13 1 cs3)
 (((Says C 18 [(Dw n7 1 cs2), (Dw n13 1 cs3)] kT) ∧
 (k kT)) ∨
 ((Says C 18 [(Dw n7 1 cs2), (Dw n13 1 cs3)] kF) ∧
 (k kF)))
 False)
 False)))))
 False)
 False)
 (k kF))) ∨
 ((Says C 16 [(Dw n3 2 cs1), D.nil] kF) ∧
 (k kF)))
 False)) ∨
 (∃ n13 : Nat,
 (∃ cs3 : List Go.Value,
 ((Says C 17 [(D.agg [(dI x0), (dI x1), D.nil]), (D.agg [D.nil, (Dw n4 2 l4)]), (Dw n5 1 l5)] [(D.sl (n13) 2 (cs3))]) ∧
 (bcase (dL n3 2 cs1)
 (bcase (dL n13 2 cs3)
 (((Says C 16 [(Dw n3 2 cs1), (Dw n13 2 cs3)] kT) ∧
 (bcase (n8 == 0)
 (bcase (dL n4 2 l4)
 (bcase (dL n5 1 l5)
 (((Says C 19 [(D.agg [(dI x0), (dI x1), D.nil]), (D.agg [D.nil, (Dw n4 2 l4)]), (Dw n5 1 l5)] [D.nil]) ∧
 (bcase (dL n7 1 cs2)
 (((Says C 18 [(Dw n7 1 cs2), D.nil] kT) ∧
 (k kT)) ∨
 ((Says C 18 [(Dw n7 1 cs2), D.nil] kF) ∧
 (k kF)))
 False)) ∨
 (∃ n14 : Nat,
 (∃ cs4 : List Go.Value,
 ((Says C 19 [(D.agg [(dI x0), (dI x1), D.nil]), (D.agg [D.nil, (Dw n4 2 l4)]), (Dw n5 1 l5)] [(D.sl (n14) 1 (cs4))]) ∧
 (bcase (dL n7 1 cs2)
 (bcase (dL n14 1 cs4)
 (((Says C 18 [(Dw n7 1 cs2), (Dw n14 1 cs4)] kT) ∧
 (k kT)) ∨
 ((Says C 18 [(Dw n7 1 cs2), (Dw n14 1 cs4)] kF) ∧
 (k kF)))
 False)
 False)))))
 False)
 False)
 (k kF))) ∨
 ((Says C 16 [(Dw n3 2 cs1), (Dw n13 2 cs3)] kF) ∧
 (k kF)))
 False)
 False)))))
 False)
 False)
 (k kF)))))
 False)
 False)
 (bcase (n11 != 0)
 (bcase (n6 == n11)
 (bcase (n8 == n11)
 (bcase ((↑n3 : Int) == 0)
 (bcase ((↑n7 : Int) == 0)
 (k kT)
 (k kF))
 (k kF))
 (k kF))
 (k kF))
 (bcase (n6 == 0)
 (bcase (dL n4 2 l4)
 (bcase (dL n5 1 l5)
 (((Says C 17 [(D.agg [(dI x0), (dI x1), D.nil]), (D.agg [D.nil, (Dw n4 2 l4)]), (Dw n5 1 l5)] [D.nil]) ∧
 (bcase (dL n3 2 cs1)
 (((Says C 16 [(Dw n3 2 cs1), D.nil] kT) ∧
 (bcase (n8 == 0)
 (bcase (dL n4 2 l4)
 (bcase (dL n5 1 l5)
 (((Says C 19 [(D.agg [(dI x0), (dI x1), D.nil]), (D.agg [D.nil, (Dw n4 2 l4)]), (Dw n5 1 l5)] [D.nil]) ∧
 (bcase (dL n7 1 cs2)
 (((Says C 18 [(Dw n7 1 cs2), D.nil] kT) ∧
 (k kT)) ∨
 ((Says C 18 [(Dw n7 1 cs2), D.nil] kF) ∧
 (k kF)))
 False)) ∨
 (∃ n12 : Nat,
 (∃ cs3 : List Go.Value,
 ((Says C 19 [(D.agg [(dI x0), (dI x1), D.nil]), (D.agg [D.nil, (Dw n4 2 l4)]), (Dw n5 1 l5)] [(D.sl (n12) 1 (cs3))]) ∧
 (bcase (dL n7 1 cs2)
 (bcase (dL n12 1 cs3)
 (((Says C 18 [(Dw n7 1 cs2), (Dw n12 1 cs3)] kT) ∧
 (k kT)) ∨
 ((Says C 18 [(Dw n7 1 cs2), (Dw n12 1 cs3)] kF) ∧
 (k kF)))
 False)
 False)))))
 False)
 False)
 (k kF))) ∨
 ((Says C 16 [(Dw n3 2 cs1), D.nil] kF) ∧
 (k kF)))
 False)) ∨
 (∃ n12 : Nat,
 (∃ cs3 : List Go.Value,
 ((Says C 17 [(D.agg [(dI x0), (dI x1), D.nil]), (D.agg [D.nil, (Dw n4 2 l4)]), (Dw n5 1 l5)] [(D.sl (n12) 2 (cs3))]) ∧
 (bcase (dL n3 2 cs1)
 (bcase (dL n12 2 cs3)
 (((Says C 16 [(Dw n3 2 cs1), (Dw n12 2 cs3)] kT) ∧
 (bcase (n8 == 0)
 (bcase (dL n4 2 l4)
 (bcase (dL n5 1 l5)
 (((Says C 19 [(D.agg [(dI x0), (dI x1), D.nil]), (D.agg [D.nil, (Dw n4 2 l4)]), (Dw n5 1 l5)] [D.nil]) ∧
 (bcase (dL n7 1 cs2)
 (((Says C 18 [(Dw n7 1 cs2), D.nil] kT) ∧
 (k kT)) ∨
 ((Says C 18 [(Dw n7 1 cs2), D.nil] kF) ∧
 (k kF)))
 False)) ∨
 (∃ n13 : Nat,
 (∃ cs4 : List Go.Value,
 ((Says C 19 [(D.agg [(dI x0), (dI x1), D.nil]), (D.agg [D.nil, (Dw n4 2 l4)]), (Dw n5 1 l5)] [(D.sl (n13) 1 (cs4))]) ∧
 (bcase (dL n7 1 cs2)
 (bcase (dL n13 1 cs4)
 (((Says C 18 [(Dw n7 1 cs2), (Dw n13 1 cs4)] kT) ∧
 (k kT)) ∨
 ((Says C 18 [(Dw n7 1 cs2), (Dw n13 1 cs4)] kF) ∧
 (k kF)))
 False)
 False)))))
 False)
 False)
 (k kF))) ∨
 ((Says C 16 [(Dw n3 2 cs1), (Dw n12 2 cs3)] kF) ∧
 (k kF)))
 False)
 False)))))
 False)
 False)
 (k kF))))))
 False))))))
 False)))))))))
 False)
 False)))
 False)))
 False))))))))))))
 False)
 False)))
 False)))
 False)))))))
 False))
 False)
 (k kT))
 (k kT))) ∨
 ((Says C 4 [] kF) ∧
 (k kF))) := by kernel_rfl
def gLStan (C : Ct) (L : AtLoop) (x0 : Int) (x1 : Int) (n4 : Nat) (c4 : Nat) (l4 : List Value) (k : List D → Prop) : Prop := wpFn Tryz.prog (hC C) L 0 3 #[.agg #[.int .i64 x0, .int .i64 x1, .slice none 0 0], .agg #[.slice none 0 0, .slice (some ⟨500, 0, none⟩) n4 c4], .slice none 0 0] (heapOf [(500, .sym l4 false 2)]) (dataK k)
theorem gLStan_text (C : Ct) (L : AtLoop) (x0 : Int) (x1 : Int) (n4 : Nat) (c4 : Nat) (l4 : List Go.Value) (k : List D → Prop) : gLStan C L x0 x1 n4 c4 l4 k =
 (((Says C 4 [] kT) ∧
 (bcase (decide ((↑n4 : Int) ≤ 14))
 (bcase (dL n4 2 l4)
 ((Says C 8 [(D.agg [D.nil, (Dw n4 2 l4)])] [(D.agg [(D.sl 0 2 []), (Dw n4 2 l4)])]) ∧
 (bcase (dL n4 2 (Tk n4 2 l4))
 (∃ n1 : Int,
 (∃ n2 : Int,
 ((Says C 7 [(D.agg [(D.sl 0 2 []), (Dw n4 2 (Tk n4 2 l4))])] [(dI n1), (dI n2)]) ∧
 (((Qv (Go.Value.slice Option.none 0 0)) ∧
 ((Qv (Go.Value.agg [(Go.Value.slice Option.none 0 0), (Sl 500 (n4) (c4))].toArray)) ∧
 ((Qv (Go.Value.agg [(vI x0), (vI x1), (Go.Value.slice Option.none 0 0)].toArray)) ∧
 True))) ∧
 ((Says C 10 [(D.agg [(dI x0), (dI x1), D.nil])] [(D.agg [(dI x0), (dI x1), (D.sl 0 3 [])])]) ∧
 (((Qv (Go.Value.slice Option.none 0 0)) ∧
 ((Qv (Go.Value.agg [(Go.Value.slice Option.none 0 0), (Sl 500 (n4) (c4))].toArray)) ∧
 True)) ∧
 (bcase (dL n4 2 l4)
 ((Says C 8 [(D.agg [D.nil, (Dw n4 2 l4)])] [(D.agg [(D.sl 0 2 []), (Dw n4 2 l4)])]) ∧
 (((Qv (Go.Value.slice Option.none 0 0)) ∧
 True) ∧
 ((Says C 11 [D.nil] [(D.sl 0 1 [])]) ∧
 (True ∧
 (bcase (dL n4 2 (Tk n4 2 l4))
 ((∃ n3 : Int,
 ((Says C 9 [(D.agg [(dI x0), (dI x1), (D.sl 0 3 [])]), (D.agg [(D.sl 0 2 []), (Dw n4 2 (Tk n4 2 l4))]), (D.sl 0 1 [])] [D.nil, (dI n3)]) ∧
 (((Qv (vI n3)) ∧
 ((Qv (Go.Value.slice Option.none 0 0)) ∧
 ((Qv (Go.Value.tuple [(Go.Value.slice Option.none 0 0), (vI n3)].toArray)) ∧
 True))) ∧
 (((Qv (vI n3)) ∧
 True) ∧
 (True ∧
 (((Qv (Go.Value.slice Option.none 0 0)) ∧
 ((Qv (Go.Value.agg [(Go.Value.slice Option.none 0 0), (Sl 500 (n4) (c4))].toArray)) ∧
 ((Qv (Go.Value.agg [(vI x0), (vI x1), (Go.Value.slice Option.none 0 0)].toArray)) ∧
 True))) ∧
 ((Says C 10 [(D.agg [(dI x0), (dI x1), D.nil])] [(D.agg [(dI x0), (dI x1), (D.sl 0 3 [])])]) ∧
 (((Qv (Go.Value.slice Option.none 0 0)) ∧
 ((Qv (Go.Value.agg [(Go.Value.slice Option.none 0 0), (Sl 500 (n4) (c4))].toArray)) ∧
 True)) ∧
 (bcase (dL n4 2 l4)
 ((Says C 8 [(D.agg [D.nil, (Dw n4 2 l4)])] [(D.agg [(D.sl 0 2 []), (Dw n4 2 l4)])]) ∧
 (((Qv (Go.Value.slice Option.none 0 0)) ∧
 True) ∧
 ((Says C 11 [D.nil] [(D.sl 0 1 [])]) ∧
 (True ∧
 (bcase (dL n4 2 (Tk n4 2 l4))
 ((∃ n5 : Int,
 ((Says C 12 [(D.agg [(dI x0), (dI x1), (D.sl 0 3 [])]), (D.agg [(D.sl 0 2 []), (Dw n4 2 (Tk n4 2 l4))]), (D.sl 0 1 [])] [D.nil, (dI n5)]) ∧
 (((Qv (vI n5)) ∧
 ((Qv (Go.Value.slice Option.none 0 0)) ∧
 ((Qv (Go.Value.tuple [(Go.Value.slice Option.none 0 0), (vI n5)].toArray)) ∧
 True))) ∧
 (((Qv (vI n5)) ∧
 True) ∧
 (True ∧
 (bcase (dL n4 2 l4)
 (∃ n6 : Int,
 (∃ n7 : Int,
 ((Says C 13 [(D.agg [D.nil, (Dw n4 2 l4)])] [(dI n6), (dI n7)]) ∧
 (bcase (n2 != n7)
 (k kF)
 (bcase (n1 != n6)
 (k kF)
 (bcase (dL n4 2 l4)
 (∃ n8 : Int,
 ((Says C 14 [(D.agg [(dI x0), (dI x1), D.nil]), (D.agg [D.nil, (Dw n4 2 l4)])] [(dI n8)]) ∧
 (bcase (n8 == 0)
 (bcase (dL n4 2 l4)
 (∃ n9 : Int,
 ((Says C 15 [(D.agg [(dI x0), (dI x1), D.nil]), (D.agg [D.nil, (Dw n4 2 l4)]), D.nil] [(dI n9)]) ∧
 (bcase (n9 != 0)
 (bcase (n3 == n9)
 (bcase (n5 == n9)
 (k kT)
 (k kF))
 (k kF))
 (bcase (n3 == 0)
 (bcase (dL n4 2 l4)
 (((Says C 17 [(D.agg [(dI x0), (dI x1), D.nil]), (D.agg [D.nil, (Dw n4 2 l4)]), D.nil] [D.nil]) ∧
 (((Says C 16 [D.nil, D.nil] kT) ∧
 (bcase (n5 == 0)
 (bcase (dL n4 2 l4)
 (((Says C 19 [(D.agg [(dI x0), (dI x1), D.nil]), (D.agg [D.nil, (Dw n4 2 l4)]), D.nil] [D.nil]) ∧
 (((Says C 18 [D.nil, D.nil] kT) ∧
 (k kT)) ∨
 ((Says C 18 [D.nil, D.nil] kF) ∧
 (k kF)))) ∨
 (∃ n10 : Nat,
 (∃ cs1 : List Go.Value,
 ((Says C 19 [(D.agg [(dI x0), (dI x1), D.nil]), (D.agg [D.nil, (Dw n4 2 l4)]), D.nil] [(D.sl (n10) 1 (cs1))]) ∧
 (bcase (dL n10 1 cs1)
 (((Says C 18 [D.nil, (Dw n10 1 cs1)] kT) ∧
 (k kT)) ∨
 ((Says C 18 [D.nil, (Dw n10 1 cs1)] kF) ∧
 (k kF)))
 False)))))
 False)
 (k kF))) ∨
 ((Says C 16 [D.nil, D.nil] kF) ∧
 (k kF)))) ∨
 (∃ n10 : Nat,
 (∃ cs1 : List Go.Value,
 ((Says C 17 [(D.agg [(dI x0), (dI x1), D.nil]), (D.agg [D.nil, (Dw n4 2 l4)]), D.nil] [(D.sl (n10) 2 (cs1))]) ∧
 (bcase (dL n10 2 cs1)
 (((Says C 16 [D.nil, (Dw n10 2 cs1)] kT) ∧
 (bcase (n5 == 0)
 (bcase (dL n4 2 l4)
 (((Says C 19 [(D.agg [(dI x0), (dI x1), D.nil]), (D.agg [D.nil, (Dw n4 2 l4)]), D.nil] [D.nil]) ∧
 (((Says C 18 [D.nil, D.nil] kT) ∧
 (k kT)) ∨
 ((Says C 18 [D.nil, D.nil] kF) ∧
 (k kF)))) ∨
 (∃ n11 : Nat,
 (∃ cs2 : List Go.Value,
 ((Says C 19 [(D.agg [(dI x0), (dI x1), D.nil]), (D.agg [D.nil, (Dw n4 2 l4)]), D.nil] [(D.sl (n11) 1 (cs2))]) ∧
 (bcase (dL n11 1 cs2)
 (((Says C 18 [D.nil, (Dw n11 1 cs2)] kT) ∧
 (k kT)) ∨
 ((Says C 18 [D.nil, (Dw n11 1 cs2)] kF) ∧
 (k kF)))
 False)))))
 False)
 (k kF))) ∨
 ((Says C 16 [D.nil, (Dw n10 2 cs1)] kF) ∧
 (k kF)))
 False)))))
 False)
 (k kF)))))
 False)
 (bcase (n8 != 0)
 (bcase (n3 == n8)
 (bcase (n5 == n8)
 (k kT)
 (k kF))
 (k kF))
 (bcase (n3 == 0)
 (bcase (dL n4 2 l4)
 (((Says C 17 [(D.agg [(dI x0), (dI x1), D.nil]), (D.agg [D.nil, (Dw n4 2 l4)]), D.nil] [D.nil]) ∧
 (((Says C 16 [D.nil, D.nil] kT) ∧
 (bcase (n5 == 0)
 (bcase (dL n4 2 l4)
 (((Says C 19 [(D.agg [(dI x0), (dI x1), D.nil]), (D.agg [D.nil, (Dw n4 2 l4)]), D.nil] [D.nil]) ∧
 (((Says C 18 [D.nil, D.nil] kT) ∧
 (k kT)) ∨
 ((Says C 18 [D.nil, D.nil] kF) ∧
 (k kF)))) ∨
 (∃ n9 : Nat,
 (∃ cs1 : List Go.Value,
 ((Says C 19 [(D.agg [(dI x0), (dI x1), D.nil]), (D.agg [D.nil, (Dw n4 2 l4)]), D.nil] [(D.sl (n9) 1 (cs1))]) ∧
 (bcase (dL n9 1 cs1)
 (((Says C 18 [D.nil, (Dw n9 1 cs1)] kT) ∧
 (k kT)) ∨
 ((Says C 18 [D.nil, (Dw n9 1 cs1)] kF) ∧
 (k kF)))
 False)))))
 False)
 (k kF))) ∨
 ((Says C 16 [D.nil, D.nil] kF) ∧
 (k kF)))) ∨
 (∃ n9 : Nat,
 (∃ cs1 : List Go.Value,
 ((Says C 17 [(D.agg [(dI x0), (dI x1), D.nil]), (D.agg [D.nil, (Dw n4 2 l4)]), D.nil] [(D.sl (n9) 2 (cs1))]) ∧
 (bcase (dL n9 2 cs1)
 (((Says C 16 [D.nil, (Dw n9 2 cs1)] kT) ∧
 (bcase (n5 == 0)
 (bcase (dL n4 2 l4)
 (((Says C 19 [(D.agg [(dI x0), (dI x1), D.nil]), (D.agg [D.nil, (Dw n4 2 l4)]), D.nil] [D.nil]) ∧
 (((Says C 18 [D.nil, D.nil] kT) ∧
 (k kT)) ∨
 ((Says C 18 [D.nil, D.nil] kF) ∧
 (k kF)))) ∨
 (∃ n10 : Nat,
 (∃ cs2 : List Go.Value,
 ((Says C 19 [(D.agg [(dI x0), (dI x1), D.nil]), (D.agg [D.nil, (Dw n4 2 l4)]), D.nil] [(D.sl (n10) 1 (cs2))]) ∧
 (bcase (dL n10 1 cs2)
 (((Says C 18 [D.nil, (Dw n10 1 cs2)] kT) ∧
 (k kT)) ∨
 ((Says C 18 [D.nil, (Dw n10 1 cs2)] kF) ∧
 (k kF)))
 False)))))
 False)
 (k kF))) ∨
 ((Says C 16 [D.nil, (Dw n9 2 cs1)] kF) ∧
 (k kF)))
 False)))))
 False)
 (k kF))))))
 False))))))
 False)))))) ∨
 (∃ n5 : Nat,
 (∃ cs1 : List Go.Value,
 (∃ n6 : Int,
 ((Says C 12 [(D.agg [(dI x0), (dI x1), (D.sl 0 3 [])]), (D.agg [(D.sl 0 2 []), (Dw n4 2 (Tk n4 2 l4))]), (D.sl 0 1 [])] [(D.sl (n5) 1 (cs1)), (dI n6)]) ∧
 (((Qv (vI n6)) ∧
 ((Qv (Sl 1015 (n5) (n5))) ∧
 ((Qv (Go.Value.tuple [(Sl 1015 (n5) (n5)), (vI n6)].toArray)) ∧
 True))) ∧
 (((Qv (vI n6)) ∧
 True) ∧
 (True ∧
 (bcase (dL n4 2 l4)
 (∃ n7 : Int,
 (∃ n8 : Int,
 ((Says C 13 [(D.agg [D.nil, (Dw n4 2 l4)])] [(dI n7), (dI n8)]) ∧
 (bcase (n2 != n8)
 (k kF)
 (bcase (n1 != n7)
 (k kF)
 (bcase (dL n4 2 l4)
 (∃ n9 : Int,
 ((Says C 14 [(D.agg [(dI x0), (dI x1), D.nil]), (D.agg [D.nil, (Dw n4 2 l4)])] [(dI n9)]) ∧
 (bcase (n9 == 0)
 (bcase (dL n4 2 l4)
 (∃ n10 : Int,
 ((Says C 15 [(D.agg [(dI x0), (dI x1), D.nil]), (D.agg [D.nil, (Dw n4 2 l4)]), D.nil] [(dI n10)]) ∧
 (bcase (n10 != 0)
 (bcase (n3 == n10)
 (bcase (n6 == n10)
 (bcase ((↑n5 : Int) == 0)
 (k kT)
 (k kF))
 (k kF))
 (k kF))
 (bcase (n3 == 0)
 (bcase (dL n4 2 l4)
 (((Says C 17 [(D.agg [(dI x0), (dI x1), D.nil]), (D.agg [D.nil, (Dw n4 2 l4)]), D.nil] [D.nil]) ∧
 (((Says C 16 [D.nil, D.nil] kT) ∧
 (bcase (n6 == 0)
 (bcase (dL n4 2 l4)
 (((Says C 19 [(D.agg [(dI x0), (dI x1), D.nil]), (D.agg [D.nil, (Dw n4 2 l4)]), D.nil] [D.nil]) ∧
 (bcase (dL n5 1 cs1)
 (((Says C 18 [(Dw n5 1 cs1), D.nil] kT) ∧
 (k kT)) ∨
 ((Says C 18 [(Dw n5 1 cs1), D.nil] kF) ∧
 (k kF)))
 False)) ∨
 (∃ n11 : Nat,
 (∃ cs2 : List Go.Value,
 ((Says C 19 [(D.agg [(dI x0), (dI x1), D.nil]), (D.agg [D.nil, (Dw n4 2 l4)]), D.nil] [(D.sl (n11) 1 (cs2))]) ∧
 (bcase (dL n5 1 cs1)
 (bcase (dL n11 1 cs2)
 (((Says C 18 [(Dw n5 1 cs1), (Dw n11 1 cs2)] kT) ∧
 (k kT)) ∨
 ((Says C 18 [(Dw n5 1 cs1), (Dw n11 1 cs2)] kF) ∧
 (k kF)))
 False)
 False)))))
 False)
 (k kF))) ∨
 ((Says C 16 [D.nil, D.nil] kF) ∧
 (k kF)))) ∨
 (∃ n11 : Nat,
 (∃ cs2 : List Go.Value,
 ((Says C 17 [(D.agg [(dI x0), (dI x1), D.nil]), (D.agg [D.nil, (Dw n4 2 l4)]), D.nil] [(D.sl (n11) 2 (cs2))]) ∧
 (bcase (dL n11 2 cs2)
 (((Says C 16 [D.nil, (Dw n11 2 cs2)] kT) ∧
 (bcase (n6 == 0)
 (bcase (dL n4 2 l4)
 (((Says C 19 [(D.agg [(dI x0), (dI x1), D.nil]), (D.agg [D.nil, (Dw n4 2 l4)]), D.nil] [D.nil]) ∧
 (bcase (dL n5 1 cs1)
 (((Says C 18 [(Dw n5 1 cs1), D.nil] kT) ∧
 (k kT)) ∨
 ((Says C 18 [(Dw n5 1 cs1), D.nil] kF) ∧
 (k kF)))
 False)) ∨
 (∃ n12 : Nat,
 (∃ cs3 : List Go.Value,
 ((Says C 19 [(D.agg [(dI x0), (dI x1), D.nil]), (D.agg [D.nil, (Dw n4 2 l4)]), D.nil] [(D.sl (n12) 1 (cs3))]) ∧
 (bcase (dL n5 1 cs1)
 (bcase (dL n12 1 cs3)
 (((Says C 18 [(Dw n5 1 cs1), (Dw n12 1 cs3)] kT) ∧
 (k kT)) ∨
 ((Says C 18 [(Dw n5 1 cs1), (Dw n12 1 cs3)] kF) ∧
 (k kF)))
 False)
 False)))))
 False)
 (k kF))) ∨
 ((Says C 16 [D.nil, (Dw n11 2 cs2)] kF) ∧
 (k kF)))
 False)))))
 False)
 (k kF)))))
 False)
 (bcase (n9 != 0)
 (bcase (n3 == n9)
 (bcase (n6 == n9)
 (bcase ((↑n5 : Int) == 0)
 (k kT)
 (k kF))
 (k kF))
 (k kF))
 (bcase (n3 == 0)
 (bcase (dL n4 2 l4)
 (((Says C 17 [(D.agg [(dI x0), (dI x1), D.nil]), (D.agg [D.nil, (Dw n4 2 l4)]), D.nil] [D.nil]) ∧
 (((Says C 16 [D.nil, D.nil] kT) ∧
 (bcase (n6 == 0)
 (bcase (dL n4 2 l4)
 (((Says C 19 [(D.agg [(dI x0), (dI x1), D.nil]), (D.agg [D.nil, (Dw n4 2 l4)]), D.nil] [D.nil]) ∧
 (bcase (dL n5 1 cs1)
 (((Says C 18 [(Dw n5 1 cs1), D.nil] kT) ∧
 (k kT)) ∨
 ((Says C 18 [(Dw n5 1 cs1), D.nil] kF) ∧
 (k kF)))
 False)) ∨
 (∃ n10 : Nat,
 (∃ cs2 : List Go.Value,
 ((Says C 19 [(D.agg [(dI x0), (dI x1), D.nil]), (D.agg [D.nil, (Dw n4 2 l4)]), D.nil] [(D.sl (n10) 1 (cs2))]) ∧
 (bcase (dL n5 1 cs1)
 (bcase (dL n10 1 cs2)
 (((Says C 18 [(Dw n5 1 cs1), (Dw n10 1 cs2)] kT) ∧
 (k kT)) ∨
 ((Says C 18 [(Dw n5 1 cs1), (Dw n10 1 cs2)] kF) ∧
 (k kF)))
 False)
 False)))))
 False)
 (k kF))) ∨
 ((Says C 16 [D.nil, D.nil] kF) ∧
 (k kF)))) ∨
 (∃ n10 : Nat,
 (∃ cs2 : List Go.Value,
 ((Says C 17 [(D.agg [(dI x0), (dI x1), D.nil]), (D.agg [D.nil, (Dw n4 2 l4)]), D.nil] [(D.sl (n10) 2 (cs2))]) ∧
 (bcase (dL n10 2 cs2)
 (((Says C 16 [D.nil, (Dw n10 2 cs2)] kT) ∧
 (bcase (n6 == 0)
 (bcase (dL n4 2 l4)
 (((Says C 19 [(D.agg [(dI x0), (dI x1), D.nil]), (D.agg [D.nil, (Dw n4 2 l4)]), D.nil] [D.nil]) ∧
 (bcase (dL n5 1 cs1)
 (((Says C 18 [(Dw n5 1 cs1), D.nil] kT) ∧
 (k kT)) ∨
 ((Says C 18 [(Dw n5 1 cs1), D.nil] kF) ∧
 (k kF)))
 False)) ∨
 (∃ n11 : Nat,
 (∃ cs3 : List Go.Value,
 ((Says C 19 [(D.agg [(dI x0), (dI x1), D.nil]), (D.agg [D.nil, (Dw n4 2 l4)]), D.nil] [(D.sl (n11) 1 (cs3))]) ∧
 (bcase (dL n5 1 cs1)
 (bcase (dL n11 1 cs3)
 (((Says C 18 [(Dw n5 1 cs1), (Dw n11 1 cs3)] kT) ∧
 (k kT)) ∨
 ((Says C 18 [(Dw n5 1 cs1), (Dw n11 1 cs3)] kF) ∧
 (k kF)))
 False)
 False)))))
 False)
 (k kF))) ∨
 ((Says C 16 [D.nil, (Dw n10 2 cs2)] kF) ∧
 (k kF)))
 False)))))
 False)
 (k kF))))))
 False))))))
 False)))))))))
 False)))))
 False))))))))) ∨
 (∃ n3 : Nat,
 (∃ cs1 : List Go.Value,
 (∃ n5 : Int,
 ((Says C 9 [(D.agg [(dI x0), (dI x1), (D.sl 0 3 [])]), (D.agg [(D.sl 0 2 []), (Dw n4 2 (Tk n4 2 l4))]), (D.sl 0 1 [])] [(D.sl (n3) 2 (cs1)), (dI n5)]) ∧
 (((Qv (vI n5)) ∧
 ((Qv (Sl 1011 (n3) (n3))) ∧
 ((Qv (Go.Value.tuple [(Sl 1011 (n3) (n3)), (vI n5)].toArray)) ∧
 True))) ∧
 (((Qv (vI n5)) ∧
 True) ∧
 (True ∧
 (((Qv (Go.Value.slice Option.none 0 0)) ∧
 ((Qv (Go.Value.agg [(Go.Value.slice Option.none 0 0), (Sl 500 (n4) (c4))].toArray)) ∧
 ((Qv (Go.Value.agg [(vI x0), (vI x1), (Go.Value.slice Option.none 0 0)].toArray)) ∧
 True))) ∧
 ((Says C 10 [(D.agg [(dI x0), (dI x1), D.nil])] [(D.agg [(dI x0), (dI x1), (D.sl 0 3 [])])]) ∧
 (((Qv (Go.Value.slice Option.none 0 0)) ∧
 ((Qv (Go.Value.agg [(Go.Value.slice Option.none 0 0), (Sl 500 (n4) (c4))].toArray)) ∧
 True)) ∧
 (bcase (dL n4 2 l4)
 ((Says C 8 [(D.agg [D.nil, (Dw n4 2 l4)])] [(D.agg [(D.sl 0 2 []), (Dw n4 2 l4)])]) ∧
 (((Qv (Go.Value.slice Option.none 0 0)) ∧
 True) ∧
 ((Says C 11 [D.nil] [(D.sl 0 1 [])]) ∧
 (True ∧
 (bcase (dL n4 2 (Tk n4 2 l4))
 ((∃ n6 : Int,
 ((Says C 12 [(D.agg [(dI x0), (dI x1), (D.sl 0 3 [])]), (D.agg [(D.sl 0 2 []), (Dw n4 2 (Tk n4 2 l4))]), (D.sl 0 1 [])] [D.nil, (dI n6)]) ∧
 (((Qv (vI n6)) ∧
 ((Qv (Go.Value.slice Option.none 0 0)) ∧
 ((Qv (Go.Value.tuple [(Go.Value.slice Option.none 0 0), (vI n6)].toArray)) ∧
 True))) ∧
 (((Qv (vI n6)) ∧
 True) ∧
 (True ∧
 (bcase (dL n4 2 l4)
 (∃ n7 : Int,
 (∃ n8 : Int,
 ((Says C 13 [(D.agg [D.nil, (Dw n4 2 l4)])] [(dI n7), (dI n8)]) ∧
 (bcase (n2 != n8)
 (k kF)
 (bcase (n1 != n7)
 (k kF)
 (bcase (dL n4 2 l4)
 (∃ n9 : Int,
 ((Says C 14 [(D.agg [(dI x0), (dI x1), D.nil]), (D.agg [D.nil, (Dw n4 2 l4)])] [(dI n9)]) ∧
 (bcase (n9 == 0)
 (bcase (dL n4 2 l4)
 (∃ n10 : Int,
 ((Says C 15 [(D.agg [(dI x0), (dI x1), D.nil]), (D.agg [D.nil, (Dw n4 2 l4)]), D.nil] [(dI n10)]) ∧
 (bcase (n10 != 0)
 (bcase (n5 == n10)
 (bcase (n6 == n10)
 (bcase ((↑n3 : Int) == 0)
 (k kT)
 (k kF))
 (k kF))
 (k kF))
 (bcase (n5 == 0)
 (bcase (dL n4 2 l4)
 (((Says C 17 [(D.agg [(dI x0), (dI x1), D.nil]), (D.agg [D.nil, (Dw n4 2 l4)]), D.nil] [D.nil]) ∧
 (bcase (dL n3 2 cs1)
 (((Says C 16 [(Dw n3 2 cs1), D.nil] kT) ∧
 (bcase (n6 == 0)
 (bcase (dL n4 2 l4)
 (((Says C 19 [(D.agg [(dI x0), (dI x1), D.nil]), (D.agg [D.nil, (Dw n4 2 l4)]), D.nil] [D.nil]) ∧
 (((Says C 18 [D.nil, D.nil] kT) ∧
 (k kT)) ∨
 ((Says C 18 [D.nil, D.nil] kF) ∧
 (k kF)))) ∨
 (∃ n11 : Nat,
 (∃ cs2 : List Go.Value,
 ((Says C 19 [(D.agg [(dI x0), (dI x1), D.nil]), (D.agg [D.nil, (Dw n4 2 l4)]), D.nil] [(D.sl (n11) 1 (cs2))]) ∧
 (bcase (dL n11 1 cs2)
 (((Says C 18 [D.nil, (Dw n11 1 cs2)] kT) ∧
 (k kT)) ∨
 ((Says C 18 [D.nil, (Dw n11 1 cs2)] kF) ∧
 (k kF)))
 False)))))
 False)
 (k kF))) ∨
 ((Says C 16 [(Dw n3 2 cs1), D.nil] kF) ∧
 (k kF)))
 False)) ∨
 (∃ n11 : Nat,
 (∃ cs2 : List Go.Value,
 ((Says C 17 [(D.agg [(dI x0), (dI x1), D.nil]), (D.agg [D.nil, (Dw n4 2 l4)]), D.nil] [(D.sl (n11) 2 (cs2))]) ∧
 (bcase (dL n3 2 cs1)
 (bcase (dL n11 2 cs2)
 (((Says C 16 [(Dw n3 2 cs1), (Dw n11 2 cs2)] kT) ∧
 (bcase (n6 == 0)
 (bcase (dL n4 2 l4)
 (((Says C 19 [(D.agg [(dI x0), (dI x1), D.nil]), (D.agg [D.nil, (Dw n4 2 l4)]), D.nil] [D.nil]) ∧
 (((Says C 18 [D.nil, D.nil] kT) ∧
 (k kT)) ∨
 ((Says C 18 [D.nil, D.nil] kF) ∧
 (k kF)))) ∨
 (∃ n12 : Nat,
 (∃ cs3 : List Go.Value,
 ((Says C 19 [(D.agg [(dI x0), (dI x1), D.nil]), (D.agg [D.nil, (Dw n4 2 l4)]), D.nil] [(D.sl (n12) 1 (cs3))]) ∧
 (bcase (dL n12 1 cs3)
 (((Says C 18 [D.nil, (Dw n12 1 cs3)] kT) ∧
 (k kT)) ∨
 ((Says C 18 [D.nil, (Dw n12 1 cs3)] kF) ∧
 (k kF)))
 False)))))
 False)
 (k kF))) ∨
 ((Says C 16 [(Dw n3 2 cs1), (Dw n11 2 cs2)] kF) ∧
 (k kF)))
 False)
 False)))))
 False)
 (k kF)))))
 False)
 (bcase (n9 != 0)
 (bcase (n5 == n9)
 (bcase (n6 == n9)
 (bcase ((↑n3 : Int) == 0)
 (k kT)
 (k kF))
 (k kF))
 (k kF))
 (bcase (n5 == 0)
 (bcase (dL n4 2 l4)
 (((Says C 17 [(D.agg [(dI x0), (dI x1), D.nil]), (D.agg [D.nil, (Dw n4 2 l4)]), D.nil] [D.nil]) ∧
 (bcase (dL n3 2 cs1)
 (((Says C 16 [(Dw n3 2 cs1), D.nil] kT) ∧
 (bcase (n6 == 0)
 (bcase (dL n4 2 l4)
 (((Says C 19 [(D.agg [(dI x0), (dI x1), D.nil]), (D.agg [D.nil, (Dw n4 2 l4)]), D.nil] [D.nil]) ∧
 (((Says C 18 [D.nil, D.nil] kT) ∧
 (k kT)) ∨
 ((Says C 18 [D.nil, D.nil] kF) ∧
 (k kF)))) ∨
 (∃ n10 : Nat,
 (∃ cs2 : List Go.Value,
 ((Says C 19 [(D.agg [(dI x0), (dI x1), D.nil]), (D.agg [D.nil, (Dw n4 2 l4)]), D.nil] [(D.sl (n10) 1 (cs2))]) ∧
 (bcase (dL n10 1 cs2)
 (((Says C 18 [D.nil, (Dw n10 1 cs2)] kT) ∧
 (k kT)) ∨
 ((Says C 18 [D.nil, (Dw n10 1 cs2)] kF) ∧
 (k kF)))
 False)))))
 False)
 (k kF))) ∨
 ((Says C 16 [(Dw n3 2 cs1), D.nil] kF) ∧
 (k kF)))
 False)) ∨
 (∃ n10 : Nat,
 (∃ cs2 : List Go.Value,
 ((Says C 17 [(D.agg [(dI x0), (dI x1), D.nil]), (D.agg [D.nil, (Dw n4 2 l4)]), D.nil] [(D.sl (n10) 2 (cs2))]) ∧
 (bcase (dL n3 2 cs1)
 (bcase (dL n10 2 cs2)
 (((Says C 16 [(Dw n3 2 cs1), (Dw n10 2 cs2)] kT) ∧
 (bcase (n6 == 0)
 (bcase (dL n4 2 l4)
 (((Says C 19 [(D.agg [(dI x0), (dI x1), D.nil]), (D.agg [D.nil, (Dw n4 2 l4)]), D.nil] [D.nil]) ∧
 (((Says C 18 [D.nil, D.nil] kT) ∧
 (k kT)) ∨
 ((Says C 18 [D.nil, D.nil] kF) ∧
 (k kF)))) ∨
 (∃ n11 : Nat,
 (∃ cs3 : List Go.Value,
 ((Says C 19 [(D.agg [(dI x0), (dI x1), D.nil]), (D.agg [D.nil, (Dw n4 2 l4)]), D.nil] [(D.sl (n11) 1 (cs3))]) ∧
 (bcase (dL n11 1 cs3)
 (((Says C 18 [D.nil, (Dw n11 1 cs3)] kT) ∧
 (k kT)) ∨
 ((Says C 18 [D.nil, (Dw n11 1 cs3)] kF) ∧
 (k kF)))
 False)))))
 False)
 (k kF))) ∨
 ((Says C 16 [(Dw n3 2 cs1), (Dw n10 2 cs2)] kF) ∧
 (k kF)))
 False)
 False)))))
 False)
 (k kF))))))
 False))))))
 False)))))) ∨
 (∃ n6 : Nat,
 (∃ cs2 : List Go.Value,
 (∃ n7 : Int,
 ((Says C 12 [(D.agg [(dI x0), (dI x1), (D.sl 0 3 [])]), (D.agg [(D.sl 0 2 []), (Dw n4 2 (Tk n4 2 l4))]), (D.sl 0 1 [])] [(D.sl (n6) 1 (cs2)), (dI n7)]) ∧
 (((Qv (vI n7)) ∧
 ((Qv (Sl 1016 (n6) (n6))) ∧
 ((Qv (Go.Value.tuple [(Sl 1016 (n6) (n6)), (vI n7)].toArray)) ∧
 True))) ∧
 (((Qv (vI n7)) ∧
 True) ∧
 (True ∧
 (bcase (dL n4 2 l4)
 (∃ n8 : Int,
 (∃ n9 : Int,
 ((Says C 13 [(D.agg [D.nil, (Dw n4 2 l4)])] [(dI n8), (dI n9)]) ∧
 (bcase (n2 != n9)
 (k kF)
 (bcase (n1 != n8)
 (k kF)
 (bcase (dL n4 2 l4)
 (∃ n10 : Int,
 ((Says C 14 [(D.agg [(dI x0), (dI x1), D.nil]), (D.agg [D.nil, (Dw n4 2 l4)])] [(dI n10)]) ∧
 (bcase (n10 == 0)
 (bcase (dL n4 2 l4)
 (∃ n11 : Int,
 ((Says C 15 [(D.agg [(dI x0), (dI x1), D.nil]), (D.agg [D.nil, (Dw n4 2 l4)]), D.nil] [(dI n11)]) ∧
 (bcase (n11 != 0)
 (bcase (n5 == n11)
 (bcase (n7 == n11)
 (bcase ((↑n3 : Int) == 0)
 (bcase ((↑n6 : Int) == 0)
 (k kT)
 (k kF))
 (k kF))
 (k kF))
 (k kF))
 (bcase (n5 == 0)
 (bcase (dL n4 2 l4)
 (((Says C 17 [(D.agg [(dI x0), (dI x1), D.nil]), (D.agg [D.nil, (Dw n4 2 l4)]), D.nil] [D.nil]) ∧
 (bcase (dL n3 2 cs1)
 (((Says C 16 [(Dw n3 2 cs1), D.nil] kT) ∧
 (bcase (n7 == 0)
 (bcase (dL n4 2 l4)
 (((Says C 19 [(D.agg [(dI x0), (dI x1), D.nil]), (D.agg [D.nil, (Dw n4 2 l4)]), D.nil] [D.nil]) ∧
 (bcase (dL n6 1 cs2)
 (((Says C 18 [(Dw n6 1 cs2), D.nil] kT) ∧
 (k kT)) ∨
 ((Says C 18 [(Dw n6 1 cs2), D.nil] kF) ∧
 (k kF)))
 False)) ∨
 (∃ n12 : Nat,
 (∃ cs3 : List Go.Value,
 ((Says C 19 [(D.agg [(dI x0), (dI x1), D.nil]), (D.agg [D.nil, (Dw n4 2 l4)]), D.nil] [(D.sl (n12) 1 (cs3))]) ∧
 (bcase (dL n6 1 cs2)
 (bcase (dL n12 1 cs3)
 (((Says C 18 [(Dw n6 1 cs2), (Dw n12 1 cs3)] kT) ∧
 (k kT)) ∨
 ((Says C 18 [(Dw n6 1 cs2), (Dw n12 1 cs3)] kF) ∧
 (k kF)))
 False)
 False)))))
 False)
 (k kF))) ∨
 ((Says C 16 [(Dw n3 2 cs1), D.nil] kF) ∧
 (k kF)))
 False)) ∨
 (∃ n12 : Nat,
 (∃ cs3 : List Go.Value,
 ((Says C 17 [(D.agg [(dI x0), (dI x1), D.nil]), (D.agg [D.nil, (Dw n4 2 l4)]), D.nil] [(D.sl (n12) 2 (cs3))]) ∧
 (bcase (dL n3 2 cs1)
 (bcase (dL n12 2 cs3)
 (((Says C 16 [(Dw n3 2 cs1), (Dw n12 2 cs3)] kT) ∧
 (bcase (n7 == 0)
 (bcase (dL n4 2 l4)
 (((Says C 19 [(D.agg [(dI x0), (dI x1), D.nil]), (D.agg [D.nil, (Dw n4 2 l4)]), D.nil] [D.nil]) ∧
 (bcase (dL n6 1 cs2)
 (((Says C 18 [(Dw n6 1 cs2), D.nil] kT) ∧
 (k kT)) ∨
 ((Says C 18 [(Dw n6 1 cs2), D.nil] kF) ∧
 (k kF)))
 False)) ∨
 (∃ n13 : Nat,
 (∃ cs4 : List Go.Value,
 ((Says C 19 [(D.agg [(dI x0), (dI x1), D.nil]), (D.agg [D.nil, (Dw n4 2 l4)]), D.nil] [(D.sl (n13) 1 (cs4))]) ∧
 (bcase (dL n6 1 cs2)
 (bcase (dL n13 1 cs4)
 (((Says C 18 [(Dw n6 1 cs2), (Dw n13 1 cs4)] kT) ∧
 (k kT)) ∨
 ((Says C 18 [(Dw n6 1 cs2), (Dw n13 1 cs4)] kF) ∧
 (k kF)))
 False)
 False)))))
 False)
 (k kF))) ∨
 ((Says C 16 [(Dw n3 2 cs1), (Dw n12 2 cs3)] kF) ∧
 (k kF)))
 False)
 False)))))
 False)
 (k kF)))))
 False)
 (bcase (n10 != 0)
 (bcase (n5 == n10)
 (bcase (n7 == n10)
 (bcase ((↑n3 : Int) == 0)
 (bcase ((↑n6 : Int) == 0)
 (k kT)
 (k kF))
 (k kF))
 (k kF))
 (k kF))
 (bcase (n5 == 0)
 (bcase (dL n4 2 l4)
 (((Says C 17 [(D.agg [(dI x0), (dI x1), D.nil]), (D.agg [D.nil, (Dw n4 2 l4)]), D.nil] [D.nil]) ∧
 (bcase (dL n3 2 cs1)
 (((Says C 16 [(Dw n3 2 cs1), D.nil] kT) ∧
 (bcase (n7 == 0)
 (bcase (dL n4 2 l4)
 (((Says C 19 [(D.agg [(dI x0), (dI x1), D.nil]), (D.agg [D.nil, (Dw n4 2 l4)]), D.nil] [D.nil]) ∧
 (bcase (dL n6 1 cs2)
 (((Says C 18 [(Dw n6 1 cs2), D.nil] kT) ∧
 (k kT)) ∨
 ((Says C 18 [(Dw n6 1 cs2), D.nil] kF) ∧
 (k kF)))
 False)) ∨
 (∃ n11 : Nat,
 (∃ cs3 : List Go.Value,
 ((Says C 19 [(D.agg [(dI x0), (dI x1), D.nil]), (D.agg [D.nil, (Dw n4 2 l4)]), D.nil] [(D.sl (n11) 1 (cs3))]) ∧
 (bcase (dL n6 1 cs2)
 (bcase (dL n11 1 cs3)
 (((Says C 18 [(Dw n6 1 cs2), (Dw n11 1 cs3)] kT) ∧
 (k kT)) ∨
 ((Says C 18 [(Dw n6 1 cs2), (Dw n11 1 cs3)] kF) ∧
 (k kF)))
 False)
 False)))))
 False)
 (k kF))) ∨
 ((Says C 16 [(Dw n3 2 cs1), D.nil] kF) ∧
 (k kF)))
 False)) ∨
 (∃ n11 : Nat,
 (∃ cs3 : List Go.Value,
 ((Says C 17 [(D.agg [(dI x0), (dI x1), D.nil]), (D.agg [D.nil, (Dw n4 2 l4)]), D.nil] [(D.sl (n11) 2 (cs3))]) ∧
 (bcase (dL n3 2 cs1)
 (bcase (dL n11 2 cs3)
 (((Says C 16 [(Dw n3 2 cs1), (Dw n11 2 cs3)] kT) ∧
 (bcase (n7 == 0)
 (bcase (dL n4 2 l4)
 (((Says C 19 [(D.agg [(dI x0), (dI x1), D.nil]), (D.agg [D.nil, (Dw n4 2 l4)]), D.nil] [D.nil]) ∧
 (bcase (dL n6 1 cs2)
 (((Says C 18 [(Dw n6 1 cs2), D.nil] kT) ∧
 (k kT)) ∨
 ((Says C 18 [(Dw n6 1 cs2), D.nil] kF) ∧
 (k kF)))
 False)) ∨
 (∃ n12 : Nat,
 (∃ cs4 : List Go.Value,
 ((Says C 19 [(D.agg [(dI x0), (dI x1), D.nil]), (D.agg [D.nil, (Dw n4 2 l4)]), D.nil] [(D.sl (n12) 1 (cs4))]) ∧
 (bcase (dL n6 1 cs2)
 (bcase (dL n12 1 cs4)
 (((Says C 18 [(Dw n6 1 cs2), (Dw n12 1 cs4)] kT) ∧
 (k kT)) ∨
 ((Says C 18 [(Dw n6 1 cs2), (Dw n12 1 cs4)] kF) ∧
 (k kF)))
 False)
 False)))))
 False)
 (k kF))) ∨
 ((Says C 16 [(Dw n3 2 cs1), (Dw n11 2 cs3)] kF) ∧
 (k kF)))
 False)
 False)))))
 False)
 (k kF))))))
 False))))))
 False)))))))))
 False)))))
 False))))))))))))
 False)))))
 False)))))))
 False))
 False)
 (k kT))) ∨
 ((Says C 4 [] kF) ∧
 (k kF))) := by kernel_rfl
def gLStb (C : Ct) (L : AtLoop) (x0 : Int) (x1 : Int) (n3 : Nat) (c3 : Nat) (l3 : List Value) (n5 : Nat) (c5 : Nat) (l5 : List Value) (k : List D → Prop) : Prop := wpFn Tryz.prog (hC C) L 0 3 #[.agg #[.int .i64 x0, .int .i64 x1, .slice none 0 0], .agg #[.slice (some ⟨500, 0, none⟩) n3 c3, .slice none 0 0], .slice (some ⟨501, 0, none⟩) n5 c5] (heapOf [(500, .sym l3 false 2), (501, .sym l5 false 1)]) (dataK k)
theorem gLStb_text (C : Ct) (L : AtLoop) (x0 : Int) (x1 : Int) (n3 : Nat) (c3 : Nat) (l3 : List Go.Value) (n5 : Nat) (c5 : Nat) (l5 : List Go.Value) (k : List D → Prop) : gLStb C L x0 x1 n3 c3 l3 n5 c5 l5 k =
 (((Says C 4 [] kT) ∧
 (bcase (decide ((↑n3 : Int) ≤ 14))
 (bcase (decide ((↑n5 : Int) ≤ 14))
 (bcase (dL n3 2 l3)
 ((Says C 8 [(D.agg [(Dw n3 2 l3), D.nil])] [(D.agg [(Dw n3 2 l3), (D.sl 0 2 [])])]) ∧
 (bcase (dL n3 2 (Tk n3 2 l3))
 (∃ n1 : Int,
 (∃ n2 : Int,
 ((Says C 7 [(D.agg [(Dw n3 2 (Tk n3 2 l3)), (D.sl 0 2 [])])] [(dI n1), (dI n2)]) ∧
 (((Qv (Sl 501 (n5) (c5))) ∧
 ((Qv (Go.Value.agg [(Sl 500 (n3) (c3)), (Go.Value.slice Option.none 0 0)].toArray)) ∧
 ((Qv (Go.Value.agg [(vI x0), (vI x1), (Go.Value.slice Option.none 0 0)].toArray)) ∧
 True))) ∧
 ((Says C 10 [(D.agg [(dI x0), (dI x1), D.nil])] [(D.agg [(dI x0), (dI x1), (D.sl 0 3 [])])]) ∧
 (((Qv (Sl 501 (n5) (c5))) ∧
 ((Qv (Go.Value.agg [(Sl 500 (n3) (c3)), (Go.Value.slice Option.none 0 0)].toArray)) ∧
 True)) ∧
 (bcase (dL n3 2 l3)
 ((Says C 8 [(D.agg [(Dw n3 2 l3), D.nil])] [(D.agg [(Dw n3 2 l3), (D.sl 0 2 [])])]) ∧
 (((Qv (Sl 501 (n5) (c5))) ∧
 True) ∧
 (bcase (dL n5 1 l5)
 ((Says C 11 [(Dw n5 1 l5)] [(Dw n5 1 l5)]) ∧
 (True ∧
 (bcase (dL n3 2 (Tk n3 2 l3))
 (bcase (dL n5 1 (Tk n5 1 l5))
 ((∃ n4 : Int,
 ((Says C 9 [(D.agg [(dI x0), (dI x1), (D.sl 0 3 [])]), (D.agg [(Dw n3 2 (Tk n3 2 l3)), (D.sl 0 2 [])]), (Dw n5 1 (Tk n5 1 l5))] [D.nil, (dI n4)]) ∧
 (((Qv (vI n4)) ∧
 ((Qv (Go.Value.slice Option.none 0 0)) ∧
 ((Qv (Go.Value.tuple [(Go.Value.slice Option.none 0 0), (vI n4)].toArray)) ∧
 True))) ∧
 (((Qv (vI n4)) ∧
 True) ∧
 (True ∧
 (((Qv (Sl 501 (n5) (c5))) ∧
 ((Qv (Go.Value.agg [(Sl 500 (n3) (c3)), (Go.Value.slice Option.none 0 0)].toArray)) ∧
 ((Qv (Go.Value.agg [(vI x0), (vI x1), (Go.Value.slice Option.none 0 0)].toArray)) ∧
 True))) ∧
 ((Says C 10 [(D.agg [(dI x0), (dI x1), D.nil])] [(D.agg [(dI x0), (dI x1), (D.sl 0 3 [])])]) ∧
 (((Qv (Sl 501 (n5) (c5))) ∧
 ((Qv (Go.Value.agg [(Sl 500 (n3) (c3)), (Go.Value.slice Option.none 0 0)].toArray)) ∧
 True)) ∧
 (bcase (dL n3 2 l3)
 ((Says C 8 [(D.agg [(Dw n3 2 l3), D.nil])] [(D.agg [(Dw n3 2 l3), (D.sl 0 2 [])])]) ∧
 (((Qv (Sl 501 (n5) (c5))) ∧
 True) ∧
 (bcase (dL n5 1 l5)
 ((Says C 11 [(Dw n5 1 l5)] [(Dw n5 1 l5)]) ∧
 (True ∧
 (bcase (dL n3 2 (Tk n3 2 l3))
 (bcase (dL n5 1 (Tk n5 1 l5))
 ((∃ n6 : Int,
 ((Says C 12 [(D.agg [(dI x0), (dI x1), (D.sl 0 3 [])]), (D.agg [(Dw n3 2 (Tk n3 2 l3)), (D.sl 0 2 [])]), (Dw n5 1 (Tk n5 1 l5))] [D.nil, (dI n6)]) ∧
 (((Qv (vI n6)) ∧
 ((Qv (Go.Value.slice Option.none 0 0)) ∧
 ((Qv (Go.Value.tuple [(Go.Value.slice Option.none 0 0), (vI n6)].toArray)) ∧
 True))) ∧
 (((Qv (vI n6)) ∧
 True) ∧
 (True ∧
 (bcase (dL n3 2 l3)
 (∃ n7 : Int,
 (∃ n8 : Int,
 ((Says C 13 [(D.agg [(Dw n3 2 l3), D.nil])] [(dI n7), (dI n8)]) ∧
 (bcase (n2 != n8)
 (k kF)
 (bcase (n1 != n7)
 (k kF)
 (bcase (dL n3 2 l3)
 (∃ n9 : Int,
 ((Says C 14 [(D.agg [(dI x0), (dI x1), D.nil]), (D.agg [(Dw n3 2 l3), D.nil])] [(dI n9)]) ∧
 (bcase (n9 == 0)
 (bcase (dL n3 2 l3)
 (bcase (dL n5 1 l5)
 (∃ n10 : Int,
 ((Says C 15 [(D.agg [(dI x0), (dI x1), D.nil]), (D.agg [(Dw n3 2 l3), D.nil]), (Dw n5 1 l5)] [(dI n10)]) ∧
 (bcase (n10 != 0)
 (bcase (n4 == n10)
 (bcase (n6 == n10)
 (k kT)
 (k kF))
 (k kF))
 (bcase (n4 == 0)
 (bcase (dL n3 2 l3)
 (bcase (dL n5 1 l5)
 (((Says C 17 [(D.agg [(dI x0), (dI x1), D.nil]), (D.agg [(Dw n3 2 l3), D.nil]), (Dw n5 1 l5)] [D.nil]) ∧
 (((Says C 16 [D.nil, D.nil] kT) ∧
 (bcase (n6 == 0)
 (bcase (dL n3 2 l3)
 (bcase (dL n5 1 l5)
 (((Says C 19 [(D.agg [(dI x0), (dI x1), D.nil]), (D.agg [(Dw n3 2 l3), D.nil]), (Dw n5 1 l5)] [D.nil]) ∧
 (((Says C 18 [D.nil, D.nil] kT) ∧
 (k kT)) ∨
 ((Says C 18 [D.nil, D.nil] kF) ∧
 (k kF)))) ∨
 (∃ n11 : Nat,
 (∃ cs1 : List Go.Value,
 ((Says C 19 [(D.agg [(dI x0), (dI x1), D.nil]), (D.agg [(Dw n3 2 l3), D.nil]), (Dw n5 1 l5)] [(D.sl (n11) 1 (cs1))]) ∧
 (bcase (dL n11 1 cs1)
 (((Says C 18 [D.nil, (Dw n11 1 cs1)] kT) ∧
 (k kT)) ∨
 ((Says C 18 [D.nil, (Dw n11 1 cs1)] kF) ∧
 (k kF)))
 False)))))
 False)
 False)
 (k kF))) ∨
 ((Says C 16 [D.nil, D.nil] kF) ∧
 (k kF)))) ∨
 (∃ n11 : Nat,
 (∃ cs1 : List Go.Value,
 ((Says C 17 [(D.agg [(dI x0), (dI x1), D.nil]), (D.agg [(Dw n3 2 l3), D.nil]), (Dw n5 1 l5)] [(D.sl (n11) 2 (cs1))]) ∧
 (bcase (dL n11 2 cs1)
 (((Says C 16 [D.nil, (Dw n11 2 cs1)] kT) ∧
 (bcase (n6 == 0)
 (bcase (dL n3 2 l3)
 (bcase (dL n5 1 l5)
 (((Says C 19 [(D.agg [(dI x0), (dI x1), D.nil]), (D.agg [(Dw n3 2 l3), D.nil]), (Dw n5 1 l5)] [D.nil]) ∧
 (((Says C 18 [D.nil, D.nil] kT) ∧
 (k kT)) ∨
 ((Says C 18 [D.nil, D.nil] kF) ∧
 (k kF)))) ∨
 (∃ n12 : Nat,
 (∃ cs2 : List Go.Value,
 ((Says C 19 [(D.agg [(dI x0), (dI x1), D.nil]), (D.agg [(Dw n3 2 l3), D.nil]), (Dw n5 1 l5)] [(D.sl (n12) 1 (cs2))]) ∧
 (bcase (dL n12 1 cs2)
 (((Says C 18 [D.nil, (Dw n12 1 cs2)] kT) ∧
 (k kT)) ∨
 ((Says C 18 [D.nil, (Dw n12 1 cs2)] kF) ∧
 (k kF)))
 False)))))
 False)
 False)
 (k kF))) ∨
 ((Says C 16 [D.nil, (Dw n11 2 cs1)] kF) ∧
 (k kF)))
 False)))))
 False)
 False)
 (k kF)))))
 False)
 False)
 (bcase (n9 != 0)
 (bcase (n4 == n9)
 (bcase (n6 == n9)
 (k kT)
 (k kF))
 (k kF))
 (bcase (n4 == 0)
 (bcase (dL n3 2 l3)
 (bcase (dL n5 1 l5)
 (((Says C 17 [(D.agg [(dI x0), (dI x1), D.nil]), (D.agg [(Dw n3 2 l3), D.nil]), (Dw n5 1 l5)] [D.nil]) ∧
 (((Says C 16 [D.nil, D.nil] kT) ∧
 (bcase (n6 == 0)
 (bcase (dL n3 2 l3)
 (bcase (dL n5 1 l5)
 (((Says C 19 [(D.agg [(dI x0), (dI x1), D.nil]), (D.agg [(Dw n3 2 l3), D.nil]), (Dw n5 1 l5)] [D.nil]) ∧
 (((Says C 18 [D.nil, D.nil] kT) ∧
 (k kT)) ∨
 ((Says C 18 [D.nil, D.nil] kF) ∧
 (k kF)))) ∨
 (∃ n10 : Nat,
 (∃ cs1 : List Go.Value,
 ((Says C 19 [(D.agg [(dI x0), (dI x1), D.nil]), (D.agg [(Dw n3 2 l3), D.nil]), (Dw n5 1 l5)] [(D.sl (n10) 1 (cs1))]) ∧
 (bcase (dL n10 1 cs1)
 (((Says C 18 [D.nil, (Dw n10 1 cs1)] kT) ∧
 (k kT)) ∨
 ((Says C 18 [D.nil, (Dw n10 1 cs1)] kF) ∧
 (k kF)))
 False)))))
 False)
 False)
 (k kF))) ∨
 ((Says C 16 [D.nil, D.nil] kF) ∧
 (k kF)))) ∨
 (∃ n10 : Nat,
 (∃ cs1 : List Go.Value,
 ((Says C 17 [(D.agg [(dI x0), (dI x1), D.nil]), (D.agg [(Dw n3 2 l3), D.nil]), (Dw n5 1 l5)] [(D.sl (n10) 2 (cs1))]) ∧
 (bcase (dL n10 2 cs1)
 (((Says C 16 [D.nil, (Dw n10 2 cs1)] kT) ∧
 (bcase (n6 == 0)
 (bcase (dL n3 2 l3)
 (bcase (dL n5 1 l5)
 (((Says C 19 [(D.agg [(dI x0), (dI x1), D.nil]), (D.agg [(Dw n3 2 l3), D.nil]), (Dw n5 1 l5)] [D.nil]) ∧
 (((Says C 18 [D.nil, D.nil] kT) ∧
 (k kT)) ∨
 ((Says C 18 [D.nil, D.nil] kF) ∧
 (k kF)))) ∨
 (∃ n11 : Nat,
 (∃ cs2 : List Go.Value,
 ((Says C 19 [(D.agg [(dI x0), (dI x1), D.nil]), (D.agg [(Dw n3 2 l3), D.nil]), (Dw n5 1 l5)] [(D.sl (n11) 1 (cs2))]) ∧
 (bcase (dL n11 1 cs2)
 (((Says C 18 [D.nil, (Dw n11 1 cs2)] kT) ∧
 (k kT)) ∨
 ((Says C 18 [D.nil, (Dw n11 1 cs2)] kF) ∧
 (k kF)))
 False)))))
 False)
 False)
 (k kF))) ∨
 ((Says C 16 [D.nil, (Dw n10 2 cs1)] kF) ∧
 (k kF)))
 False)))))
 False)
 False)
 (k kF))))))
 False))))))
 False)))))) ∨
 (∃ n6 : Nat,
 (∃ cs1 : List Go.Value,
 (∃ n7 : Int,
 ((Says C 12 [(D.agg [(dI x0), (dI x1), (D.sl 0 3 [])]), (D.agg [(Dw n3 2 (Tk n3 2 l3)), (D.sl 0 2 [])]), (Dw n5 1 (Tk n5 1 l5))] [(D.sl (n6) 1 (cs1)), (dI n7)]) ∧
 (((Qv (vI n7)) ∧
 ((Qv (Sl 1015 (n6) (n6))) ∧
 ((Qv (Go.Value.tuple [(Sl 1015 (n6) (n6)), (vI n7)].toArray)) ∧
 True))) ∧
 (((Qv (vI n7)) ∧
 True) ∧
 (True ∧
 (bcase (dL n3 2 l3)
 (∃ n8 : Int,
 (∃ n9 : Int,
 ((Says C 13 [(D.agg [(Dw n3 2 l3), D.nil])] [(dI n8), (dI n9)]) ∧
 (bcase (n2 != n9)
 (k kF)
 (bcase (n1 != n8)
 (k kF)
 (bcase (dL n3 2 l3)
 (∃ n10 : Int,
 ((Says C 14 [(D.agg [(dI x0), (dI x1), D.nil]), (D.agg [(Dw n3 2 l3), D.nil])] [(dI n10)]) ∧
 (bcase (n10 == 0)
 (bcase (dL n3 2 l3)
 (bcase (dL n5 1 l5)
 (∃ n11 : Int,
 ((Says C 15 [(D.agg [(dI x0), (dI x1), D.nil]), (D.agg [(Dw n3 2 l3), D.nil]), (Dw n5 1 l5)] [(dI n11)]) ∧
 (bcase (n11 != 0)
 (bcase (n4 == n11)
 (bcase (n7 == n11)
 (bcase ((↑n6 : Int) == 0)
 (k kT)
 (k kF))
 (k kF))
 (k kF))
 (bcase (n4 == 0)
 (bcase (dL n3 2 l3)
 (bcase (dL n5 1 l5)
 (((Says C 17 [(D.agg [(dI x0), (dI x1), D.nil]), (D.agg [(Dw n3 2 l3), D.nil]), (Dw n5 1 l5)] [D.nil]) ∧
 (((Says C 16 [D.nil, D.nil] kT) ∧
 (bcase (n7 == 0)
 (bcase (dL n3 2 l3)
 (bcase (dL n5 1 l5)
 (((Says C 19 [(D.agg [(dI x0), (dI x1), D.nil]), (D.agg [(Dw n3 2 l3), D.nil]), (Dw n5 1 l5)] [D.nil]) ∧
 (bcase (dL n6 1 cs1)
 (((Says C 18 [(Dw n6 1 cs1), D.nil] kT) ∧
 (k kT)) ∨
 ((Says C 18 [(Dw n6 1 cs1), D.nil] kF) ∧
 (k kF)))
 False)) ∨
 (∃ n12 : Nat,
 (∃ cs2 : List Go.Value,
 ((Says C 19 [(D.agg [(dI x0), (dI x1), D.nil]), (D.agg [(Dw n3 2 l3), D.nil]), (Dw n5 1 l5)] [(D.sl (n12) 1 (cs2))]) ∧
 (bcase (dL n6 1 cs1)
 (bcase (dL n12 1 cs2)
 (((Says C 18 [(Dw n6 1 cs1), (Dw n12 1 cs2)] kT) ∧
 (k kT)) ∨
 ((Says C 18 [(Dw n6 1 cs1), (Dw n12 1 cs2)] kF) ∧
 (k kF)))
 False)
 False)))))
 False)
 False)
 (k kF))) ∨
 ((Says C 16 [D.nil, D.nil] kF) ∧
 (k kF)))) ∨
 (∃ n12 : Nat,
 (∃ cs2 : List Go.Value,
 ((Says C 17 [(D.agg [(dI x0), (dI x1), D.nil]), (D.agg [(Dw n3 2 l3), D.nil]), (Dw n5 1 l5)] [(D.sl (n12) 2 (cs2))]) ∧
 (bcase (dL n12 2 cs2)
 (((Says C 16 [D.nil, (Dw n12 2 cs2)] kT) ∧
 (bcase (n7 == 0)
 (bcase (dL n3 2 l3)
 (bcase (dL n5 1 l5)
 (((Says C 19 [(D.agg [(dI x0), (dI x1), D.nil]), (D.agg [(Dw n3 2 l3), D.nil]), (Dw n5 1 l5)] [D.nil]) ∧
 (bcase (dL n6 1 cs1)
 (((Says C 18 [(Dw n6 1 cs1), D.nil] kT) ∧
 (k kT)) ∨
 ((Says C 18 [(Dw n6 1 cs1), D.nil] kF) ∧
 (k kF)))
 False)) ∨
 (∃ n13 : Nat,
 (∃ cs3 : List Go.Value,
 ((Says C 19 [(D.agg [(dI x0), (dI x1), D.nil]), (D.agg [(Dw n3 2 l3), D.nil]), (Dw n5 1 l5)] [(D.sl (n13) 1 (cs3))]) ∧
 (bcase (dL n6 1 cs1)
 (bcase (dL n13 1 cs3)
 (((Says C 18 [(Dw n6 1 cs1), (Dw n13 1 cs3)] kT) ∧
 (k kT)) ∨
 ((Says C 18 [(Dw n6 1 cs1), (Dw n13 1 cs3)] kF) ∧
 (k kF)))
 False)
 False)))))
 False)
 False)
 (k kF))) ∨
 ((Says C 16 [D.nil, (Dw n12 2 cs2)] kF) ∧
 (k kF)))
 False)))))
 False)
 False)
 (k kF)))))
 False)
 False)
 (bcase (n10 != 0)
 (bcase (n4 == n10)
 (bcase (n7 == n10)
 (bcase ((↑n6 : Int) == 0)
 (k kT)
 (k kF))
 (k kF))
 (k kF))
 (bcase (n4 == 0)
 (bcase (dL n3 2 l3)
 (bcase (dL n5 1 l5)
 (((Says C 17 [(D.agg [(dI x0), (dI x1), D.nil]), (D.agg [(Dw n3 2 l3), D.nil]), (Dw n5 1 l5)] [D.nil]) ∧
 (((Says C 16 [D.nil, D.nil] kT) ∧
 (bcase (n7 == 0)
 (bcase (dL n3 2 l3)
 (bcase (dL n5 1 l5)
 (((Says C 19 [(D.agg [(dI x0), (dI x1), D.nil]), (D.agg [(Dw n3 2 l3), D.nil]), (Dw n5 1 l5)] [D.nil]) ∧
 (bcase (dL n6 1 cs1)
 (((Says C 18 [(Dw n6 1 cs1), D.nil] kT) ∧
 (k kT)) ∨
 ((Says C 18 [(Dw n6 1 cs1), D.nil] kF) ∧
 (k kF)))
 False)) ∨
 (∃ n11 : Nat,
 (∃ cs2 : List Go.Value,
 ((Says C 19 [(D.agg [(dI x0), (dI x1), D.nil]), (D.agg [(Dw n3 2 l3), D.nil]), (Dw n5 1 l5)] [(D.sl (n11) 1 (cs2))]) ∧
 (bcase (dL n6 1 cs1)
 (bcase (dL n11 1 cs2)
 (((Says C 18 [(Dw n6 1 cs1), (Dw n11 1 cs2)] kT) ∧
 (k kT)) ∨
 ((Says C 18 [(Dw n6 1 cs1), (Dw n11 1 cs2)] kF) ∧
 (k kF)))
 False)
 False)))))
 False)
 False)
 (k kF))) ∨
 ((Says C 16 [D.nil, D.nil] kF) ∧
 (k kF)))) ∨
 (∃ n11 : Nat,
 (∃ cs2 : List Go.Value,
 ((Says C 17 [(D.agg [(dI x0), (dI x1), D.nil]), (D.agg [(Dw n3 2 l3), D.nil]), (Dw n5 1 l5)] [(D.sl (n11) 2 (cs2))]) ∧
 (bcase (dL n11 2 cs2)
 (((Says C 16 [D.nil, (Dw n11 2 cs2)] kT) ∧
 (bcase (n7 == 0)
 (bcase (dL n3 2 l3)
 (bcase (dL n5 1 l5)
 (((Says C 19 [(D.agg [(dI x0), (dI x1), D.nil]), (D.agg [(Dw n3 2 l3), D.nil]), (Dw n5 1 l5)] [D.nil]) ∧
 (bcase (dL n6 1 cs1)
 (((Says C 18 [(Dw n6 1 cs1), D.nil] kT) ∧
 (k kT)) ∨
 ((Says C 18 [(Dw n6 1 cs1), D.nil] kF) ∧
 (k kF)))
 False)) ∨
 (∃ n12 : Nat,
 (∃ cs3 : List Go.Value,
 ((Says C 19 [(D.agg [(dI x0), (dI x1), D.nil]), (D.agg [(Dw n3 2 l3), D.nil]), (Dw n5 1 l5)] [(D.sl (n12) 1 (cs3))]) ∧
 (bcase (dL n6 1 cs1)
 (bcase (dL n12 1 cs3)
 (((Says C 18 [(Dw n6 1 cs1), (Dw n12 1 cs3)] kT) ∧
 (k kT)) ∨
 ((Says C 18 [(Dw n6 1 cs1), (Dw n12 1 cs3)] kF) ∧
 (k kF)))
 False)
 False)))))
 False)
 False)
 (k kF))) ∨
 ((Says C 16 [D.nil, (Dw n11 2 cs2)] kF) ∧
 (k kF)))
 False)))))
 False)
 False)
 (k kF))))))
 False))))))
 False)))))))))
 False)
 False)))
 False)))
 False))))))))) ∨
 (∃ n4 : Nat,
 (∃ cs1 : List Go.Value,
 (∃ n6 : Int,
 ((Says C 9 [(D.agg [(dI x0), (dI x1), (D.sl 0 3 [])]), (D.agg [(Dw n3 2 (Tk n3 2 l3)), (D.sl 0 2 [])]), (Dw n5 1 (Tk n5 1 l5))] [(D.sl (n4) 2 (cs1)), (dI n6)]) ∧
 (((Qv (vI n6)) ∧
 ((Qv (Sl 1011 (n4) (n4))) ∧
 ((Qv (Go.Value.tuple [(Sl 1011 (n4) (n4)), (vI n6)].toArray)) ∧
 True))) ∧
 (((Qv (vI n6)) ∧
 True) ∧
 (True ∧
 (((Qv (Sl 501 (n5) (c5))) ∧
 ((Qv (Go.Value.agg [(Sl 500 (n3) (c3)), (Go.Value.slice Option.none 0 0)].toArray)) ∧
 ((Qv (Go.Value.agg [(vI x0), (vI x1), (Go.Value.slice Option.none 0 0)].toArray)) ∧
 True))) ∧
 ((Says C 10 [(D.agg [(dI x0), (dI x1), D.nil])] [(D.agg [(dI x0), (dI x1), (D.sl 0 3 [])])]) ∧
 (((Qv (Sl 501 (n5) (c5))) ∧
 ((Qv (Go.Value.agg [(Sl 500 (n3) (c3)), (Go.Value.slice Option.none 0 0)].toArray)) ∧
 True)) ∧
 (bcase (dL n3 2 l3)
 ((Says C 8 [(D.agg [(Dw n3 2 l3), D.nil])] [(D.agg [(Dw n3 2 l3), (D.sl 0 2 [])])]) ∧
 (((Qv (Sl 501 (n5) (c5))) ∧
 True) ∧
 (bcase (dL n5 1 l5)
 ((Says C 11 [(Dw n5 1 l5)] [(Dw n5 1 l5)]) ∧
 (True ∧
 (bcase (dL n3 2 (Tk n3 2 l3))
 (bcase (dL n5 1 (Tk n5 1 l5))
 ((∃ n7 : Int,
 ((Says C 12 [(D.agg [(dI x0), (dI x1), (D.sl 0 3 [])]), (D.agg [(Dw n3 2 (Tk n3 2 l3)), (D.sl 0 2 [])]), (Dw n5 1 (Tk n5 1 l5))] [D.nil, (dI n7)]) ∧
 (((Qv (vI n7)) ∧
 ((Qv (Go.Value.slice Option.none 0 0)) ∧
 ((Qv (Go.Value.tuple [(Go.Value.slice Option.none 0 0), (vI n7)].toArray)) ∧
 True))) ∧
 (((Qv (vI n7)) ∧
 True) ∧
 (True ∧
 (bcase (dL n3 2 l3)
 (∃ n8 : Int,
 (∃ n9 : Int,
 ((Says C 13 [(D.agg [(Dw n3 2 l3), D.nil])] [(dI n8), (dI n9)]) ∧
 (bcase (n2 != n9)
 (k kF)
 (bcase (n1 != n8)
 (k kF)
 (bcase (dL n3 2 l3)
 (∃ n10 : Int,
 ((Says C 14 [(D.agg [(dI x0), (dI x1), D.nil]), (D.agg [(Dw n3 2 l3), D.nil])] [(dI n10)]) ∧
 (bcase (n10 == 0)
 (bcase (dL n3 2 l3)
 (bcase (dL n5 1 l5)
 (∃ n11 : Int,
 ((Says C 15 [(D.agg [(dI x0), (dI x1), D.nil]), (D.agg [(Dw n3 2 l3), D.nil]), (Dw n5 1 l5)] [(dI n11)]) ∧
 (bcase (n11 != 0)
 (bcase (n6 == n11)
 (bcase (n7 == n11)
 (bcase ((↑n4 : Int) == 0)
 (k kT)
 (k kF))
 (k kF))
 (k kF))
 (bcase (n6 == 0)
 (bcase (dL n3 2 l3)
 (bcase (dL n5 1 l5)
 (((Says C 17 [(D.agg [(dI x0), (dI x1), D.nil]), (D.agg [(Dw n3 2 l3), D.nil]), (Dw n5 1 l5)] [D.nil]) ∧
 (bcase (dL n4 2 cs1)
 (((Says C 16 [(Dw n4 2 cs1), D.nil] kT) ∧
 (bcase (n7 == 0)
 (bcase (dL n3 2 l3)
 (bcase (dL n5 1 l5)
 (((Says C 19 [(D.agg [(dI x0), (dI x1), D.nil]), (D.agg [(Dw n3 2 l3), D.nil]), (Dw n5 1 l5)] [D.nil]) ∧
 (((Says C 18 [D.nil, D.nil] kT) ∧
 (k kT)) ∨
 ((Says C 18 [D.nil, D.nil] kF) ∧
 (k kF)))) ∨
 (∃ n12 : Nat,
 (∃ cs2 : List Go.Value,
 ((Says C 19 [(D.agg [(dI x0), (dI x1), D.nil]), (D.agg [(Dw n3 2 l3), D.nil]), (Dw n5 1 l5)] [(D.sl (n12) 1 (cs2))]) ∧
 (bcase (dL n12 1 cs2)
 (((Says C 18 [D.nil, (Dw n12 1 cs2)] kT) ∧
 (k kT)) ∨
 ((Says C 18 [D.nil, (Dw n12 1 cs2)] kF) ∧
 (k kF)))
 False)))))
 False)
 False)
 (k kF))) ∨
 ((Says C 16 [(Dw n4 2 cs1), D.nil] kF) ∧
 (k kF)))
 False)) ∨
 (∃ n12 : Nat,
 (∃ cs2 : List Go.Value,
 ((Says C 17 [(D.agg [(dI x0), (dI x1), D.nil]), (D.agg [(Dw n3 2 l3), D.nil]), (Dw n5 1 l5)] [(D.sl (n12) 2 (cs2))]) ∧
 (bcase (dL n4 2 cs1)
 (bcase (dL n12 2 cs2)
 (((Says C 16 [(Dw n4 2 cs1), (Dw n12 2 cs2)] kT) ∧
 (bcase (n7 == 0)
 (bcase (dL n3 2 l3)
 (bcase (dL n5 1 l5)
 (((Says C 19 [(D.agg [(dI x0), (dI x1), D.nil]), (D.agg [(Dw n3 2 l3), D.nil]), (Dw n5 1 l5)] [D.nil]) ∧
 (((Says C 18 [D.nil, D.nil] kT) ∧
 (k kT)) ∨
 ((Says C 18 [D.nil, D.nil] kF) ∧
 (k kF)))) ∨
 (∃ n13 : Nat,
 (∃ cs3 : List Go.Value,
 ((Says C 19 [(D.agg [(dI x0), (dI x1), D.nil]), (D.agg [(Dw n3 2 l3), D.nil]), (Dw n5 1 l5)] [(D.sl (n13) 1 (cs3))]) ∧
 (bcase (dL n13 1 cs3)
 (((Says C 18 [D.nil, (Dw n13 1 cs3)] kT) ∧
 (k kT)) ∨
 ((Says C 18 [D.nil, (Dw n13 1 cs3)] kF) ∧
 (k kF)))
 False)))))
 False)
 False)
 (k kF))) ∨
 ((Says C 16 [(Dw n4 2 cs1), (Dw n12 2 cs2)] kF) ∧
 (k kF)))
 False)
 False)))))
 False)
 False)
 (k kF)))))
 False)
 False)
 (bcase (n10 != 0)
 (bcase (n6 == n10)
 (bcase (n7 == n10)
 (bcase ((↑n4 : Int) == 0)
 (k kT)
 (k kF))
 (k kF))
 (k kF))
 (bcase (n6 == 0)
 (bcase (dL n3 2 l3)
 (bcase (dL n5 1 l5)
 (((Says C 17 [(D.agg [(dI x0), (dI x1), D.nil]), (D.agg [(Dw n3 2 l3), D.nil]), (Dw n5 1 l5)] [D.nil]) ∧
 (bcase (dL n4 2 cs1)
 (((Says C 16 [(Dw n4 2 cs1), D.nil] kT) ∧
 (bcase (n7 == 0)
 (bcase (dL n3 2 l3)
 (bcase (dL n5 1 l5)
 (((Says C 19 [(D.agg [(dI x0), (dI x1), D.nil]), (D.agg [(Dw n3 2 l3), D.nil]), (Dw n5 1 l5)] [D.nil]) ∧
 (((Says C 18 [D.nil, D.nil] kT) ∧
 (k kT)) ∨
 ((Says C 18 [D.nil, D.nil] kF) ∧
 (k kF)))) ∨
 (∃ n11 : Nat,
 (∃ cs2 : List Go.Value,
 ((Says C 19 [(D.agg [(dI x0), (dI x1), D.nil]), (D.agg [(Dw n3 2 l3), D.nil]), (Dw n5 1 l5)] [(D.sl (n11) 1 (cs2))]) ∧
 (bcase (dL n11 1 cs2)
 (((Says C 18 [D.nil, (Dw n11 1 cs2)] kT) ∧
 (k kT)) ∨
 ((Says C 18 [D.nil, (Dw n11 1 cs2)] kF) ∧
 (k kF)))
 False)))))
 False)
 False)
 (k kF))) ∨
 ((Says C 16 [(Dw n4 2 cs1), D.nil] kF) ∧
 (k kF)))
 False)) ∨
 (∃ n11 : Nat,
 (∃ cs2 : List Go.Value,
 ((Says C 17 [(D.agg [(dI x0), (dI x1), D.nil]), (D.agg [(Dw n3 2 l3), D.nil]), (Dw n5 1 l5)] [(D.sl (n11) 2 (cs2))]) ∧
 (bcase (dL n4 2 cs1)
 (bcase (dL n11 2 cs2)
 (((Says C 16 [(Dw n4 2 cs1), (Dw n11 2 cs2)] kT) ∧
 (bcase (n7 == 0)
 (bcase (dL n3 2 l3)
 (bcase (dL n5 1 l5)
 (((Says C 19 [(D.agg [(dI x0), (dI x1), D.nil]), (D.agg [(Dw n3 2 l3), D.nil]), (Dw n5 1 l5)] [D.nil]) ∧
 (((Says C 18 [D.nil, D.nil] kT) ∧
 (k kT)) ∨
 ((Says C 18 [D.nil, D.nil] kF) ∧
 (k kF)))) ∨
 (∃ n12 : Nat,
 (∃ cs3 : List Go.Value,
 ((Says C 19 [(D.agg [(dI x0), (dI x1), D.nil]), (D.agg [(Dw n3 2 l3), D.nil]), (Dw n5 1 l5)] [(D.sl (n12) 1 (cs3))]) ∧
 (bcase (dL n12 1 cs3)
 (((Says C 18 [D.nil, (Dw n12 1 cs3)] kT) ∧
 (k kT)) ∨
 ((Says C 18 [D.nil, (Dw n12 1 cs3)] kF) ∧
 (k kF)))
 False)))))
 False)
 False)
 (k kF))) ∨
 ((Says C 16 [(Dw n4 2 cs1), (Dw n11 2 cs2)] kF) ∧
 (k kF)))
 False)
 False)))))
 False)
 False)
 (k kF))))))
 False))))))
 False)))))) ∨
 (∃ n7 : Nat,
 (∃ cs2 : List Go.Value,
 (∃ n8 : Int,
 ((Says C 12 [(D.agg [(dI x0), (dI x1), (D.sl 0 3 [])]), (D.agg [(Dw n3 2 (Tk n3 2 l3)), (D.sl 0 2 [])]), (Dw n5 1 (Tk n5 1 l5))] [(D.sl (n7) 1 (cs2)), (dI n8)]) ∧
 (((Qv (vI n8)) ∧
 ((Qv (Sl 1016 (n7) (n7))) ∧
 ((Qv (Go.Value.tuple [(Sl 1016 (n7) (n7)), (vI n8)].toArray)) ∧
 True))) ∧
 (((Qv (vI n8)) ∧
 True) ∧
 (True ∧
 (bcase (dL n3 2 l3)
 (∃ n9 : Int,
 (∃ n10 : Int,
 ((Says C 13 [(D.agg [(Dw n3 2 l3), D.nil])] [(dI n9), (dI n10)]) ∧
 (bcase (n2 != n10)
 (k kF)
 (bcase (n1 != n9)
 (k kF)
 (bcase (dL n3 2 l3)
 (∃ n11 : Int,
 ((Says C 14 [(D.agg [(dI x0), (dI x1), D.nil]), (D.agg [(Dw n3 2 l3), D.nil])] [(dI n11)]) ∧
 (bcase (n11 == 0)
 (bcase (dL n3 2 l3)
 (bcase (dL n5 1 l5)
 (∃ n12 : Int,
 ((Says C 15 [(D.agg [(dI x0), (dI x1), D.nil]), (D.agg [(Dw n3 2 l3), D.nil]), (Dw n5 1 l5)] [(dI n12)]) ∧
 (bcase (n12 != 0)
 (bcase (n6 == n12)
 (bcase (n8 == n12)
 (bcase ((↑n4 : Int) == 0)
 (bcase ((↑n7 : Int) == 0)
 (k kT)
 (k kF))
 (k kF))
 (k kF))
 (k kF))
 (bcase (n6 == 0)
 (bcase (dL n3 2 l3)
 (bcase (dL n5 1 l5)
 (((Says C 17 [(D.agg [(dI x0), (dI x1), D.nil]), (D.agg [(Dw n3 2 l3), D.nil]), (Dw n5 1 l5)] [D.nil]) ∧
 (bcase (dL n4 2 cs1)
 (((Says C 16 [(Dw n4 2 cs1), D.nil] kT) ∧
 (bcase (n8 == 0)
 (bcase (dL n3 2 l3)
 (bcase (dL n5 1 l5)
 (((Says C 19 [(D.agg [(dI x0), (dI x1), D.nil]), (D.agg [(Dw n3 2 l3), D.nil]), (Dw n5 1 l5)] [D.nil]) ∧
 (bcase (dL n7 1 cs2)
 (((Says C 18 [(Dw n7 1 cs2), D.nil] kT) ∧
 (k kT)) ∨
 ((Says C 18 [(Dw n7 1 cs2), D.nil] kF) ∧
 (k kF)))
 False)) ∨
 (∃ n13 : Nat,
 (∃ cs3 : List Go.Value,
 ((Says C 19 [(D.agg [(dI x0), (dI x1), D.nil]), (D.agg [(Dw n3 2 l3), D.nil]), (Dw n5 1 l5)] [(D.sl (n13) 1 (cs3))]) ∧
 (bcase (dL n7 1 cs2)
 (bcase (dL n13 1 cs3)
 (((Says C 18 [(Dw n7 1 cs2), (Dw n13 1 cs3)] kT) ∧
 (k kT)) ∨
 ((Says C 18 [(Dw n7 1 cs2), (Dw n13 1 cs3)] kF) ∧
 (k kF)))
 False)
 False)))))
 False)
 False)
 (k kF))) ∨
 ((Says C 16 [(Dw n4 2 cs1), D.nil] kF) ∧
 (k kF)))
 False)) ∨
 (∃ n13 : Nat,
 (∃ cs3 : List Go.Value,
 ((Says C 17 [(D.agg [(dI x0), (dI x1), D.nil]), (D.agg [(Dw n3 2 l3), D.nil]), (Dw n5 1 l5)] [(D.sl (n13) 2 (cs3))]) ∧
 (bcase (dL n4 2 cs1)
 (bcase (dL n13 2 cs3)
 (((Says C 16 [(Dw n4 2 cs1), (Dw n13 2 cs3)] kT) ∧
 (bcase (n8 == 0)
 (bcase (dL n3 2 l3)
 (bcase (dL n5 1 l5)
 (((Says C 19 [(D.agg [(dI x0), (dI x1), D.nil]), (D.agg [(Dw n3 2 l3), D.nil]), (Dw n5 1 l5)] [D.nil]) ∧
 (bcase (dL n7 1 cs2)
 (((Says C 18 [(Dw n7 1 cs2), D.nil] kT) ∧
 (k kT)) ∨
 ((Says C 18 [(Dw n7 1 cs2), D.nil] kF) ∧
 (k kF)))
 False)) ∨
 (∃ n14 : Nat,
 (∃ cs4 : List Go.Value,
 ((Says C 19 [(D.agg [(dI x0), (dI x1), D.nil]), (D.agg [(Dw n3 2 l3), D.nil]), (Dw n5 1 l5)] [(D.sl (n14) 1 (cs4))]) ∧
 (bcase (dL n7 1 cs2)
 (bcase (dL n14 1 cs4)
 (((Says C 18 [(Dw n7 1 cs2), (Dw n14 1 cs4)] kT) ∧
 (k kT)) ∨
 ((Says C 18 [(Dw n7 1 cs2), (Dw n14 1 cs4)] kF) ∧
 (k kF)))
 False)
 False)))))
 False)
 False)
 (k kF))) ∨
 ((Says C 16 [(Dw n4 2 cs1), (Dw n13 2 cs3)] kF) ∧
 (k kF)))
 False)
 False)))))
 False)
 False)
 (k kF)))))
 False)
 False)
 (bcase (n11 != 0)
 (bcase (n6 == n11)
 (bcase (n8 == n11)
 (bcase ((↑n4 : Int) == 0)
 (bcase ((↑n7 : Int) == 0)
 (k kT)
 (k kF))
 (k kF))
 (k kF))
 (k kF))
 (bcase (n6 == 0)
 (bcase (dL n3 2 l3)
 (bcase (dL n5 1 l5)
 (((Says C 17 [(D.agg [(dI x0), (dI x1), D.nil]), (D.agg [(Dw n3 2 l3), D.nil]), (Dw n5 1 l5)] [D.nil]) ∧
 (bcase (dL n4 2 cs1)
 (((Says C 16 [(Dw n4 2 cs1), D.nil] kT) ∧
 (bcase (n8 == 0)
 (bcase (dL n3 2 l3)
 (bcase (dL n5 1 l5)
 (((Says C 19 [(D.agg [(dI x0), (dI x1), D.nil]), (D.agg [(Dw n3 2 l3), D.nil]), (Dw n5 1 l5)] [D.nil]) ∧
 (bcase (dL n7 1 cs2)
 (((Says C 18 [(Dw n7 1 cs2), D.nil] kT) ∧
 (k kT)) ∨
 ((Says C 18 [(Dw n7 1 cs2), D.nil] kF) ∧
 (k kF)))
 False)) ∨
 (∃ n12 : Nat,
 (∃ cs3 : List Go.Value,
 ((Says C 19 [(D.agg [(dI x0), (dI x1), D.nil]), (D.agg [(Dw n3 2 l3), D.nil]), (Dw n5 1 l5)] [(D.sl (n12) 1 (cs3))]) ∧
 (bcase (dL n7 1 cs2)
 (bcase (dL n12 1 cs3)
 (((Says C 18 [(Dw n7 1 cs2), (Dw n12 1 cs3)] kT) ∧
 (k kT)) ∨
 ((Says C 18 [(Dw n7 1 cs2), (Dw n12 1 cs3)] kF) ∧
 (k kF)))
 False)
 False)))))
 False)
 False)
 (k kF))) ∨
 ((Says C 16 [(Dw n4 2 cs1), D.nil] kF) ∧
 (k kF)))
 False)) ∨
 (∃ n12 : Nat,
 (∃ cs3 : List Go.Value,
 ((Says C 17 [(D.agg [(dI x0), (dI x1), D.nil]), (D.agg [(Dw n3 2 l3), D.nil]), (Dw n5 1 l5)] [(D.sl (n12) 2 (cs3))]) ∧
 (bcase (dL n4 2 cs1)
 (bcase (dL n12 2 cs3)
 (((Says C 16 [(Dw n4 2 cs1), (Dw n12 2 cs3)] kT) ∧
 (bcase (n8 == 0)
 (bcase (dL n3 2 l3)
 (bcase (dL n5 1 l5)
 (((Says C 19 [(D.agg [(dI x0), (dI x1), D.nil]), (D.agg [(Dw n3 2 l3), D.nil]), (Dw n5 1 l5)] [D.nil]) ∧
 (bcase (dL n7 1 cs2)
 (((Says C 18 [(Dw n7 1 cs2), D.nil] kT) ∧
 (k kT)) ∨
 ((Says C 18 [(Dw n7 1 cs2), D.nil] kF) ∧
 (k kF)))
 False)) ∨
 (∃ n13 : Nat,
 (∃ cs4 : List Go.Value,
 ((Says C 19 [(D.agg [(dI x0), (dI x1), D.nil]), (D.agg [(Dw n3 2 l3), D.nil]), (Dw n5 1 l5)] [(D.sl (n13) 1 (cs4))]) ∧
 (bcase (dL n7 1 cs2)
 (bcase (dL n13 1 cs4)
 (((Says C 18 [(Dw n7 1 cs2), (Dw n13 1 cs4)] kT) ∧
 (k kT)) ∨
 ((Says C 18 [(Dw n7 1 cs2), (Dw n13 1 cs4)] kF) ∧
 (k kF)))
 False)
 False)))))
 False)
 False)
 (k kF))) ∨
 ((Says C 16 [(Dw n4 2 cs1), (Dw n12 2 cs3)] kF) ∧
 (k kF)))
 False)
 False)))))
 False)
 False)
 (k kF))))))
 False))))))
 False)))))))))
 False)
 False)))
 False)))
 False))))))))))))
 False)
 False)))
 False)))
 False)))))))
 False))
 False)
 (k kT))
 (k kT))) ∨
 ((Says C 4 [] kF) ∧
 (k kF))) := by kernel_rfl
def gLStbn (C : Ct) (L : AtLoop) (x0 : Int) (x1 : Int) (n3 : Nat) (c3 : Nat) (l3 : List Value) (k : List D → Prop) : Prop := wpFn Tryz.prog (hC C) L 0 3 #[.agg #[.int .i64 x0, .int .i64 x1, .slice none 0 0], .agg #[.slice (some ⟨500, 0, none⟩) n3 c3, .slice none 0 0], .slice none 0 0] (heapOf [(500, .sym l3 false 2)]) (dataK k)
theorem gLStbn_text (C : Ct) (L : AtLoop) (x0 : Int) (x1 : Int) (n3 : Nat) (c3 : Nat) (l3 : List Go.Value) (k : List D → Prop) : gLStbn C L x0 x1 n3 c3 l3 k =
 (((Says C 4 [] kT) ∧
 (bcase (decide ((↑n3 : Int) ≤ 14))
 (bcase (dL n3 2 l3)
 ((Says C 8 [(D.agg [(Dw n3 2 l3), D.nil])] [(D.agg [(Dw n3 2 l3), (D.sl 0 2 [])])]) ∧
 (bcase (dL n3 2 (Tk n3 2 l3))
 (∃ n1 : Int,
 (∃ n2 : Int,
 ((Says C 7 [(D.agg [(Dw n3 2 (Tk n3 2 l3)), (D.sl 0 2 [])])] [(dI n1), (dI n2)]) ∧
 (((Qv (Go.Value.slice Option.none 0 0)) ∧
 ((Qv (Go.Value.agg [(Sl 500 (n3) (c3)), (Go.Value.slice Option.none 0 0)].toArray)) ∧
 ((Qv (Go.Value.agg [(vI x0), (vI x1), (Go.Value.slice Option.none 0 0)].toArray)) ∧
 True))) ∧
 ((Says C 10 [(D.agg [(dI x0), (dI x1), D.nil])] [(D.agg [(dI x0), (dI x1), (D.sl 0 3 [])])]) ∧
 (((Qv (Go.Value.slice Option.none 0 0)) ∧
 ((Qv (Go.Value.agg [(Sl 500 (n3) (c3)), (Go.Value.slice Option.none 0 0)].toArray)) ∧
 True)) ∧
 (bcase (dL n3 2 l3)
 ((Says C 8 [(D.agg [(Dw n3 2 l3), D.nil])] [(D.agg [(Dw n3 2 l3), (D.sl 0 2 [])])]) ∧
 (((Qv (Go.Value.slice Option.none 0 0)) ∧
 True) ∧
 ((Says C 11 [D.nil] [(D.sl 0 1 [])]) ∧
 (True ∧
 (bcase (dL n3 2 (Tk n3 2 l3))
 ((∃ n4 : Int,
 ((Says C 9 [(D.agg [(dI x0), (dI x1), (D.sl 0 3 [])]), (D.agg [(Dw n3 2 (Tk n3 2 l3)), (D.sl 0 2 [])]), (D.sl 0 1 [])] [D.nil, (dI n4)]) ∧
 (((Qv (vI n4)) ∧
 ((Qv (Go.Value.slice Option.none 0 0)) ∧
 ((Qv (Go.Value.tuple [(Go.Value.slice Option.none 0 0), (vI n4)].toArray)) ∧
 True))) ∧
 (((Qv (vI n4)) ∧
 True) ∧
 (True ∧
 (((Qv (Go.Value.slice Option.none 0 0)) ∧
 ((Qv (Go.Value.agg [(Sl 500 (n3) (c3)), (Go.Value.slice Option.none 0 0)].toArray)) ∧
 ((Qv (Go.Value.agg [(vI x0), (vI x1), (Go.Value.slice Option.none 0 0)].toArray)) ∧
 True))) ∧
 ((Says C 10 [(D.agg [(dI x0), (dI x1), D.nil])] [(D.agg [(dI x0), (dI x1), (D.sl 0 3 [])])]) ∧
 (((Qv (Go.Value.slice Option.none 0 0)) ∧
 ((Qv (Go.Value.agg [(Sl 500 (n3) (c3)), (Go.Value.slice Option.none 0 0)].toArray)) ∧
 True)) ∧
 (bcase (dL n3 2 l3)
 ((Says C 8 [(D.agg [(Dw n3 2 l3), D.nil])] [(D.agg [(Dw n3 2 l3), (D.sl 0 2 [])])]) ∧
 (((Qv (Go.Value.slice Option.none 0 0)) ∧
 True) ∧
 ((Says C 11 [D.nil] [(D.sl 0 1 [])]) ∧
 (True ∧
 (bcase (dL n3 2 (Tk n3 2 l3))
 ((∃ n5 : Int,
 ((Says C 12 [(D.agg [(dI x0), (dI x1), (D.sl 0 3 [])]), (D.agg [(Dw n3 2 (Tk n3 2 l3)), (D.sl 0 2 [])]), (D.sl 0 1 [])] [D.nil, (dI n5)]) ∧
 (((Qv (vI n5)) ∧
 ((Qv (Go.Value.slice Option.none 0 0)) ∧
 ((Qv (Go.Value.tuple [(Go.Value.slice Option.none 0 0), (vI n5)].toArray)) ∧
 True))) ∧
 (((Qv (vI n5)) ∧
 True) ∧
 (True ∧
 (bcase (dL n3 2 l3)
 (∃ n6 : Int,
 (∃ n7 : Int,
 ((Says C 13 [(D.agg [(Dw n3 2 l3), D.nil])] [(dI n6), (dI n7)]) ∧
 (bcase (n2 != n7)
 (k kF)
 (bcase (n1 != n6)
 (k kF)
 (bcase (dL n3 2 l3)
 (∃ n8 : Int,
 ((Says C 14 [(D.agg [(dI x0), (dI x1), D.nil]), (D.agg [(Dw n3 2 l3), D.nil])] [(dI n8)]) ∧
 (bcase (n8 == 0)
 (bcase (dL n3 2 l3)
 (∃ n9 : Int,
 ((Says C 15 [(D.agg [(dI x0), (dI x1), D.nil]), (D.agg [(Dw n3 2 l3), D.nil]), D.nil] [(dI n9)]) ∧
 (bcase (n9 != 0)
 (bcase (n4 == n9)
 (bcase (n5 == n9)
 (k kT)
 (k kF))
 (k kF))
 (bcase (n4 == 0)
 (bcase (dL n3 2 l3)
 (((Says C 17 [(D.agg [(dI x0), (dI x1), D.nil]), (D.agg [(Dw n3 2 l3), D.nil]), D.nil] [D.nil]) ∧
 (((Says C 16 [D.nil, D.nil] kT) ∧
 (bcase (n5 == 0)
 (bcase (dL n3 2 l3)
 (((Says C 19 [(D.agg [(dI x0), (dI x1), D.nil]), (D.agg [(Dw n3 2 l3), D.nil]), D.nil] [D.nil]) ∧
 (((Says C 18 [D.nil, D.nil] kT) ∧
 (k kT)) ∨
 ((Says C 18 [D.nil, D.nil] kF) ∧
 (k kF)))) ∨
 (∃ n10 : Nat,
 (∃ cs1 : List Go.Value,
 ((Says C 19 [(D.agg [(dI x0), (dI x1), D.nil]), (D.agg [(Dw n3 2 l3), D.nil]), D.nil] [(D.sl (n10) 1 (cs1))]) ∧
 (bcase (dL n10 1 cs1)
 (((Says C 18 [D.nil, (Dw n10 1 cs1)] kT) ∧
 (k kT)) ∨
 ((Says C 18 [D.nil, (Dw n10 1 cs1)] kF) ∧
 (k kF)))
 False)))))
 False)
 (k kF))) ∨
 ((Says C 16 [D.nil, D.nil] kF) ∧
 (k kF)))) ∨
 (∃ n10 : Nat,
 (∃ cs1 : List Go.Value,
 ((Says C 17 [(D.agg [(dI x0), (dI x1), D.nil]), (D.agg [(Dw n3 2 l3), D.nil]), D.nil] [(D.sl (n10) 2 (cs1))]) ∧
 (bcase (dL n10 2 cs1)
 (((Says C 16 [D.nil, (Dw n10 2 cs1)] kT) ∧
 (bcase (n5 == 0)
 (bcase (dL n3 2 l3)
 (((Says C 19 [(D.agg [(dI x0), (dI x1), D.nil]), (D.agg [(Dw n3 2 l3), D.nil]), D.nil] [D.nil]) ∧
 (((Says C 18 [D.nil, D.nil] kT) ∧
 (k kT)) ∨
 ((Says C 18 [D.nil, D.nil] kF) ∧
 (k kF)))) ∨
 (∃ n11 : Nat,
 (∃ cs2 : List Go.Value,
 ((Says C 19 [(D.agg [(dI x0), (dI x1), D.nil]), (D.agg [(Dw n3 2 l3), D.nil]), D.nil] [(D.sl (n11) 1 (cs2))]) ∧
 (bcase (dL n11 1 cs2)
 (((Says C 18 [D.nil, (Dw n11 1 cs2)] kT) ∧
 (k kT)) ∨
 ((Says C 18 [D.nil, (Dw n11 1 cs2)] kF) ∧
 (k kF)))
 False)))))
 False)
 (k kF))) ∨
 ((Says C 16 [D.nil, (Dw n10 2 cs1)] kF) ∧
 (k kF)))
 False)))))
 False)
 (k kF)))))
 False)
 (bcase (n8 != 0)
 (bcase (n4 == n8)
 (bcase (n5 == n8)
 (k kT)
 (k kF))
 (k kF))
 (bcase (n4 == 0)
 (bcase (dL n3 2 l3)
 (((Says C 17 [(D.agg [(dI x0), (dI x1), D.nil]), (D.agg [(Dw n3 2 l3), D.nil]), D.nil] [D.nil]) ∧
 (((Says C 16 [D.nil, D.nil] kT) ∧
 (bcase (n5 == 0)
 (bcase (dL n3 2 l3)
 (((Says C 19 [(D.agg [(dI x0), (dI x1), D.nil]), (D.agg [(Dw n3 2 l3), D.nil]), D.nil] [D.nil]) ∧
 (((Says C 18 [D.nil, D.nil] kT) ∧
 (k kT)) ∨
 ((Says C 18 [D.nil, D.nil] kF) ∧
 (k kF)))) ∨
 (∃ n9 : Nat,
 (∃ cs1 : List Go.Value,
 ((Says C 19 [(D.agg [(dI x0), (dI x1), D.nil]), (D.agg [(Dw n3 2 l3), D.nil]), D.nil] [(D.sl (n9) 1 (cs1))]) ∧
 (bcase (dL n9 1 cs1)
 (((Says C 18 [D.nil, (Dw n9 1 cs1)] kT) ∧
 (k kT)) ∨
 ((Says C 18 [D.nil, (Dw n9 1 cs1)] kF) ∧
 (k kF)))
 False)))))
 False)
 (k kF))) ∨
 ((Says C 16 [D.nil, D.nil] kF) ∧
 (k kF)))) ∨
 (∃ n9 : Nat,
 (∃ cs1 : List Go.Value,
 ((Says C 17 [(D.agg [(dI x0), (dI x1), D.nil]), (D.agg [(Dw n3 2 l3), D.nil]), D.nil] [(D.sl (n9) 2 (cs1))]) ∧
 (bcase (dL n9 2 cs1)
 (((Says C 16 [D.nil, (Dw n9 2 cs1)] kT) ∧
 (bcase (n5 == 0)
 (bcase (dL n3 2 l3)
 (((Says C 19 [(D.agg [(dI x0), (dI x1), D.nil]), (D.agg [(Dw n3 2 l3), D.nil]), D.nil] [D.nil]) ∧
 (((Says C 18 [D.nil, D.nil] kT) ∧
 (k kT)) ∨
 ((Says C 18 [D.nil, D.nil] kF) ∧
 (k kF)))) ∨
 (∃ n10 : Nat,
 (∃ cs2 : List Go.Value,
 ((Says C 19 [(D.agg [(dI x0), (dI x1), D.nil]), (D.agg [(Dw n3 2 l3), D.nil]), D.nil] [(D.sl (n10) 1 (cs2))]) ∧
 (bcase (dL n10 1 cs2)
 (((Says C 18 [D.nil, (Dw n10 1 cs2)] kT) ∧
 (k kT)) ∨
 ((Says C 18 [D.nil, (Dw n10 1 cs2)] kF) ∧
 (k kF)))
 False)))))
 False)
 (k kF))) ∨
 ((Says C 16 [D.nil, (Dw n9 2 cs1)] kF) ∧
 (k kF)))
 False)))))
 False)
 (k kF))))))
 False))))))
 False)))))) ∨
 (∃ n5 : Nat,
 (∃ cs1 : List Go.Value,
 (∃ n6 : Int,
 ((Says C 12 [(D.agg [(dI x0), (dI x1), (D.sl 0 3 [])]), (D.agg [(Dw n3 2 (Tk n3 2 l3)), (D.sl 0 2 [])]), (D.sl 0 1 [])] [(D.sl (n5) 1 (cs1)), (dI n6)]) ∧
 (((Qv (vI n6)) ∧
 ((Qv (Sl 1015 (n5) (n5))) ∧
 ((Qv (Go.Value.tuple [(Sl 1015 (n5) (n5)), (vI n6)].toArray)) ∧
 True))) ∧
 (((Qv (vI n6)) ∧
 True) ∧
 (True ∧
 (bcase (dL n3 2 l3)
 (∃ n7 : Int,
 (∃ n8 : Int,
 ((Says C 13 [(D.agg [(Dw n3 2 l3), D.nil])] [(dI n7), (dI n8)]) ∧
 (bcase (n2 != n8)
 (k kF)
 (bcase (n1 != n7)
 (k kF)
 (bcase (dL n3 2 l3)
 (∃ n9 : Int,
 ((Says C 14 [(D.agg [(dI x0), (dI x1), D.nil]), (D.agg [(Dw n3 2 l3), D.nil])] [(dI n9)]) ∧
 (bcase (n9 == 0)
 (bcase (dL n3 2 l3)
 (∃ n10 : Int,
 ((Says C 15 [(D.agg [(dI x0), (dI x1), D.nil]), (D.agg [(Dw n3 2 l3), D.nil]), D.nil] [(dI n10)]) ∧
 (bcase (n10 != 0)
 (bcase (n4 == n10)
 (bcase (n6 == n10)
 (bcase ((↑n5 : Int) == 0)
 (k kT)
 (k kF))
 (k kF))
 (k kF))
 (bcase (n4 == 0)
 (bcase (dL n3 2 l3)
 (((Says C 17 [(D.agg [(dI x0), (dI x1), D.nil]), (D.agg [(Dw n3 2 l3), D.nil]), D.nil] [D.nil]) ∧
 (((Says C 16 [D.nil, D.nil] kT) ∧
 (bcase (n6 == 0)
 (bcase (dL n3 2 l3)
 (((Says C 19 [(D.agg [(dI x0), (dI x1), D.nil]), (D.agg [(Dw n3 2 l3), D.nil]), D.nil] [D.nil]) ∧
 (bcase (dL n5 1 cs1)
 (((Says C 18 [(Dw n5 1 cs1), D.nil] kT) ∧
 (k kT)) ∨
 ((Says C 18 [(Dw n5 1 cs1), D.nil] kF) ∧
 (k kF)))
 False)) ∨
 (∃ n11 : Nat,
 (∃ cs2 : List Go.Value,
 ((Says C 19 [(D.agg [(dI x0), (dI x1), D.nil]), (D.agg [(Dw n3 2 l3), D.nil]), D.nil] [(D.sl (n11) 1 (cs2))]) ∧
 (bcase (dL n5 1 cs1)
 (bcase (dL n11 1 cs2)
 (((Says C 18 [(Dw n5 1 cs1), (Dw n11 1 cs2)] kT) ∧
 (k kT)) ∨
 ((Says C 18 [(Dw n5 1 cs1), (Dw n11 1 cs2)] kF) ∧
 (k kF)))
 False)
 False)))))
 False)
 (k kF))) ∨
 ((Says C 16 [D.nil, D.nil] kF) ∧
 (k kF)))) ∨
 (∃ n11 : Nat,
 (∃ cs2 : List Go.Value,
 ((Says C 17 [(D.agg [(dI x0), (dI x1), D.nil]), (D.agg [(Dw n3 2 l3), D.nil]), D.nil] [(D.sl (n11) 2 (cs2))]) ∧
 (bcase (dL n11 2 cs2)
 (((Says C 16 [D.nil, (Dw n11 2 cs2)] kT) ∧
 (bcase (n6 == 0)
 (bcase (dL n3 2 l3)
 (((Says C 19 [(D.agg [(dI x0), (dI x1), D.nil]), (D.agg [(Dw n3 2 l3), D.nil]), D.nil] [D.nil]) ∧
 (bcase (dL n5 1 cs1)
 (((Says C 18 [(Dw n5 1 cs1), D.nil] kT) ∧
 (k kT)) ∨
 ((Says C 18 [(Dw n5 1 cs1), D.nil] kF) ∧
 (k kF)))
 False)) ∨
 (∃ n12 : Nat,
 (∃ cs3 : List Go.Value,
 ((Says C 19 [(D.agg [(dI x0), (dI x1), D.nil]), (D.agg [(Dw n3 2 l3), D.nil]), D.nil] [(D.sl (n12) 1 (cs3))]) ∧
 (bcase (dL n5 1 cs1)
 (bcase (dL n12 1 cs3)
 (((Says C 18 [(Dw n5 1 cs1), (Dw n12 1 cs3)] kT) ∧
 (k kT)) ∨
 ((Says C 18 [(Dw n5 1 cs1), (Dw n12 1 cs3)] kF) ∧
 (k kF)))
 False)
 False)))))
 False)
 (k kF))) ∨
 ((Says C 16 [D.nil, (Dw n11 2 cs2)] kF) ∧
 (k kF)))
 False)))))
 False)
 (k kF)))))
 False)
 (bcase (n9 != 0)
 (bcase (n4 == n9)
 (bcase (n6 == n9)
 (bcase ((↑n5 : Int) == 0)
 (k kT)
 (k kF))
 (k kF))
 (k kF))
 (bcase (n4 == 0)
 (bcase (dL n3 2 l3)
 (((Says C 17 [(D.agg [(dI x0), (dI x1), D.nil]), (D.agg [(Dw n3 2 l3), D.nil]), D.nil] [D.nil]) ∧
 (((Says C 16 [D.nil, D.nil] kT) ∧
 (bcase (n6 == 0)
 (bcase (dL n3 2 l3)
 (((Says C 19 [(D.agg [(dI x0), (dI x1), D.nil]), (D.agg [(Dw n3 2 l3), D.nil]), D.nil] [D.nil]) ∧
 (bcase (dL n5 1 cs1)
 (((Says C 18 [(Dw n5 1 cs1), D.nil] kT) ∧
 (k kT)) ∨
 ((Says C 18 [(Dw n5 1 cs1), D.nil] kF) ∧
 (k kF)))
 False)) ∨
 (∃ n10 : Nat,
 (∃ cs2 : List Go.Value,
 ((Says C 19 [(D.agg [(dI x0), (dI x1), D.nil]), (D.agg [(Dw n3 2 l3), D.nil]), D.nil] [(D.sl (n10) 1 (cs2))]) ∧
 (bcase (dL n5 1 cs1)
 (bcase (dL n10 1 cs2)
 (((Says C 18 [(Dw n5 1 cs1), (Dw n10 1 cs2)] kT) ∧
 (k kT)) ∨
 ((Says C 18 [(Dw n5 1 cs1), (Dw n10 1 cs2)] kF) ∧
 (k kF)))
 False)
 False)))))
 False)
 (k kF))) ∨
 ((Says C 16 [D.nil, D.nil] kF) ∧
 (k kF)))) ∨
 (∃ n10 : Nat,
 (∃ cs2 : List Go.Value,
 ((Says C 17 [(D.agg [(dI x0), (dI x1), D.nil]), (D.agg [(Dw n3 2 l3), D.nil]), D.nil] [(D.sl (n10) 2 (cs2))]) ∧
 (bcase (dL n10 2 cs2)
 (((Says C 16 [D.nil, (Dw n10 2 cs2)] kT) ∧
 (bcase (n6 == 0)
 (bcase (dL n3 2 l3)
 (((Says C 19 [(D.agg [(dI x0), (dI x1), D.nil]), (D.agg [(Dw n3 2 l3), D.nil]), D.nil] [D.nil]) ∧
 (bcase (dL n5 1 cs1)
 (((Says C 18 [(Dw n5 1 cs1), D.nil] kT) ∧
 (k kT)) ∨
 ((Says C 18 [(Dw n5 1 cs1), D.nil] kF) ∧
 (k kF)))
 False)) ∨
 (∃ n11 : Nat,
 (∃ cs3 : List Go.Value,
 ((Says C 19 [(D.agg [(dI x0), (dI x1), D.nil]), (D.agg [(Dw n3 2 l3), D.nil]), D.nil] [(D.sl (n11) 1 (cs3))]) ∧
 (bcase (dL n5 1 cs1)
 (bcase (dL n11 1 cs3)
 (((Says C 18 [(Dw n5 1 cs1), (Dw n11 1 cs3)] kT) ∧
 (k kT)) ∨
 ((Says C 18 [(Dw n5 1 cs1), (Dw n11 1 cs3)] kF) ∧
 (k kF)))
 False)
 False)))))
 False)
 (k kF))) ∨
 ((Says C 16 [D.nil, (Dw n10 2 cs2)] kF) ∧
 (k kF)))
 False)))))
 False)
 (k kF))))))
 False))))))
 False)))))))))
 False)))))
 False))))))))) ∨
 (∃ n4 : Nat,
 (∃ cs1 : List Go.Value,
 (∃ n5 : Int,
 ((Says C 9 [(D.agg [(dI x0), (dI x1), (D.sl 0 3 [])]), (D.agg [(Dw n3 2 (Tk n3 2 l3)), (D.sl 0 2 [])]), (D.sl 0 1 [])] [(D.sl (n4) 2 (cs1)), (dI n5)]) ∧
 (((Qv (vI n5)) ∧
 ((Qv (Sl 1011 (n4) (n4))) ∧
 ((Qv (Go.Value.tuple [(Sl 1011 (n4) (n4)), (vI n5)].toArray)) ∧
 True))) ∧
 (((Qv (vI n5)) ∧
 True) ∧
 (True ∧
 (((Qv (Go.Value.slice Option.none 0 0)) ∧
 ((Qv (Go.Value.agg [(Sl 500 (n3) (c3)), (Go.Value.slice Option.none 0 0)].toArray)) ∧
 ((Qv (Go.Value.agg [(vI x0), (vI x1), (Go.Value.slice Option.none 0 0)].toArray)) ∧
 True))) ∧
 ((Says C 10 [(D.agg [(dI x0), (dI x1), D.nil])] [(D.agg [(dI x0), (dI x1), (D.sl 0 3 [])])]) ∧
 (((Qv (Go.Value.slice Option.none 0 0)) ∧
 ((Qv (Go.Value.agg [(Sl 500 (n3) (c3)), (Go.Value.slice Option.none 0 0)].toArray)) ∧
 True)) ∧
 (bcase (dL n3 2 l3)
 ((Says C 8 [(D.agg [(Dw n3 2 l3), D.nil])] [(D.agg [(Dw n3 2 l3), (D.sl 0 2 [])])]) ∧
 (((Qv (Go.Value.slice Option.none 0 0)) ∧
 True) ∧
 ((Says C 11 [D.nil] [(D.sl 0 1 [])]) ∧
 (True ∧
 (bcase (dL n3 2 (Tk n3 2 l3))
 ((∃ n6 : Int,
 ((Says C 12 [(D.agg [(dI x0), (dI x1), (D.sl 0 3 [])]), (D.agg [(Dw n3 2 (Tk n3 2 l3)), (D.sl 0 2 [])]), (D.sl 0 1 [])] [D.nil, (dI n6)]) ∧
 (((Qv (vI n6)) ∧
 ((Qv (Go.Value.slice Option.none 0 0)) ∧
 ((Qv (Go.Value.tuple [(Go.Value.slice Option.none 0 0), (vI n6)].toArray)) ∧
 True))) ∧
 (((Qv (vI n6)) ∧
 True) ∧
 (True ∧
 (bcase (dL n3 2 l3)
 (∃ n7 : Int,
 (∃ n8 : Int,
 ((Says C 13 [(D.agg [(Dw n3 2 l3), D.nil])] [(dI n7), (dI n8)]) ∧
 (bcase (n2 != n8)
 (k kF)
 (bcase (n1 != n7)
 (k kF)
 (bcase (dL n3 2 l3)
 (∃ n9 : Int,
 ((Says C 14 [(D.agg [(dI x0), (dI x1), D.nil]), (D.agg [(Dw n3 2 l3), D.nil])] [(dI n9)]) ∧
 (bcase (n9 == 0)
 (bcase (dL n3 2 l3)
 (∃ n10 : Int,
 ((Says C 15 [(D.agg [(dI x0), (dI x1), D.nil]), (D.agg [(Dw n3 2 l3), D.nil]), D.nil] [(dI n10)]) ∧
 (bcase (n10 != 0)
 (bcase (n5 == n10)
 (bcase (n6 == n10)
 (bcase ((↑n4 : Int) == 0)
 (k kT)
 (k kF))
 (k kF))
 (k kF))
 (bcase (n5 == 0)
 (bcase (dL n3 2 l3)
 (((Says C 17 [(D.agg [(dI x0), (dI x1), D.nil]), (D.agg [(Dw n3 2 l3), D.nil]), D.nil] [D.nil]) ∧
 (bcase (dL n4 2 cs1)
 (((Says C 16 [(Dw n4 2 cs1), D.nil] kT) ∧
 (bcase (n6 == 0)
 (bcase (dL n3 2 l3)
 (((Says C 19 [(D.agg [(dI x0), (dI x1), D.nil]), (D.agg [(Dw n3 2 l3), D.nil]), D.nil] [D.nil]) ∧
 (((Says C 18 [D.nil, D.nil] kT) ∧
 (k kT)) ∨
 ((Says C 18 [D.nil, D.nil] kF) ∧
 (k kF)))) ∨
 (∃ n11 : Nat,
 (∃ cs2 : List Go.Value,
 ((Says C 19 [(D.agg [(dI x0), (dI x1), D.nil]), (D.agg [(Dw n3 2 l3), D.nil]), D.nil] [(D.sl (n11) 1 (cs2))]) ∧
 (bcase (dL n11 1 cs2)
 (((Says C 18 [D.nil, (Dw n11 1 cs2)] kT) ∧
 (k kT)) ∨
 ((Says C 18 [D.nil, (Dw n11 1 cs2)] kF) ∧
 (k kF)))
 False)))))
 False)
 (k kF))) ∨
 ((Says C 16 [(Dw n4 2 cs1), D.nil] kF) ∧
 (k kF)))
 False)) ∨
 (∃ n11 : Nat,
 (∃ cs2 : List Go.Value,
 ((Says C 17 [(D.agg [(dI x0), (dI x1), D.nil]), (D.agg [(Dw n3 2 l3), D.nil]), D.nil] [(D.sl (n11) 2 (cs2))]) ∧
 (bcase (dL n4 2 cs1)
 (bcase (dL n11 2 cs2)
 (((Says C 16 [(Dw n4 2 cs1), (Dw n11 2 cs2)] kT) ∧
 (bcase (n6 == 0)
 (bcase (dL n3 2 l3)
 (((Says C 19 [(D.agg [(dI x0), (dI x1), D.nil]), (D.agg [(Dw n3 2 l3), D.nil]), D.nil] [D.nil]) ∧
 (((Says C 18 [D.nil, D.nil] kT) ∧
 (k kT)) ∨
 ((Says C 18 [D.nil, D.nil] kF) ∧
 (k kF)))) ∨
 (∃ n12 : Nat,
 (∃ cs3 : List Go.Value,
 ((Says C 19 [(D.agg [(dI x0), (dI x1), D.nil]), (D.agg [(Dw n3 2 l3), D.nil]), D.nil] [(D.sl (n12) 1 (cs3))]) ∧
 (bcase (dL n12 1 cs3)
 (((Says C 18 [D.nil, (Dw n12 1 cs3)] kT) ∧
 (k kT)) ∨
 ((Says C 18 [D.nil, (Dw n12 1 cs3)] kF) ∧
 (k kF)))
 False)))))
 False)
 (k kF))) ∨
 ((Says C 16 [(Dw n4 2 cs1), (Dw n11 2 cs2)] kF) ∧
 (k kF)))
 False)
 False)))))
 False)
 (k kF)))))
 False)
 (bcase (n9 != 0)
 (bcase (n5 == n9)
 (bcase (n6 == n9)
 (bcase ((↑n4 : Int) == 0)
 (k kT)
 (k kF))
 (k kF))
 (k kF))
 (bcase (n5 == 0)
 (bcase (dL n3 2 l3)
 (((Says C 17 [(D.agg [(dI x0), (dI x1), D.nil]), (D.agg [(Dw n3 2 l3), D.nil]), D.nil] [D.nil]) ∧
 (bcase (dL n4 2 cs1)
 (((Says C 16 [(Dw n4 2 cs1), D.nil] kT) ∧
 (bcase (n6 == 0)
 (bcase (dL n3 2 l3)
 (((Says C 19 [(D.agg [(dI x0), (dI x1), D.nil]), (D.agg [(Dw n3 2 l3), D.nil]), D.nil] [D.nil]) ∧
 (((Says C 18 [D.nil, D.nil] kT) ∧
 (k kT)) ∨
 ((Says C 18 [D.nil, D.nil] kF) ∧
 (k kF)))) ∨
 (∃ n10 : Nat,
 (∃ cs2 : List Go.Value,
 ((Says C 19 [(D.agg [(dI x0), (dI x1), D.nil]), (D.agg [(Dw n3 2 l3), D.nil]), D.nil] [(D.sl (n10) 1 (cs2))]) ∧
 (bcase (dL n10 1 cs2)
 (((Says C 18 [D.nil, (Dw n10 1 cs2)] kT) ∧
 (k kT)) ∨
 ((Says C 18 [D.nil, (Dw n10 1 cs2)] kF) ∧
 (k kF)))
 False)))))
 False)
 (k kF))) ∨
 ((Says C 16 [(Dw n4 2 cs1), D.nil] kF) ∧
 (k kF)))
 False)) ∨
 (∃ n10 : Nat,
 (∃ cs2 : List Go.Value,
 ((Says C 17 [(D.agg [(dI x0), (dI x1), D.nil]), (D.agg [(Dw n3 2 l3), D.nil]), D.nil] [(D.sl (n10) 2 (cs2))]) ∧
 (bcase (dL n4 2 cs1)
 (bcase (dL n10 2 cs2)
 (((Says C 16 [(Dw n4 2 cs1), (Dw n10 2 cs2)] kT) ∧
 (bcase (n6 == 0)
 (bcase (dL n3 2 l3)
 (((Says C 19 [(D.agg [(dI x0), (dI x1), D.nil]), (D.agg [(Dw n3 2 l3), D.nil]), D.nil] [D.nil]) ∧
 (((Says C 18 [D.nil, D.nil] kT) ∧
 (k kT)) ∨
 ((Says C 18 [D.nil, D.nil] kF) ∧
 (k kF)))) ∨
 (∃ n11 : Nat,
 (∃ cs3 : List Go.Value,
 ((Says C 19 [(D.agg [(dI x0), (dI x1), D.nil]), (D.agg [(Dw n3 2 l3), D.nil]), D.nil] [(D.sl (n11) 1 (cs3))]) ∧
 (bcase (dL n11 1 cs3)
 (((Says C 18 [D.nil, (Dw n11 1 cs3)] kT) ∧
 (k kT)) ∨
 ((Says C 18 [D.nil, (Dw n11 1 cs3)] kF) ∧
 (k kF)))
 False)))))
 False)
 (k kF))) ∨
 ((Says C 16 [(Dw n4 2 cs1), (Dw n10 2 cs2)] kF) ∧
 (k kF)))
 False)
 False)))))
 False)
 (k kF))))))
 False))))))
 False)))))) ∨
 (∃ n6 : Nat,
 (∃ cs2 : List Go.Value,
 (∃ n7 : Int,
 ((Says C 12 [(D.agg [(dI x0), (dI x1), (D.sl 0 3 [])]), (D.agg [(Dw n3 2 (Tk n3 2 l3)), (D.sl 0 2 [])]), (D.sl 0 1 [])] [(D.sl (n6) 1 (cs2)), (dI n7)]) ∧
 (((Qv (vI n7)) ∧
 ((Qv (Sl 1016 (n6) (n6))) ∧
 ((Qv (Go.Value.tuple [(Sl 1016 (n6) (n6)), (vI n7)].toArray)) ∧
 True))) ∧
 (((Qv (vI n7)) ∧
 True) ∧
 (True ∧
 (bcase (dL n3 2 l3)
 (∃ n8 : Int,
 (∃ n9 : Int,
 ((Says C 13 [(D.agg [(Dw n3 2 l3), D.nil])] [(dI n8), (dI n9)]) ∧
 (bcase (n2 != n9)
 (k kF)
 (bcase (n1 != n8)
 (k kF)
 (bcase (dL n3 2 l3)
 (∃ n10 : Int,
 ((Says C 14 [(D.agg [(dI x0), (dI x1), D.nil]), (D.agg [(Dw n3 2 l3), D.nil])] [(dI n10)]) ∧
 (bcase (n10 == 0)
 (bcase (dL n3 2 l3)
 (∃ n11 : Int,
 ((Says C 15 [(D.agg [(dI x0), (dI x1), D.nil]), (D.agg [(Dw n3 2 l3), D.nil]), D.nil] [(dI n11)]) ∧
 (bcase (n11 != 0)
 (bcase (n5 == n11)
 (bcase (n7 == n11)
 (bcase ((↑n4 : Int) == 0)
 (bcase ((↑n6 : Int) == 0)
 (k kT)
 (k kF))
 (k kF))
 (k kF))
 (k kF))
 (bcase (n5 == 0)
 (bcase (dL n3 2 l3)
 (((Says C 17 [(D.agg [(dI x0), (dI x1), D.nil]), (D.agg [(Dw n3 2 l3), D.nil]), D.nil] [D.nil]) ∧
 (bcase (dL n4 2 cs1)
 (((Says C 16 [(Dw n4 2 cs1), D.nil] kT) ∧
 (bcase (n7 == 0)
 (bcase (dL n3 2 l3)
 (((Says C 19 [(D.agg [(dI x0), (dI x1), D.nil]), (D.agg [(Dw n3 2 l3), D.nil]), D.nil] [D.nil]) ∧
 (bcase (dL n6 1 cs2)
 (((Says C 18 [(Dw n6 1 cs2), D.nil] kT) ∧
 (k kT)) ∨
 ((Says C 18 [(Dw n6 1 cs2), D.nil] kF) ∧
 (k kF)))
 False)) ∨
 (∃ n12 : Nat,
 (∃ cs3 : List Go.Value,
 ((Says C 19 [(D.agg [(dI x0), (dI x1), D.nil]), (D.agg [(Dw n3 2 l3), D.nil]), D.nil] [(D.sl (n12) 1 (cs3))]) ∧
 (bcase (dL n6 1 cs2)
 (bcase (dL n12 1 cs3)
 (((Says C 18 [(Dw n6 1 cs2), (Dw n12 1 cs3)] kT) ∧
 (k kT)) ∨
 ((Says C 18 [(Dw n6 1 cs2), (Dw n12 1 cs3)] kF) ∧
 (k kF)))
 False)
 False)))))
 False)
 (k kF))) ∨
 ((Says C 16 [(Dw n4 2 cs1), D.nil] kF) ∧
 (k kF)))
 False)) ∨
 (∃ n12 : Nat,
 (∃ cs3 : List Go.Value,
 ((Says C 17 [(D.agg [(dI x0), (dI x1), D.nil]), (D.agg [(Dw n3 2 l3), D.nil]), D.nil] [(D.sl (n12) 2 (cs3))]) ∧
 (bcase (dL n4 2 cs1)
 (bcase (dL n12 2 cs3)
 (((Says C 16 [(Dw n4 2 cs1), (Dw n12 2 cs3)] kT) ∧
 (bcase (n7 == 0)
 (bcase (dL n3 2 l3)
 (((Says C 19 [(D.agg [(dI x0), (dI x1), D.nil]), (D.agg [(Dw n3 2 l3), D.nil]), D.nil] [D.nil]) ∧
 (bcase (dL n6 1 cs2)
 (((Says C 18 [(Dw n6 1 cs2), D.nil] kT) ∧
 (k kT)) ∨
 ((Says C 18 [(Dw n6 1 cs2), D.nil] kF) ∧
 (k kF)))
 False)) ∨
 (∃ n13 : Nat,
 (∃ cs4 : List Go.Value,
 ((Says C 19 [(D.agg [(dI x0), (dI x1), D.nil]), (D.agg [(Dw n3 2 l3), D.nil]), D.nil] [(D.sl (n13) 1 (cs4))]) ∧
 (bcase (dL n6 1 cs2)
 (bcase (dL n13 1 cs4)
 (((Says C 18 [(Dw n6 1 cs2), (Dw n13 1 cs4)] kT) ∧
 (k kT)) ∨
 ((Says C 18 [(Dw n6 1 cs2), (Dw n13 1 cs4)] kF) ∧
 (k kF)))
 False)
 False)))))
 False)
 (k kF))) ∨
 ((Says C 16 [(Dw n4 2 cs1), (Dw n12 2 cs3)] kF) ∧
 (k kF)))
 False)
 False)))))
 False)
 (k kF)))))
 False)
 (bcase (n10 != 0)
 (bcase (n5 == n10)
 (bcase (n7 == n10)
 (bcase ((↑n4 : Int) == 0)
 (bcase ((↑n6 : Int) == 0)
 (k kT)
 (k kF))
 (k kF))
 (k kF))
 (k kF))
 (bcase (n5 == 0)
 (bcase (dL n3 2 l3)
 (((Says C 17 [(D.agg [(dI x0), (dI x1), D.nil]), (D.agg [(Dw n3 2 l3), D.nil]), D.nil] [D.nil]) ∧
 (bcase (dL n4 2 cs1)
 (((Says C 16 [(Dw n4 2 cs1), D.nil] kT) ∧
 (bcase (n7 == 0)
 (bcase (dL n3 2 l3)
 (((Says C 19 [(D.agg [(dI x0), (dI x1), D.nil]), (D.agg [(Dw n3 2 l3), D.nil]), D.nil] [D.nil]) ∧
 (bcase (dL n6 1 cs2)
 (((Says C 18 [(Dw n6 1 cs2), D.nil] kT) ∧
 (k kT)) ∨
 ((Says C 18 [(Dw n6 1 cs2), D.nil] kF) ∧
 (k kF)))
 False)) ∨
 (∃ n11 : Nat,
 (∃ cs3 : List Go.Value,
 ((Says C 19 [(D.agg [(dI x0), (dI x1), D.nil]), (D.agg [(Dw n3 2 l3), D.nil]), D.nil] [(D.sl (n11) 1 (cs3))]) ∧
 (bcase (dL n6 1 cs2)
 (bcase (dL n11 1 cs3)
 (((Says C 18 [(Dw n6 1 cs2), (Dw n11 1 cs3)] kT) ∧
 (k kT)) ∨
 ((Says C 18 [(Dw n6 1 cs2), (Dw n11 1 cs3)] kF) ∧
 (k kF)))
 False)
 False)))))
 False)
 (k kF))) ∨
 ((Says C 16 [(Dw n4 2 cs1), D.nil] kF) ∧
 (k kF)))
 False)) ∨
 (∃ n11 : Nat,
 (∃ cs3 : List Go.Value,
 ((Says C 17 [(D.agg [(dI x0), (dI x1), D.nil]), (D.agg [(Dw n3 2 l3), D.nil]), D.nil] [(D.sl (n11) 2 (cs3))]) ∧
 (bcase (dL n4 2 cs1)
 (bcase (dL n11 2 cs3)
 (((Says C 16 [(Dw n4 2 cs1), (Dw n11 2 cs3)] kT) ∧
 (bcase (n7 == 0)
 (bcase (dL n3 2 l3)
 (((Says C 19 [(D.agg [(dI x0), (dI x1), D.nil]), (D.agg [(Dw n3 2 l3), D.nil]), D.nil] [D.nil]) ∧
 (bcase (dL n6 1 cs2)
 (((Says C 18 [(Dw n6 1 cs2), D.nil] kT) ∧
 (k kT)) ∨
 ((Says C 18 [(Dw n6 1 cs2), D.nil] kF) ∧
 (k kF)))
 False)) ∨
 (∃ n12 : Nat,
 (∃ cs4 : List Go.Value,
 ((Says C 19 [(D.agg [(dI x0), (dI x1), D.nil]), (D.agg [(Dw n3 2 l3), D.nil]), D.nil] [(D.sl (n12) 1 (cs4))]) ∧
 (bcase (dL n6 1 cs2)
 (bcase (dL n12 1 cs4)
 (((Says C 18 [(Dw n6 1 cs2), (Dw n12 1 cs4)] kT) ∧
 (k kT)) ∨
 ((Says C 18 [(Dw n6 1 cs2), (Dw n12 1 cs4)] kF) ∧
 (k kF)))
 False)
 False)))))
 False)
 (k kF))) ∨
 ((Says C 16 [(Dw n4 2 cs1), (Dw n11 2 cs3)] kF) ∧
 (k kF)))
 False)
 False)))))
 False)
 (k kF))))))
 False))))))
 False)))))))))
 False)))))
 False))))))))))))
 False)))))
 False)))))))
 False))
 False)
 (k kT))) ∨
 ((Says C 4 [] kF) ∧
 (k kF))) := by kernel_rfl
def gLStc (C : Ct) (L : AtLoop) (x0 : Int) (x1 : Int) (n5 : Nat) (c5 : Nat) (l5 : List Value) (k : List D → Prop) : Prop := wpFn Tryz.prog (hC C) L 0 3 #[.agg #[.int .i64 x0, .int .i64 x1, .slice none 0 0], .agg #[.slice none 0 0, .slice none 0 0], .slice (some ⟨500, 0, none⟩) n5 c5] (heapOf [(500, .sym l5 false 1)]) (dataK k)
theorem gLStc_text (C : Ct) (L : AtLoop) (x0 : Int) (x1 : Int) (n5 : Nat) (c5 : Nat) (l5 : List Go.Value) (k : List D → Prop) : gLStc C L x0 x1 n5 c5 l5 k =
 (((Says C 4 [] kT) ∧
 (bcase (decide ((↑n5 : Int) ≤ 14))
 ((Says C 8 [(D.agg [D.nil, D.nil])] [(D.agg [(D.sl 0 2 []), (D.sl 0 2 [])])]) ∧
 (∃ n1 : Int,
 (∃ n2 : Int,
 ((Says C 7 [(D.agg [(D.sl 0 2 []), (D.sl 0 2 [])])] [(dI n1), (dI n2)]) ∧
 (((Qv (Sl 500 (n5) (c5))) ∧
 ((Qv (Go.Value.agg [(Go.Value.slice Option.none 0 0), (Go.Value.slice Option.none 0 0)].toArray)) ∧
 ((Qv (Go.Value.agg [(vI x0), (vI x1), (Go.Value.slice Option.none 0 0)].toArray)) ∧
 True))) ∧
 ((Says C 10 [(D.agg [(dI x0), (dI x1), D.nil])] [(D.agg [(dI x0), (dI x1), (D.sl 0 3 [])])]) ∧
 (((Qv (Sl 500 (n5) (c5))) ∧
 ((Qv (Go.Value.agg [(Go.Value.slice Option.none 0 0), (Go.Value.slice Option.none 0 0)].toArray)) ∧
 True)) ∧
 ((Says C 8 [(D.agg [D.nil, D.nil])] [(D.agg [(D.sl 0 2 []), (D.sl 0 2 [])])]) ∧
 (((Qv (Sl 500 (n5) (c5))) ∧
 True) ∧
 (bcase (dL n5 1 l5)
 ((Says C 11 [(Dw n5 1 l5)] [(Dw n5 1 l5)]) ∧
 (True ∧
 (bcase (dL n5 1 (Tk n5 1 l5))
 ((∃ n3 : Int,
 ((Says C 9 [(D.agg [(dI x0), (dI x1), (D.sl 0 3 [])]), (D.agg [(D.sl 0 2 []), (D.sl 0 2 [])]), (Dw n5 1 (Tk n5 1 l5))] [D.nil, (dI n3)]) ∧
 (((Qv (vI n3)) ∧
 ((Qv (Go.Value.slice Option.none 0 0)) ∧
 ((Qv (Go.Value.tuple [(Go.Value.slice Option.none 0 0), (vI n3)].toArray)) ∧
 True))) ∧
 (((Qv (vI n3)) ∧
 True) ∧
 (True ∧
 (((Qv (Sl 500 (n5) (c5))) ∧
 ((Qv (Go.Value.agg [(Go.Value.slice Option.none 0 0), (Go.Value.slice Option.none 0 0)].toArray)) ∧
 ((Qv (Go.Value.agg [(vI x0), (vI x1), (Go.Value.slice Option.none 0 0)].toArray)) ∧
 True))) ∧
 ((Says C 10 [(D.agg [(dI x0), (dI x1), D.nil])] [(D.agg [(dI x0), (dI x1), (D.sl 0 3 [])])]) ∧
 (((Qv (Sl 500 (n5) (c5))) ∧
 ((Qv (Go.Value.agg [(Go.Value.slice Option.none 0 0), (Go.Value.slice Option.none 0 0)].toArray)) ∧
 True)) ∧
 ((Says C 8 [(D.agg [D.nil, D.nil])] [(D.agg [(D.sl 0 2 []), (D.sl 0 2 [])])]) ∧
 (((Qv (Sl 500 (n5) (c5))) ∧
 True) ∧
 (bcase (dL n5 1 l5)
 ((Says C 11 [(Dw n5 1 l5)] [(Dw n5 1 l5)]) ∧
 (True ∧
 (bcase (dL n5 1 (Tk n5 1 l5))
 ((∃ n4 : Int,
 ((Says C 12 [(D.agg [(dI x0), (dI x1), (D.sl 0 3 [])]), (D.agg [(D.sl 0 2 []), (D.sl 0 2 [])]), (Dw n5 1 (Tk n5 1 l5))] [D.nil, (dI n4)]) ∧
 (((Qv (vI n4)) ∧
 ((Qv (Go.Value.slice Option.none 0 0)) ∧
 ((Qv (Go.Value.tuple [(Go.Value.slice Option.none 0 0), (vI n4)].toArray)) ∧
 True))) ∧
 (((Qv (vI n4)) ∧
 True) ∧
 (True ∧
 (∃ n6 : Int,
 (∃ n7 : Int,
 ((Says C 13 [(D.agg [D.nil, D.nil])] [(dI n6), (dI n7)]) ∧
 (bcase (n2 != n7)
 (k kF)
 (bcase (n1 != n6)
 (k kF)
 (∃ n8 : Int,
 ((Says C 14 [(D.agg [(dI x0), (dI x1), D.nil]), (D.agg [D.nil, D.nil])] [(dI n8)]) ∧
 (bcase (n8 == 0)
 (bcase (dL n5 1 l5)
 (∃ n9 : Int,
 ((Says C 15 [(D.agg [(dI x0), (dI x1), D.nil]), (D.agg [D.nil, D.nil]), (Dw n5 1 l5)] [(dI n9)]) ∧
 (bcase (n9 != 0)
 (bcase (n3 == n9)
 (bcase (n4 == n9)
 (k kT)
 (k kF))
 (k kF))
 (bcase (n3 == 0)
 (bcase (dL n5 1 l5)
 (((Says C 17 [(D.agg [(dI x0), (dI x1), D.nil]), (D.agg [D.nil, D.nil]), (Dw n5 1 l5)] [D.nil]) ∧
 (((Says C 16 [D.nil, D.nil] kT) ∧
 (bcase (n4 == 0)
 (bcase (dL n5 1 l5)
 (((Says C 19 [(D.agg [(dI x0), (dI x1), D.nil]), (D.agg [D.nil, D.nil]), (Dw n5 1 l5)] [D.nil]) ∧
 (((Says C 18 [D.nil, D.nil] kT) ∧
 (k kT)) ∨
 ((Says C 18 [D.nil, D.nil] kF) ∧
 (k kF)))) ∨
 (∃ n10 : Nat,
 (∃ cs1 : List Go.Value,
 ((Says C 19 [(D.agg [(dI x0), (dI x1), D.nil]), (D.agg [D.nil, D.nil]), (Dw n5 1 l5)] [(D.sl (n10) 1 (cs1))]) ∧
 (bcase (dL n10 1 cs1)
 (((Says C 18 [D.nil, (Dw n10 1 cs1)] kT) ∧
 (k kT)) ∨
 ((Says C 18 [D.nil, (Dw n10 1 cs1)] kF) ∧
 (k kF)))
 False)))))
 False)
 (k kF))) ∨
 ((Says C 16 [D.nil, D.nil] kF) ∧
 (k kF)))) ∨
 (∃ n10 : Nat,
 (∃ cs1 : List Go.Value,
 ((Says C 17 [(D.agg [(dI x0), (dI x1), D.nil]), (D.agg [D.nil, D.nil]), (Dw n5 1 l5)] [(D.sl (n10) 2 (cs1))]) ∧
 (bcase (dL n10 2 cs1)
 (((Says C 16 [D.nil, (Dw n10 2 cs1)] kT) ∧
 (bcase (n4 == 0)
 (bcase (dL n5 1 l5)
 (((Says C 19 [(D.agg [(dI x0), (dI x1), D.nil]), (D.agg [D.nil, D.nil]), (Dw n5 1 l5)] [D.nil]) ∧
 (((Says C 18 [D.nil, D.nil] kT) ∧
 (k kT)) ∨
 ((Says C 18 [D.nil, D.nil] kF) ∧
 (k kF)))) ∨
 (∃ n11 : Nat,
 (∃ cs2 : List Go.Value,
 ((Says C 19 [(D.agg [(dI x0), (dI x1), D.nil]), (D.agg [D.nil, D.nil]), (Dw n5 1 l5)] [(D.sl (n11) 1 (cs2))]) ∧
 (bcase (dL n11 1 cs2)
 (((Says C 18 [D.nil, (Dw n11 1 cs2)] kT) ∧
 (k kT)) ∨
 ((Says C 18 [D.nil, (Dw n11 1 cs2)] kF) ∧
 (k kF)))
 False)))))
 False)
 (k kF))) ∨
 ((Says C 16 [D.nil, (Dw n10 2 cs1)] kF) ∧
 (k kF)))
 False)))))
 False)
 (k kF)))))
 False)
 (bcase (n8 != 0)
 (bcase (n3 == n8)
 (bcase (n4 == n8)
 (k kT)
 (k kF))
 (k kF))
 (bcase (n3 == 0)
 (bcase (dL n5 1 l5)
 (((Says C 17 [(D.agg [(dI x0), (dI x1), D.nil]), (D.agg [D.nil, D.nil]), (Dw n5 1 l5)] [D.nil]) ∧
 (((Says C 16 [D.nil, D.nil] kT) ∧
 (bcase (n4 == 0)
 (bcase (dL n5 1 l5)
 (((Says C 19 [(D.agg [(dI x0), (dI x1), D.nil]), (D.agg [D.nil, D.nil]), (Dw n5 1 l5)] [D.nil]) ∧
 (((Says C 18 [D.nil, D.nil] kT) ∧
 (k kT)) ∨
 ((Says C 18 [D.nil, D.nil] kF) ∧
 (k kF)))) ∨
 (∃ n9 : Nat,
 (∃ cs1 : List Go.Value,
 ((Says C 19 [(D.agg [(dI x0), (dI x1), D.nil]), (D.agg [D.nil, D.nil]), (Dw n5 1 l5)] [(D.sl (n9) 1 (cs1))]) ∧
 (bcase (dL n9 1 cs1)
 (((Says C 18 [D.nil, (Dw n9 1 cs1)] kT) ∧
 (k kT)) ∨
 ((Says C 18 [D.nil, (Dw n9 1 cs1)] kF) ∧
 (k kF)))
 False)))))
 False)
 (k kF))) ∨
 ((Says C 16 [D.nil, D.nil] kF) ∧
 (k kF)))) ∨
 (∃ n9 : Nat,
 (∃ cs1 : List Go.Value,
 ((Says C 17 [(D.agg [(dI x0), (dI x1), D.nil]), (D.agg [D.nil, D.nil]), (Dw n5 1 l5)] [(D.sl (n9) 2 (cs1))]) ∧
 (bcase (dL n9 2 cs1)
 (((Says C 16 [D.nil, (Dw n9 2 cs1)] kT) ∧
 (bcase (n4 == 0)
 (bcase (dL n5 1 l5)
 (((Says C 19 [(D.agg [(dI x0), (dI x1), D.nil]), (D.agg [D.nil, D.nil]), (Dw n5 1 l5)] [D.nil]) ∧
 (((Says C 18 [D.nil, D.nil] kT) ∧
 (k kT)) ∨
 ((Says C 18 [D.nil, D.nil] kF) ∧
 (k kF)))) ∨
 (∃ n10 : Nat,
 (∃ cs2 : List Go.Value,
 ((Says C 19 [(D.agg [(dI x0), (dI x1), D.nil]), (D.agg [D.nil, D.nil]), (Dw n5 1 l5)] [(D.sl (n10) 1 (cs2))]) ∧
 (bcase (dL n10 1 cs2)
 (((Says C 18 [D.nil, (Dw n10 1 cs2)] kT) ∧
 (k kT)) ∨
 ((Says C 18 [D.nil, (Dw n10 1 cs2)] kF) ∧
 (k kF)))
 False)))))
 False)
 (k kF))) ∨
 ((Says C 16 [D.nil, (Dw n9 2 cs1)] kF) ∧
 (k kF)))
 False)))))
 False)
 (k kF)))))))))))))))) ∨
 (∃ n4 : Nat,
 (∃ cs1 : List Go.Value,
 (∃ n6 : Int,
 ((Says C 12 [(D.agg [(dI x0), (dI x1), (D.sl 0 3 [])]), (D.agg [(D.sl 0 2 []), (D.sl 0 2 [])]), (Dw n5 1 (Tk n5 1 l5))] [(D.sl (n4) 1 (cs1)), (dI n6)]) ∧
 (((Qv (vI n6)) ∧
 ((Qv (Sl 1015 (n4) (n4))) ∧
 ((Qv (Go.Value.tuple [(Sl 1015 (n4) (n4)), (vI n6)].toArray)) ∧
 True))) ∧
 (((Qv (vI n6)) ∧
 True) ∧
 (True ∧
 (∃ n7 : Int,
 (∃ n8 : Int,
 ((Says C 13 [(D.agg [D.nil, D.nil])] [(dI n7), (dI n8)]) ∧
 (bcase (n2 != n8)
 (k kF)
 (bcase (n1 != n7)
 (k kF)
 (∃ n9 : Int,
 ((Says C 14 [(D.agg [(dI x0), (dI x1), D.nil]), (D.agg [D.nil, D.nil])] [(dI n9)]) ∧
 (bcase (n9 == 0)
 (bcase (dL n5 1 l5)
 (∃ n10 : Int,
 ((Says C 15 [(D.agg [(dI x0), (dI x1), D.nil]), (D.agg [D.nil, D.nil]), (Dw n5 1 l5)] [(dI n10)]) ∧
 (bcase (n10 != 0)
 (bcase (n3 == n10)
 (bcase (n6 == n10)
 (bcase ((↑n4 : Int) == 0)
 (k kT)
 (k kF))
 (k kF))
 (k kF))
 (bcase (n3 == 0)
 (bcase (dL n5 1 l5)
 (((Says C 17 [(D.agg [(dI x0), (dI x1), D.nil]), (D.agg [D.nil, D.nil]), (Dw n5 1 l5)] [D.nil]) ∧
 (((Says C 16 [D.nil, D.nil] kT) ∧
 (bcase (n6 == 0)
 (bcase (dL n5 1 l5)
 (((Says C 19 [(D.agg [(dI x0), (dI x1), D.nil]), (D.agg [D.nil, D.nil]), (Dw n5 1 l5)] [D.nil]) ∧
 (bcase (dL n4 1 cs1)
 (((Says C 18 [(Dw n4 1 cs1), D.nil] kT) ∧
 (k kT)) ∨
 ((Says C 18 [(Dw n4 1 cs1), D.nil] kF) ∧
 (k kF)))
 False)) ∨
 (∃ n11 : Nat,
 (∃ cs2 : List Go.Value,
 ((Says C 19 [(D.agg [(dI x0), (dI x1), D.nil]), (D.agg [D.nil, D.nil]), (Dw n5 1 l5)] [(D.sl (n11) 1 (cs2))]) ∧
 (bcase (dL n4 1 cs1)
 (bcase (dL n11 1 cs2)
 (((Says C 18 [(Dw n4 1 cs1), (Dw n11 1 cs2)] kT) ∧
 (k kT)) ∨
 ((Says C 18 [(Dw n4 1 cs1), (Dw n11 1 cs2)] kF) ∧
 (k kF)))
 False)
 False)))))
 False)
 (k kF))) ∨
 ((Says C 16 [D.nil, D.nil] kF) ∧
 (k kF)))) ∨
 (∃ n11 : Nat,
 (∃ cs2 : List Go.Value,
 ((Says C 17 [(D.agg [(dI x0), (dI x1), D.nil]), (D.agg [D.nil, D.nil]), (Dw n5 1 l5)] [(D.sl (n11) 2 (cs2))]) ∧
 (bcase (dL n11 2 cs2)
 (((Says C 16 [D.nil, (Dw n11 2 cs2)] kT) ∧
 (bcase (n6 == 0)
 (bcase (dL n5 1 l5)
 (((Says C 19 [(D.agg [(dI x0), (dI x1), D.nil]), (D.agg [D.nil, D.nil]), (Dw n5 1 l5)] [D.nil]) ∧
 (bcase (dL n4 1 cs1)
 (((Says C 18 [(Dw n4 1 cs1), D.nil] kT) ∧
 (k kT)) ∨
 ((Says C 18 [(Dw n4 1 cs1), D.nil] kF) ∧
 (k kF)))
 False)) ∨
 (∃ n12 : Nat,
 (∃ cs3 : List Go.Value,
 ((Says C 19 [(D.agg [(dI x0), (dI x1), D.nil]), (D.agg [D.nil, D.nil]), (Dw n5 1 l5)] [(D.sl (n12) 1 (cs3))]) ∧
 (bcase (dL n4 1 cs1)
 (bcase (dL n12 1 cs3)
 (((Says C 18 [(Dw n4 1 cs1), (Dw n12 1 cs3)] kT) ∧
 (k kT)) ∨
 ((Says C 18 [(Dw n4 1 cs1), (Dw n12 1 cs3)] kF) ∧
 (k kF)))
 False)
 False)))))
 False)
 (k kF))) ∨
 ((Says C 16 [D.nil, (Dw n11 2 cs2)] kF) ∧
 (k kF)))
 False)))))
 False)
 (k kF)))))
 False)
 (bcase (n9 != 0)
 (bcase (n3 == n9)
 (bcase (n6 == n9)
 (bcase ((↑n4 : Int) == 0)
 (k kT)
 (k kF))
 (k kF))
 (k kF))
 (bcase (n3 == 0)
 (bcase (dL n5 1 l5)
 (((Says C 17 [(D.agg [(dI x0), (dI x1), D.nil]), (D.agg [D.nil, D.nil]), (Dw n5 1 l5)] [D.nil]) ∧
 (((Says C 16 [D.nil, D.nil] kT) ∧
 (bcase (n6 == 0)
 (bcase (dL n5 1 l5)
 (((Says C 19 [(D.agg [(dI x0), (dI x1), D.nil]), (D.agg [D.nil, D.nil]), (Dw n5 1 l5)] [D.nil]) ∧
 (bcase (dL n4 1 cs1)
 (((Says C 18 [(Dw n4 1 cs1), D.nil] kT) ∧
 (k kT)) ∨
 ((Says C 18 [(Dw n4 1 cs1), D.nil] kF) ∧
 (k kF)))
 False)) ∨
 (∃ n10 : Nat,
 (∃ cs2 : List Go.Value,
 ((Says C 19 [(D.agg [(dI x0), (dI x1), D.nil]), (D.agg [D.nil, D.nil]), (Dw n5 1 l5)] [(D.sl (n10) 1 (cs2))]) ∧
 (bcase (dL n4 1 cs1)
 (bcase (dL n10 1 cs2)
 (((Says C 18 [(Dw n4 1 cs1), (Dw n10 1 cs2)] kT) ∧
 (k kT)) ∨
 ((Says C 18 [(Dw n4 1 cs1), (Dw n10 1 cs2)] kF) ∧
 (k kF)))
 False)
 False)))))
 False)
 (k kF))) ∨
 ((Says C 16 [D.nil, D.nil] kF) ∧
 (k kF)))) ∨
 (∃ n10 : Nat,
 (∃ cs2 : List Go.Value,
 ((Says C 17 [(D.agg [(dI x0), (dI x1), D.nil]), (D.agg [D.nil, D.nil]), (Dw n5 1 l5)] [(D.sl (n10) 2 (cs2))]) ∧
 (bcase (dL n10 2 cs2)
 (((Says C 16 [D.nil, (Dw n10 2 cs2)] kT) ∧
 (bcase (n6 == 0)
 (bcase (dL n5 1 l5)
 (((Says C 19 [(D.agg [(dI x0), (dI x1), D.nil]), (D.agg [D.nil, D.nil]), (Dw n5 1 l5)] [D.nil]) ∧
 (bcase (dL n4 1 cs1)
 (((Says C 18 [(Dw n4 1 cs1), D.nil] kT) ∧
 (k kT)) ∨
 ((Says C 18 [(Dw n4 1 cs1), D.nil] kF) ∧
 (k kF)))
 False)) ∨
 (∃ n11 : Nat,
 (∃ cs3 : List Go.Value,
 ((Says C 19 [(D.agg [(dI x0), (dI x1), D.nil]), (D.agg [D.nil, D.nil]), (Dw n5 1 l5)] [(D.sl (n11) 1 (cs3))]) ∧
 (bcase (dL n4 1 cs1)
 (bcase (dL n11 1 cs3)
 (((Says C 18 [(Dw n4 1 cs1), (Dw n11 1 cs3)] kT) ∧
 (k kT)) ∨
 ((Says C 18 [(Dw n4 1 cs1), (Dw n11 1 cs3)] kF) ∧
 (k kF)))
 False)
 False)))))
 False)
 (k kF))) ∨
 ((Says C 16 [D.nil, (Dw n10 2 cs2)] kF) ∧
 (k kF)))
 False)))))
 False)
 (k kF)))))))))))))))))))
 False)))
 False))))))))))) ∨
 (∃ n3 : Nat,
 (∃ cs1 : List Go.Value,
 (∃ n4 : Int,
 ((Says C 9 [(D.agg [(dI x0), (dI x1), (D.sl 0 3 [])]), (D.agg [(D.sl 0 2 []), (D.sl 0 2 [])]), (Dw n5 1 (Tk n5 1 l5))] [(D.sl (n3) 2 (cs1)), (dI n4)]) ∧
 (((Qv (vI n4)) ∧
 ((Qv (Sl 1011 (n3) (n3))) ∧
 ((Qv (Go.Value.tuple [(Sl 1011 (n3) (n3)), (vI n4)].toArray)) ∧
 True))) ∧
 (((Qv (vI n4)) ∧
 True) ∧
 (True ∧
 (((Qv (Sl 500 (n5) (c5))) ∧
 ((Qv (Go.Value.agg [(Go.Value.slice Option.none 0 0), (Go.Value.slice Option.none 0 0)].toArray)) ∧
 ((Qv (Go.Value.agg [(vI x0), (vI x1), (Go.Value.slice Option.none 0 0)].toArray)) ∧
 True))) ∧
 ((Says C 10 [(D.agg [(dI x0), (dI x1), D.nil])] [(D.agg [(dI x0), (dI x1), (D.sl 0 3 [])])]) ∧
 (((Qv (Sl 500 (n5) (c5))) ∧
 ((Qv (Go.Value.agg [(Go.Value.slice Option.none 0 0), (Go.Value.slice Option.none 0 0)].toArray)) ∧
 True)) ∧
 ((Says C 8 [(D.agg [D.nil, D.nil])] [(D.agg [(D.sl 0 2 []), (D.sl 0 2 [])])]) ∧
 (((Qv (Sl 500 (n5) (c5))) ∧
 True) ∧
 (bcase (dL n5 1 l5)
 ((Says C 11 [(Dw n5 1 l5)] [(Dw n5 1 l5)]) ∧
 (True ∧
 (bcase (dL n5 1 (Tk n5 1 l5))
 ((∃ n6 : Int,
 ((Says C 12 [(D.agg [(dI x0), (dI x1), (D.sl 0 3 [])]), (D.agg [(D.sl 0 2 []), (D.sl 0 2 [])]), (Dw n5 1 (Tk n5 1 l5))] [D.nil, (dI n6)]) ∧
 (((Qv (vI n6)) ∧
 ((Qv (Go.Value.slice Option.none 0 0)) ∧
 ((Qv (Go.Value.tuple [(Go.Value.slice Option.none 0 0), (vI n6)].toArray)) ∧
 True))) ∧
 (((Qv (vI n6)) ∧
 True) ∧
 (True ∧
 (∃ n7 : Int,
 (∃ n8 : Int,
 ((Says C 13 [(D.agg [D.nil, D.nil])] [(dI n7), (dI n8)]) ∧
 (bcase (n2 != n8)
 (k kF)
 (bcase (n1 != n7)
 (k kF)
 (∃ n9 : Int,
 ((Says C 14 [(D.agg [(dI x0), (dI x1), D.nil]), (D.agg [D.nil, D.nil])] [(dI n9)]) ∧
 (bcase (n9 == 0)
 (bcase (dL n5 1 l5)
 (∃ n10 : Int,
 ((Says C 15 [(D.agg [(dI x0), (dI x1), D.nil]), (D.agg [D.nil, D.nil]), (Dw n5 1 l5)] [(dI n10)]) ∧
 (bcase (n10 != 0)
 (bcase (n4 == n10)
 (bcase (n6 == n10)
 (bcase ((↑n3 : Int) == 0)
 (k kT)
 (k kF))
 (k kF))
 (k kF))
 (bcase (n4 == 0)
 (bcase (dL n5 1 l5)
 (((Says C 17 [(D.agg [(dI x0), (dI x1), D.nil]), (D.agg [D.nil, D.nil]), (Dw n5 1 l5)] [D.nil]) ∧
 (bcase (dL n3 2 cs1)
 (((Says C 16 [(Dw n3 2 cs1), D.nil] kT) ∧
 (bcase (n6 == 0)
 (bcase (dL n5 1 l5)
 (((Says C 19 [(D.agg [(dI x0), (dI x1), D.nil]), (D.agg [D.nil, D.nil]), (Dw n5 1 l5)] [D.nil]) ∧
 (((Says C 18 [D.nil, D.nil] kT) ∧
 (k kT)) ∨
 ((Says C 18 [D.nil, D.nil] kF) ∧
 (k kF)))) ∨
 (∃ n11 : Nat,
 (∃ cs2 : List Go.Value,
 ((Says C 19 [(D.agg [(dI x0), (dI x1), D.nil]), (D.agg [D.nil, D.nil]), (Dw n5 1 l5)] [(D.sl (n11) 1 (cs2))]) ∧
 (bcase (dL n11 1 cs2)
 (((Says C 18 [D.nil, (Dw n11 1 cs2)] kT) ∧
 (k kT)) ∨
 ((Says C 18 [D.nil, (Dw n11 1 cs2)] kF) ∧
 (k kF)))
 False)))))
 False)
 (k kF))) ∨
 ((Says C 16 [(Dw n3 2 cs1), D.nil] kF) ∧
 (k kF)))
 False)) ∨
 (∃ n11 : Nat,
 (∃ cs2 : List Go.Value,
 ((Says C 17 [(D.agg [(dI x0), (dI x1), D.nil]), (D.agg [D.nil, D.nil]), (Dw n5 1 l5)] [(D.sl (n11) 2 (cs2))]) ∧
 (bcase (dL n3 2 cs1)
 (bcase (dL n11 2 cs2)
 (((Says C 16 [(Dw n3 2 cs1), (Dw n11 2 cs2)] kT) ∧
 (bcase (n6 == 0)
 (bcase (dL n5 1 l5)
 (((Says C 19 [(D.agg [(dI x0), (dI x1), D.nil]), (D.agg [D.nil, D.nil]), (Dw n5 1 l5)] [D.nil]) ∧
 (((Says C 18 [D.nil, D.nil] kT) ∧
 (k kT)) ∨
 ((Says C 18 [D.nil, D.nil] kF) ∧
 (k kF)))) ∨
 (∃ n12 : Nat,
 (∃ cs3 : List Go.Value,
 ((Says C 19 [(D.agg [(dI x0), (dI x1), D.nil]), (D.agg [D.nil, D.nil]), (Dw n5 1 l5)] [(D.sl (n12) 1 (cs3))]) ∧
 (bcase (dL n12 1 cs3)
 (((Says C 18 [D.nil, (Dw n12 1 cs3)] kT) ∧
 (k kT)) ∨
 ((Says C 18 [D.nil, (Dw n12 1 cs3)] kF) ∧
 (k kF)))
 False)))))
 False)
 (k kF))) ∨
 ((Says C 16 [(Dw n3 2 cs1), (Dw n11 2 cs2)] kF) ∧
 (k kF)))
 False)
 False)))))
 False)
 (k kF)))))
 False)
 (bcase (n9 != 0)
 (bcase (n4 == n9)
 (bcase (n6 == n9)
 (bcase ((↑n3 : Int) == 0)
 (k kT)
 (k kF))
 (k kF))
 (k kF))
 (bcase (n4 == 0)
 (bcase (dL n5 1 l5)
 (((Says C 17 [(D.agg [(dI x0), (dI x1), D.nil]), (D.agg [D.nil, D.nil]), (Dw n5 1 l5)] [D.nil]) ∧
 (bcase (dL n3 2 cs1)
 (((Says C 16 [(Dw n3 2 cs1), D.nil] kT) ∧
 (bcase (n6 == 0)
 (bcase (dL n5 1 l5)
 (((Says C 19 [(D.agg [(dI x0), (dI x1), D.nil]), (D.agg [D.nil, D.nil]), (Dw n5 1 l5)] [D.nil]) ∧
 (((Says C 18 [D.nil, D.nil] kT) ∧
 (k kT)) ∨
 ((Says C 18 [D.nil, D.nil] kF) ∧
 (k kF)))) ∨
 (∃ n10 : Nat,
 (∃ cs2 : List Go.Value,
 ((Says C 19 [(D.agg [(dI x0), (dI x1), D.nil]), (D.agg [D.nil, D.nil]), (Dw n5 1 l5)] [(D.sl (n10) 1 (cs2))]) ∧
 (bcase (dL n10 1 cs2)
 (((Says C 18 [D.nil, (Dw n10 1 cs2)] kT) ∧
 (k kT)) ∨
 ((Says C 18 [D.nil, (Dw n10 1 cs2)] kF) ∧
 (k kF)))
 False)))))
 False)
 (k kF))) ∨
 ((Says C 16 [(Dw n3 2 cs1), D.nil] kF) ∧
 (k kF)))
 False)) ∨
 (∃ n10 : Nat,
 (∃ cs2 : List Go.Value,
 ((Says C 17 [(D.agg [(dI x0), (dI x1), D.nil]), (D.agg [D.nil, D.nil]), (Dw n5 1 l5)] [(D.sl (n10) 2 (cs2))]) ∧
 (bcase (dL n3 2 cs1)
 (bcase (dL n10 2 cs2)
 (((Says C 16 [(Dw n3 2 cs1), (Dw n10 2 cs2)] kT) ∧
 (bcase (n6 == 0)
 (bcase (dL n5 1 l5)
 (((Says C 19 [(D.agg [(dI x0), (dI x1), D.nil]), (D.agg [D.nil, D.nil]), (Dw n5 1 l5)] [D.nil]) ∧
 (((Says C 18 [D.nil, D.nil] kT) ∧
 (k kT)) ∨
 ((Says C 18 [D.nil, D.nil] kF) ∧
 (k kF)))) ∨
 (∃ n11 : Nat,
 (∃ cs3 : List Go.Value,
 ((Says C 19 [(D.agg [(dI x0), (dI x1), D.nil]), (D.agg [D.nil, D.nil]), (Dw n5 1 l5)] [(D.sl (n11) 1 (cs3))]) ∧
 (bcase (dL n11 1 cs3)
 (((Says C 18 [D.nil, (Dw n11 1 cs3)] kT) ∧
 (k kT)) ∨
 ((Says C 18 [D.nil, (Dw n11 1 cs3)] kF) ∧
 (k kF)))
 False)))))
 False)
 (k kF))) ∨
 ((Says C 16 [(Dw n3 2 cs1), (Dw n10 2 cs2)] kF) ∧
 (k kF)))
 False)
 False)))))
 False)
 (k kF)))))))))))))))) ∨
 (∃ n6 : Nat,
 (∃ cs2 : List Go.Value,
 (∃ n7 : Int,
 ((Says C 12 [(D.agg [(dI x0), (dI x1), (D.sl 0 3 [])]), (D.agg [(D.sl 0 2 []), (D.sl 0 2 [])]), (Dw n5 1 (Tk n5 1 l5))] [(D.sl (n6) 1 (cs2)), (dI n7)]) ∧
 (((Qv (vI n7)) ∧
 ((Qv (Sl 1016 (n6) (n6))) ∧
 ((Qv (Go.Value.tuple [(Sl 1016 (n6) (n6)), (vI n7)].toArray)) ∧
 True))) ∧
 (((Qv (vI n7)) ∧
 True) ∧
 (True ∧
 (∃ n8 : Int,
 (∃ n9 : Int,
 ((Says C 13 [(D.agg [D.nil, D.nil])] [(dI n8), (dI n9)]) ∧
 (bcase (n2 != n9)
 (k kF)
 (bcase (n1 != n8)
 (k kF)
 (∃ n10 : Int,
 ((Says C 14 [(D.agg [(dI x0), (dI x1), D.nil]), (D.agg [D.nil, D.nil])] [(dI n10)]) ∧
 (bcase (n10 == 0)
 (bcase (dL n5 1 l5)
 (∃ n11 : Int,
 ((Says C 15 [(D.agg [(dI x0), (dI x1), D.nil]), (D.agg [D.nil, D.nil]), (Dw n5 1 l5)] [(dI n11)]) ∧
 (bcase (n11 != 0)
 (bcase (n4 == n11)
 (bcase (n7 == n11)
 (bcase ((↑n3 : Int) == 0)
 (bcase ((↑n6 : Int) == 0)
 (k kT)
 (k kF))
 (k kF))
 (k kF))
 (k kF))
 (bcase (n4 == 0)
 (bcase (dL n5 1 l5)
 (((Says C 17 [(D.agg [(dI x0), (dI x1), D.nil]), (D.agg [D.nil, D.nil]), (Dw n5 1 l5)] [D.nil]) ∧
 (bcase (dL n3 2 cs1)
 (((Says C 16 [(Dw n3 2 cs1), D.nil] kT) ∧
 (bcase (n7 == 0)
 (bcase (dL n5 1 l5)
 (((Says C 19 [(D.agg [(dI x0), (dI x1), D.nil]), (D.agg [D.nil, D.nil]), (Dw n5 1 l5)] [D.nil]) ∧
 (bcase (dL n6 1 cs2)
 (((Says C 18 [(Dw n6 1 cs2), D.nil] kT) ∧
 (k kT)) ∨
 ((Says C 18 [(Dw n6 1 cs2), D.nil] kF) ∧
 (k kF)))
 False)) ∨
 (∃ n12 : Nat,
 (∃ cs3 : List Go.Value,
 ((Says C 19 [(D.agg [(dI x0), (dI x1), D.nil]), (D.agg [D.nil, D.nil]), (Dw n5 1 l5)] [(D.sl (n12) 1 (cs3))]) ∧
 (bcase (dL n6 1 cs2)
 (bcase (dL n12 1 cs3)
 (((Says C 18 [(Dw n6 1 cs2), (Dw n12 1 cs3)] kT) ∧
 (k kT)) ∨
 ((Says C 18 [(Dw n6 1 cs2), (Dw n12 1 cs3)] kF) ∧
 (k kF)))
 False)
 False)))))
 False)
 (k kF))) ∨
 ((Says C 16 [(Dw n3 2 cs1), D.nil] kF) ∧
 (k kF)))
 False)) ∨
 (∃ n12 : Nat,
 (∃ cs3 : List Go.Value,
 ((Says C 17 [(D.agg [(dI x0), (dI x1), D.nil]), (D.agg [D.nil, D.nil]), (Dw n5 1 l5)] [(D.sl (n12) 2 (cs3))]) ∧
 (bcase (dL n3 2 cs1)
 (bcase (dL n12 2 cs3)
 (((Says C 16 [(Dw n3 2 cs1), (Dw n12 2 cs3)] kT) ∧
 (bcase (n7 == 0)
 (bcase (dL n5 1 l5)
 (((Says C 19 [(D.agg [(dI x0), (dI x1), D.nil]), (D.agg [D.nil, D.nil]), (Dw n5 1 l5)] [D.nil]) ∧
 (bcase (dL n6 1 cs2)
 (((Says C 18 [(Dw n6 1 cs2), D.nil] kT) ∧
 (k kT)) ∨
 ((Says C 18 [(Dw n6 1 cs2), D.nil] kF) ∧
 (k kF)))
 False)) ∨
 (∃ n13 : Nat,
 (∃ cs4 : List Go.Value,
 ((Says C 19 [(D.agg [(dI x0), (dI x1), D.nil]), (D.agg [D.nil, D.nil]), (Dw n5 1 l5)] [(D.sl (n13) 1 (cs4))]) ∧
 (bcase (dL n6 1 cs2)
 (bcase (dL n13 1 cs4)
 (((Says C 18 [(Dw n6 1 cs2), (Dw n13 1 cs4)] kT) ∧
 (k kT)) ∨
 ((Says C 18 [(Dw n6 1 cs2), (Dw n13 1 cs4)] kF) ∧
 (k kF)))
 False)
 False)))))
 False)
 (k kF))) ∨
 ((Says C 16 [(Dw n3 2 cs1), (Dw n12 2 cs3)] kF) ∧
 (k kF)))
 False)
 False)))))
 False)
 (k kF)))))
 False)
 (bcase (n10 != 0)
 (bcase (n4 == n10)
 (bcase (n7 == n10)
 (bcase ((↑n3 : Int) == 0)
 (bcase ((↑n6 : Int) == 0)
 (k kT)
 (k kF))
 (k kF))
 (k kF))
 (k kF))
 (bcase (n4 == 0)
 (bcase (dL n5 1 l5)
 (((Says C 17 [(D.agg [(dI x0), (dI x1), D.nil]), (D.agg [D.nil, D.nil]), (Dw n5 1 l5)] [D.nil]) ∧
 (bcase (dL n3 2 cs1)
 (((Says C 16 [(Dw n3 2 cs1), D.nil] kT) ∧
 (bcase (n7 == 0)
 (bcase (dL n5 1 l5)
 (((Says C 19 [(D.agg [(dI x0), (dI x1), D.nil]), (D.agg [D.nil, D.nil]), (Dw n5 1 l5)] [D.nil]) ∧
 (bcase (dL n6 1 cs2)
 (((Says C 18 [(Dw n6 1 cs2), D.nil] kT) ∧
 (k kT)) ∨
 ((Says C 18 [(Dw n6 1 cs2), D.nil] kF) ∧
 (k kF)))
 False)) ∨
 (∃ n11 : Nat,
 (∃ cs3 : List Go.Value,
 ((Says C 19 [(D.agg [(dI x0), (dI x1), D.nil]), (D.agg [D.nil, D.nil]), (Dw n5 1 l5)] [(D.sl (n11) 1 (cs3))]) ∧
 (bcase (dL n6 1 cs2)
 (bcase (dL n11 1 cs3)
 (((Says C 18 [(Dw n6 1 cs2), (Dw n11 1 cs3)] kT) ∧
 (k kT)) ∨
 ((Says C 18 [(Dw n6 1 cs2), (Dw n11 1 cs3)] kF) ∧
 (k kF)))
 False)
 False)))))
 False)
 (k kF))) ∨
 ((Says C 16 [(Dw n3 2 cs1), D.nil] kF) ∧
 (k kF)))
 False)) ∨
 (∃ n11 : Nat,
 (∃ cs3 : List Go.Value,
 ((Says C 17 [(D.agg [(dI x0), (dI x1), D.nil]), (D.agg [D.nil, D.nil]), (Dw n5 1 l5)] [(D.sl (n11) 2 (cs3))]) ∧
 (bcase (dL n3 2 cs1)
 (bcase (dL n11 2 cs3)
 (((Says C 16 [(Dw n3 2 cs1), (Dw n11 2 cs3)] kT) ∧
 (bcase (n7 == 0)
 (bcase (dL n5 1 l5)
 (((Says C 19 [(D.agg [(dI x0), (dI x1), D.nil]), (D.agg [D.nil, D.nil]), (Dw n5 1 l5)] [D.nil]) ∧
 (bcase (dL n6 1 cs2)
 (((Says C 18 [(Dw n6 1 cs2), D.nil] kT) ∧
 (k kT)) ∨
 ((Says C 18 [(Dw n6 1 cs2), D.nil] kF) ∧
 (k kF)))
 False)) ∨
 (∃ n12 : Nat,
 (∃ cs4 : List Go.Value,
 ((Says C 19 [(D.agg [(dI x0), (dI x1), D.nil]), (D.agg [D.nil, D.nil]), (Dw n5 1 l5)] [(D.sl (n12) 1 (cs4))]) ∧
 (bcase (dL n6 1 cs2)
 (bcase (dL n12 1 cs4)
 (((Says C 18 [(Dw n6 1 cs2), (Dw n12 1 cs4)] kT) ∧
 (k kT)) ∨
 ((Says C 18 [(Dw n6 1 cs2), (Dw n12 1 cs4)] kF) ∧
 (k kF)))
 False)
 False)))))
 False)
 (k kF))) ∨
 ((Says C 16 [(Dw n3 2 cs1), (Dw n11 2 cs3)] kF) ∧
 (k kF)))
 False)
 False)))))
 False)
 (k kF)))))))))))))))))))
 False)))
 False))))))))))))))
 False)))
 False))))))))))
 (k kT))) ∨
 ((Says C 4 [] kF) ∧
 (k kF))) := by kernel_rfl
def gLStcn (C : Ct) (L : AtLoop) (x0 : Int) (x1 : Int) (k : List D → Prop) : Prop := wpFn Tryz.prog (hC C) L 0 3 #[.agg #[.int .i64 x0, .int .i64 x1, .slice none 0 0], .agg #[.slice none 0 0, .slice none 0 0], .slice none 0 0] (heapOf []) (dataK k)
theorem gLStcn_text (C : Ct) (L : AtLoop) (x0 : Int) (x1 : Int) (k : List D → Prop) : gLStcn C L x0 x1 k =
 (((Says C 4 [] kT) ∧
 ((Says C 8 [(D.agg [D.nil, D.nil])] [(D.agg [(D.sl 0 2 []), (D.sl 0 2 [])])]) ∧
 (∃ n1 : Int,
 (∃ n2 : Int,
 ((Says C 7 [(D.agg [(D.sl 0 2 []), (D.sl 0 2 [])])] [(dI n1), (dI n2)]) ∧
 (((Qv (Go.Value.slice Option.none 0 0)) ∧
 ((Qv (Go.Value.agg [(Go.Value.slice Option.none 0 0), (Go.Value.slice Option.none 0 0)].toArray)) ∧
 ((Qv (Go.Value.agg [(vI x0), (vI x1), (Go.Value.slice Option.none 0 0)].toArray)) ∧
 True))) ∧
 ((Says C 10 [(D.agg [(dI x0), (dI x1), D.nil])] [(D.agg [(dI x0), (dI x1), (D.sl 0 3 [])])]) ∧
 (((Qv (Go.Value.slice Option.none 0 0)) ∧
 ((Qv (Go.Value.agg [(Go.Value.slice Option.none 0 0), (Go.Value.slice Option.none 0 0)].toArray)) ∧
 True)) ∧
 ((Says C 8 [(D.agg [D.nil, D.nil])] [(D.agg [(D.sl 0 2 []), (D.sl 0 2 [])])]) ∧
 (((Qv (Go.Value.slice Option.none 0 0)) ∧
 True) ∧
 ((Says C 11 [D.nil] [(D.sl 0 1 [])]) ∧
 (True ∧
 ((∃ n3 : Int,
 ((Says C 9 [(D.agg [(dI x0), (dI x1), (D.sl 0 3 [])]), (D.agg [(D.sl 0 2 []), (D.sl 0 2 [])]), (D.sl 0 1 [])] [D.nil, (dI n3)]) ∧
 (((Qv (vI n3)) ∧
 ((Qv (Go.Value.slice Option.none 0 0)) ∧
 ((Qv (Go.Value.tuple [(Go.Value.slice Option.none 0 0), (vI n3)].toArray)) ∧
 True))) ∧
 (((Qv (vI n3)) ∧
 True) ∧
 (True ∧
 (((Qv (Go.Value.slice Option.none 0 0)) ∧
 ((Qv (Go.Value.agg [(Go.Value.slice Option.none 0 0), (Go.Value.slice Option.none 0 0)].toArray)) ∧
 ((Qv (Go.Value.agg [(vI x0), (vI x1), (Go.Value.slice Option.none 0 0)].toArray)) ∧
 True))) ∧
 ((Says C 10 [(D.agg [(dI x0), (dI x1), D.nil])] [(D.agg [(dI x0), (dI x1), (D.sl 0 3 [])])]) ∧
 (((Qv (Go.Value.slice Option.none 0 0)) ∧
 ((Qv (Go.Value.agg [(Go.Value.slice Option.none 0 0), (Go.Value.slice Option.none 0 0)].toArray)) ∧
 True)) ∧
 ((Says C 8 [(D.agg [D.nil, D.nil])] [(D.agg [(D.sl 0 2 []), (D.sl 0 2 [])])]) ∧
 (((Qv (Go.Value.slice Option.none 0 0)) ∧
 True) ∧
 ((Says C 11 [D.nil] [(D.sl 0 1 [])]) ∧
 (True ∧
 ((∃ n4 : Int,
 ((Says C 12 [(D.agg [(dI x0), (dI x1), (D.sl 0 3 [])]), (D.agg [(D.sl 0 2 []), (D.sl 0 2 [])]), (D.sl 0 1 [])] [D.nil, (dI n4)]) ∧
 (((Qv (vI n4)) ∧
 ((Qv (Go.Value.slice Option.none 0 0)) ∧
 ((Qv (Go.Value.tuple [(Go.Value.slice Option.none 0 0), (vI n4)].toArray)) ∧
 True))) ∧
 (((Qv (vI n4)) ∧
 True) ∧
 (True ∧
 (∃ n5 : Int,
 (∃ n6 : Int,
 ((Says C 13 [(D.agg [D.nil, D.nil])] [(dI n5), (dI n6)]) ∧
 (bcase (n2 != n6)
 (k kF)
 (bcase (n1 != n5)
 (k kF)
 (∃ n7 : Int,
 ((Says C 14 [(D.agg [(dI x0), (dI x1), D.nil]), (D.agg [D.nil, D.nil])] [(dI n7)]) ∧
 (bcase (n7 == 0)
 (∃ n8 : Int,
 ((Says C 15 [(D.agg [(dI x0), (dI x1), D.nil]), (D.agg [D.nil, D.nil]), D.nil] [(dI n8)]) ∧
 (bcase (n8 != 0)
 (bcase (n3 == n8)
 (bcase (n4 == n8)
 (k kT)
 (k kF))
 (k kF))
 (bcase (n3 == 0)
 (((Says C 17 [(D.agg [(dI x0), (dI x1), D.nil]), (D.agg [D.nil, D.nil]), D.nil] [D.nil]) ∧
 (((Says C 16 [D.nil, D.nil] kT) ∧
 (bcase (n4 == 0)
 (((Says C 19 [(D.agg [(dI x0), (dI x1), D.nil]), (D.agg [D.nil, D.nil]), D.nil] [D.nil]) ∧
 (((Says C 18 [D.nil, D.nil] kT) ∧
 (k kT)) ∨
 ((Says C 18 [D.nil, D.nil] kF) ∧
 (k kF)))) ∨
 (∃ n9 : Nat,
 (∃ cs1 : List Go.Value,
 ((Says C 19 [(D.agg [(dI x0), (dI x1), D.nil]), (D.agg [D.nil, D.nil]), D.nil] [(D.sl (n9) 1 (cs1))]) ∧
 (bcase (dL n9 1 cs1)
 (((Says C 18 [D.nil, (Dw n9 1 cs1)] kT) ∧
 (k kT)) ∨
 ((Says C 18 [D.nil, (Dw n9 1 cs1)] kF) ∧
 (k kF)))
 False)))))
 (k kF))) ∨
 ((Says C 16 [D.nil, D.nil] kF) ∧
 (k kF)))) ∨
 (∃ n9 : Nat,
 (∃ cs1 : List Go.Value,
 ((Says C 17 [(D.agg [(dI x0), (dI x1), D.nil]), (D.agg [D.nil, D.nil]), D.nil] [(D.sl (n9) 2 (cs1))]) ∧
 (bcase (dL n9 2 cs1)
 (((Says C 16 [D.nil, (Dw n9 2 cs1)] kT) ∧
 (bcase (n4 == 0)
 (((Says C 19 [(D.agg [(dI x0), (dI x1), D.nil]), (D.agg [D.nil, D.nil]), D.nil] [D.nil]) ∧
 (((Says C 18 [D.nil, D.nil] kT) ∧
 (k kT)) ∨
 ((Says C 18 [D.nil, D.nil] kF) ∧
 (k kF)))) ∨
 (∃ n10 : Nat,
 (∃ cs2 : List Go.Value,
 ((Says C 19 [(D.agg [(dI x0), (dI x1), D.nil]), (D.agg [D.nil, D.nil]), D.nil] [(D.sl (n10) 1 (cs2))]) ∧
 (bcase (dL n10 1 cs2)
 (((Says C 18 [D.nil, (Dw n10 1 cs2)] kT) ∧
 (k kT)) ∨
 ((Says C 18 [D.nil, (Dw n10 1 cs2)] kF) ∧
 (k kF)))
 False)))))
 (k kF))) ∨
 ((Says C 16 [D.nil, (Dw n9 2 cs1)] kF) ∧
 (k kF)))
 False)))))
 (k kF)))))
 (bcase (n7 != 0)
 (bcase (n3 == n7)
 (bcase (n4 == n7)
 (k kT)
 (k kF))
 (k kF))
 (bcase (n3 == 0)
 (((Says C 17 [(D.agg [(dI x0), (dI x1), D.nil]), (D.agg [D.nil, D.nil]), D.nil] [D.nil]) ∧
 (((Says C 16 [D.nil, D.nil] kT) ∧
 (bcase (n4 == 0)
 (((Says C 19 [(D.agg [(dI x0), (dI x1), D.nil]), (D.agg [D.nil, D.nil]), D.nil] [D.nil]) ∧
 (((Says C 18 [D.nil, D.nil] kT) ∧
 (k kT)) ∨
 ((Says C 18 [D.nil, D.nil] kF) ∧
 (k kF)))) ∨
 (∃ n8 : Nat,
 (∃ cs1 : List Go.Value,
 ((Says C 19 [(D.agg [(dI x0), (dI x1), D.nil]), (D.agg [D.nil, D.nil]), D.nil] [(D.sl (n8) 1 (cs1))]) ∧
 (bcase (dL n8 1 cs1)
 (((Says C 18 [D.nil, (Dw n8 1 cs1)] kT) ∧
 (k kT)) ∨
 ((Says C 18 [D.nil, (Dw n8 1 cs1)] kF) ∧
 (k kF)))
 False)))))
 (k kF))) ∨
 ((Says C 16 [D.nil, D.nil] kF) ∧
 (k kF)))) ∨
 (∃ n8 : Nat,
 (∃ cs1 : List Go.Value,
 ((Says C 17 [(D.agg [(dI x0), (dI x1), D.nil]), (D.agg [D.nil, D.nil]), D.nil] [(D.sl (n8) 2 (cs1))]) ∧
 (bcase (dL n8 2 cs1)
 (((Says C 16 [D.nil, (Dw n8 2 cs1)] kT) ∧
 (bcase (n4 == 0)
 (((Says C 19 [(D.agg [(dI x0), (dI x1), D.nil]), (D.agg [D.nil, D.nil]), D.nil] [D.nil]) ∧
 (((Says C 18 [D.nil, D.nil] kT) ∧
 (k kT)) ∨
 ((Says C 18 [D.nil, D.nil] kF) ∧
 (k kF)))) ∨
 (∃ n9 : Nat,
 (∃ cs2 : List Go.Value,
 ((Says C 19 [(D.agg [(dI x0), (dI x1), D.nil]), (D.agg [D.nil, D.nil]), D.nil] [(D.sl (n9) 1 (cs2))]) ∧
 (bcase (dL n9 1 cs2)
 (((Says C 18 [D.nil, (Dw n9 1 cs2)] kT) ∧
 (k kT)) ∨
 ((Says C 18 [D.nil, (Dw n9 1 cs2)] kF) ∧
 (k kF)))
 False)))))
 (k kF))) ∨
 ((Says C 16 [D.nil, (Dw n8 2 cs1)] kF) ∧
 (k kF)))
 False)))))
 (k kF)))))))))))))))) ∨
 (∃ n4 : Nat,
 (∃ cs1 : List Go.Value,
 (∃ n5 : Int,
 ((Says C 12 [(D.agg [(dI x0), (dI x1), (D.sl 0 3 [])]), (D.agg [(D.sl 0 2 []), (D.sl 0 2 [])]), (D.sl 0 1 [])] [(D.sl (n4) 1 (cs1)), (dI n5)]) ∧
 (((Qv (vI n5)) ∧
 ((Qv (Sl 1015 (n4) (n4))) ∧
 ((Qv (Go.Value.tuple [(Sl 1015 (n4) (n4)), (vI n5)].toArray)) ∧
 True))) ∧
 (((Qv (vI n5)) ∧
 True) ∧
 (True ∧
 (∃ n6 : Int,
 (∃ n7 : Int,
 ((Says C 13 [(D.agg [D.nil, D.nil])] [(dI n6), (dI n7)]) ∧
 (bcase (n2 != n7)
 (k kF)
 (bcase (n1 != n6)
 (k kF)
 (∃ n8 : Int,
 ((Says C 14 [(D.agg [(dI x0), (dI x1), D.nil]), (D.agg [D.nil, D.nil])] [(dI n8)]) ∧
 (bcase (n8 == 0)
 (∃ n9 : Int,
 ((Says C 15 [(D.agg [(dI x0), (dI x1), D.nil]), (D.agg [D.nil, D.nil]), D.nil] [(dI n9)]) ∧
 (bcase (n9 != 0)
 (bcase (n3 == n9)
 (bcase (n5 == n9)
 (bcase ((↑n4 : Int) == 0)
 (k kT)
 (k kF))
 (k kF))
 (k kF))
 (bcase (n3 == 0)
 (((Says C 17 [(D.agg [(dI x0), (dI x1), D.nil]), (D.agg [D.nil, D.nil]), D.nil] [D.nil]) ∧
 (((Says C 16 [D.nil, D.nil] kT) ∧
 (bcase (n5 == 0)
 (((Says C 19 [(D.agg [(dI x0), (dI x1), D.nil]), (D.agg [D.nil, D.nil]), D.nil] [D.nil]) ∧
 (bcase (dL n4 1 cs1)
 (((Says C 18 [(Dw n4 1 cs1), D.nil] kT) ∧
 (k kT)) ∨
 ((Says C 18 [(Dw n4 1 cs1), D.nil] kF) ∧
 (k kF)))
 False)) ∨
 (∃ n10 : Nat,
 (∃ cs2 : List Go.Value,
 ((Says C 19 [(D.agg [(dI x0), (dI x1), D.nil]), (D.agg [D.nil, D.nil]), D.nil] [(D.sl (n10) 1 (cs2))]) ∧
 (bcase (dL n4 1 cs1)
 (bcase (dL n10 1 cs2)
 (((Says C 18 [(Dw n4 1 cs1), (Dw n10 1 cs2)] kT) ∧
 (k kT)) ∨
 ((Says C 18 [(Dw n4 1 cs1), (Dw n10 1 cs2)] kF) ∧
 (k kF)))
 False)
 False)))))
 (k kF))) ∨
 ((Says C 16 [D.nil, D.nil] kF) ∧
 (k kF)))) ∨
 (∃ n10 : Nat,
 (∃ cs2 : List Go.Value,
 ((Says C 17 [(D.agg [(dI x0), (dI x1), D.nil]), (D.agg [D.nil, D.nil]), D.nil] [(D.sl (n10) 2 (cs2))]) ∧
 (bcase (dL n10 2 cs2)
 (((Says C 16 [D.nil, (Dw n10 2 cs2)] kT) ∧
 (bcase (n5 == 0)
 (((Says C 19 [(D.agg [(dI x0), (dI x1), D.nil]), (D.agg [D.nil, D.nil]), D.nil] [D.nil]) ∧
 (bcase (dL n4 1 cs1)
 (((Says C 18 [(Dw n4 1 cs1), D.nil] kT) ∧
 (k kT)) ∨
 ((Says C 18 [(Dw n4 1 cs1), D.nil] kF) ∧
 (k kF)))
 False)) ∨
 (∃ n11 : Nat,
 (∃ cs3 : List Go.Value,
 ((Says C 19 [(D.agg [(dI x0), (dI x1), D.nil]), (D.agg [D.nil, D.nil]), D.nil] [(D.sl (n11) 1 (cs3))]) ∧
 (bcase (dL n4 1 cs1)
 (bcase (dL n11 1 cs3)
 (((Says C 18 [(Dw n4 1 cs1), (Dw n11 1 cs3)] kT) ∧
 (k kT)) ∨
 ((Says C 18 [(Dw n4 1 cs1), (Dw n11 1 cs3)] kF) ∧
 (k kF)))
 False)
 False)))))
 (k kF))) ∨
 ((Says C 16 [D.nil, (Dw n10 2 cs2)] kF) ∧
 (k kF)))
 False)))))
 (k kF)))))
 (bcase (n8 != 0)
 (bcase (n3 == n8)
 (bcase (n5 == n8)
 (bcase ((↑n4 : Int) == 0)
 (k kT)
 (k kF))
 (k kF))
 (k kF))
 (bcase (n3 == 0)
 (((Says C 17 [(D.agg [(dI x0), (dI x1), D.nil]), (D.agg [D.nil, D.nil]), D.nil] [D.nil]) ∧
 (((Says C 16 [D.nil, D.nil] kT) ∧
 (bcase (n5 == 0)
 (((Says C 19 [(D.agg [(dI x0), (dI x1), D.nil]), (D.agg [D.nil, D.nil]), D.nil] [D.nil]) ∧
 (bcase (dL n4 1 cs1)
 (((Says C 18 [(Dw n4 1 cs1), D.nil] kT) ∧
 (k kT)) ∨
 ((Says C 18 [(Dw n4 1 cs1), D.nil] kF) ∧
 (k kF)))
 False)) ∨
 (∃ n9 : Nat,
 (∃ cs2 : List Go.Value,
 ((Says C 19 [(D.agg [(dI x0), (dI x1), D.nil]), (D.agg [D.nil, D.nil]), D.nil] [(D.sl (n9) 1 (cs2))]) ∧
 (bcase (dL n4 1 cs1)
 (bcase (dL n9 1 cs2)
 (((Says C 18 [(Dw n4 1 cs1), (Dw n9 1 cs2)] kT) ∧
 (k kT)) ∨
 ((Says C 18 [(Dw n4 1 cs1), (Dw n9 1 cs2)] kF) ∧
 (k kF)))
 False)
 False)))))
 (k kF))) ∨
 ((Says C 16 [D.nil, D.nil] kF) ∧
 (k kF)))) ∨
 (∃ n9 : Nat,
 (∃ cs2 : List Go.Value,
 ((Says C 17 [(D.agg [(dI x0), (dI x1), D.nil]), (D.agg [D.nil, D.nil]), D.nil] [(D.sl (n9) 2 (cs2))]) ∧
 (bcase (dL n9 2 cs2)
 (((Says C 16 [D.nil, (Dw n9 2 cs2)] kT) ∧
 (bcase (n5 == 0)
 (((Says C 19 [(D.agg [(dI x0), (dI x1), D.nil]), (D.agg [D.nil, D.nil]), D.nil] [D.nil]) ∧
 (bcase (dL n4 1 cs1)
 (((Says C 18 [(Dw n4 1 cs1), D.nil] kT) ∧
 (k kT)) ∨
 ((Says C 18 [(Dw n4 1 cs1), D.nil] kF) ∧
 (k kF)))
 False)) ∨
 (∃ n10 : Nat,
 (∃ cs3 : List Go.Value,
 ((Says C 19 [(D.agg [(dI x0), (dI x1), D.nil]), (D.agg [D.nil, D.nil]), D.nil] [(D.sl (n10) 1 (cs3))]) ∧
 (bcase (dL n4 1 cs1)
 (bcase (dL n10 1 cs3)
 (((Says C 18 [(Dw n4 1 cs1), (Dw n10 1 cs3)] kT) ∧
 (k kT)) ∨
 ((Says C 18 [(Dw n4 1 cs1), (Dw n10 1 cs3)] kF) ∧
 (k kF)))
 False)
 False)))))
 (k kF))) ∨
 ((Says C 16 [D.nil, (Dw n9 2 cs2)] kF) ∧
 (k kF)))
 False)))))
 (k kF))))))))))))))))))))))))))))))) ∨
 (∃ n3 : Nat,
 (∃ cs1 : List Go.Value,
 (∃ n4 : Int,
 ((Says C 9 [(D.agg [(dI x0), (dI x1), (D.sl 0 3 [])]), (D.agg [(D.sl 0 2 []), (D.sl 0 2 [])]), (D.sl 0 1 [])] [(D.sl (n3) 2 (cs1)), (dI n4)]) ∧
 (((Qv (vI n4)) ∧
 ((Qv (Sl 1011 (n3) (n3))) ∧
 ((Qv (Go.Value.tuple [(Sl 1011 (n3) (n3)), (vI n4)].toArray)) ∧
 True))) ∧
 (((Qv (vI n4)) ∧
 True) ∧
 (True ∧
 (((Qv (Go.Value.slice Option.none 0 0)) ∧
 ((Qv (Go.Value.agg [(Go.Value.slice Option.none 0 0), (Go.Value.slice Option.none 0 0)].toArray)) ∧
 ((Qv (Go.Value.agg [(vI x0), (vI x1), (Go.Value.slice Option.none 0 0)].toArray)) ∧
 True))) ∧
 ((Says C 10 [(D.agg [(dI x0), (dI x1), D.nil])] [(D.agg [(dI x0), (dI x1), (D.sl 0 3 [])])]) ∧
 (((Qv (Go.Value.slice Option.none 0 0)) ∧
 ((Qv (Go.Value.agg [(Go.Value.slice Option.none 0 0), (Go.Value.slice Option.none 0 0)].toArray)) ∧
 True)) ∧
 ((Says C 8 [(D.agg [D.nil, D.nil])] [(D.agg [(D.sl 0 2 []), (D.sl 0 2 [])])]) ∧
 (((Qv (Go.Value.slice Option.none 0 0)) ∧
 True) ∧
 ((Says C 11 [D.nil] [(D.sl 0 1 [])]) ∧
 (True ∧
 ((∃ n5 : Int,
 ((Says C 12 [(D.agg [(dI x0), (dI x1), (D.sl 0 3 [])]), (D.agg [(D.sl 0 2 []), (D.sl 0 2 [])]), (D.sl 0 1 [])] [D.nil, (dI n5)]) ∧
 (((Qv (vI n5)) ∧
 ((Qv (Go.Value.slice Option.none 0 0)) ∧
 ((Qv (Go.Value.tuple [(Go.Value.slice Option.none 0 0), (vI n5)].toArray)) ∧
 True))) ∧
 (((Qv (vI n5)) ∧
 True) ∧
 (True ∧
 (∃ n6 : Int,
 (∃ n7 : Int,
 ((Says C 13 [(D.agg [D.nil, D.nil])] [(dI n6), (dI n7)]) ∧
 (bcase (n2 != n7)
 (k kF)
 (bcase (n1 != n6)
 (k kF)
 (∃ n8 : Int,
 ((Says C 14 [(D.agg [(dI x0), (dI x1), D.nil]), (D.agg [D.nil, D.nil])] [(dI n8)]) ∧
 (bcase (n8 == 0)
 (∃ n9 : Int,
 ((Says C 15 [(D.agg [(dI x0), (dI x1), D.nil]), (D.agg [D.nil, D.nil]), D.nil] [(dI n9)]) ∧
 (bcase (n9 != 0)
 (bcase (n4 == n9)
 (bcase (n5 == n9)
 (bcase ((↑n3 : Int) == 0)
 (k kT)
 (k kF))
 (k kF))
 (k kF))
 (bcase (n4 == 0)
 (((Says C 17 [(D.agg [(dI x0), (dI x1), D.nil]), (D.agg [D.nil, D.nil]), D.nil] [D.nil]) ∧
 (bcase (dL n3 2 cs1)
 (((Says C 16 [(Dw n3 2 cs1), D.nil] kT) ∧
 (bcase (n5 == 0)
 (((Says C 19 [(D.agg [(dI x0), (dI x1), D.nil]), (D.agg [D.nil, D.nil]), D.nil] [D.nil]) ∧
 (((Says C 18 [D.nil, D.nil] kT) ∧
 (k kT)) ∨
 ((Says C 18 [D.nil, D.nil] kF) ∧
 (k kF)))) ∨
 (∃ n10 : Nat,
 (∃ cs2 : List Go.Value,
 ((Says C 19 [(D.agg [(dI x0), (dI x1), D.nil]), (D.agg [D.nil, D.nil]), D.nil] [(D.sl (n10) 1 (cs2))]) ∧
 (bcase (dL n10 1 cs2)
 (((Says C 18 [D.nil, (Dw n10 1 cs2)] kT) ∧
 (k kT)) ∨
 ((Says C 18 [D.nil, (Dw n10 1 cs2)] kF) ∧
 (k kF)))
 False)))))
 (k kF))) ∨
 ((Says C 16 [(Dw n3 2 cs1), D.nil] kF) ∧
 (k kF)))
 False)) ∨
 (∃ n10 : Nat,
 (∃ cs2 : List Go.Value,
 ((Says C 17 [(D.agg [(dI x0), (dI x1), D.nil]), (D.agg [D.nil, D.nil]), D.nil] [(D.sl (n10) 2 (cs2))]) ∧
 (bcase (dL n3 2 cs1)
 (bcase (dL n10 2 cs2)
 (((Says C 16 [(Dw n3 2 cs1), (Dw n10 2 cs2)] kT) ∧
 (bcase (n5 == 0)
 (((Says C 19 [(D.agg [(dI x0), (dI x1), D.nil]), (D.agg [D.nil, D.nil]), D.nil] [D.nil]) ∧
 (((Says C 18 [D.nil, D.nil] kT) ∧
 (k kT)) ∨
 ((Says C 18 [D.nil, D.nil] kF) ∧
 (k kF)))) ∨
 (∃ n11 : Nat,
 (∃ cs3 : List Go.Value,
 ((Says C 19 [(D.agg [(dI x0), (dI x1), D.nil]), (D.agg [D.nil, D.nil]), D.nil] [(D.sl (n11) 1 (cs3))]) ∧
 (bcase (dL n11 1 cs3)
 (((Says C 18 [D.nil, (Dw n11 1 cs3)] kT) ∧
 (k kT)) ∨
 ((Says C 18 [D.nil, (Dw n11 1 cs3)] kF) ∧
 (k kF)))
 False)))))
 (k kF))) ∨
 ((Says C 16 [(Dw n3 2 cs1), (Dw n10 2 cs2)] kF) ∧
 (k kF)))
 False)
 False)))))
 (k kF)))))
 (bcase (n8 != 0)
 (bcase (n4 == n8)
 (bcase (n5 == n8)
 (bcase ((↑n3 : Int) == 0)
 (k kT)
 (k kF))
 (k kF))
 (k kF))
 (bcase (n4 == 0)
 (((Says C 17 [(D.agg [(dI x0), (dI x1), D.nil]), (D.agg [D.nil, D.nil]), D.nil] [D.nil]) ∧
 (bcase (dL n3 2 cs1)
 (((Says C 16 [(Dw n3 2 cs1), D.nil] kT) ∧
 (bcase (n5 == 0)
 (((Says C 19 [(D.agg [(dI x0), (dI x1), D.nil]), (D.agg [D.nil, D.nil]), D.nil] [D.nil]) ∧
 (((Says C 18 [D.nil, D.nil] kT) ∧
 (k kT)) ∨
 ((Says C 18 [D.nil, D.nil] kF) ∧
 (k kF)))) ∨
 (∃ n9 : Nat,
 (∃ cs2 : List Go.Value,
 ((Says C 19 [(D.agg [(dI x0), (dI x1), D.nil]), (D.agg [D.nil, D.nil]), D.nil] [(D.sl (n9) 1 (cs2))]) ∧
 (bcase (dL n9 1 cs2)
 (((Says C 18 [D.nil, (Dw n9 1 cs2)] kT) ∧
 (k kT)) ∨
 ((Says C 18 [D.nil, (Dw n9 1 cs2)] kF) ∧
 (k kF)))
 False)))))
 (k kF))) ∨
 ((Says C 16 [(Dw n3 2 cs1), D.nil] kF) ∧
 (k kF)))
 False)) ∨
 (∃ n9 : Nat,
 (∃ cs2 : List Go.Value,
 ((Says C 17 [(D.agg [(dI x0), (dI x1), D.nil]), (D.agg [D.nil, D.nil]), D.nil] [(D.sl (n9) 2 (cs2))]) ∧
 (bcase (dL n3 2 cs1)
 (bcase (dL n9 2 cs2)
 (((Says C 16 [(Dw n3 2 cs1), (Dw n9 2 cs2)] kT) ∧
 (bcase (n5 == 0)
 (((Says C 19 [(D.agg [(dI x0), (dI x1), D.nil]), (D.agg [D.nil, D.nil]), D.nil] [D.nil]) ∧
 (((Says C 18 [D.nil, D.nil] kT) ∧
 (k kT)) ∨
 ((Says C 18 [D.nil, D.nil] kF) ∧
 (k kF)))) ∨
 (∃ n10 : Nat,
 (∃ cs3 : List Go.Value,
 ((Says C 19 [(D.agg [(dI x0), (dI x1), D.nil]), (D.agg [D.nil, D.nil]), D.nil] [(D.sl (n10) 1 (cs3))]) ∧
 (bcase (dL n10 1 cs3)
 (((Says C 18 [D.nil, (Dw n10 1 cs3)] kT) ∧
 (k kT)) ∨
 ((Says C 18 [D.nil, (Dw n10 1 cs3)] kF) ∧
 (k kF)))
 False)))))
 (k kF))) ∨
 ((Says C 16 [(Dw n3 2 cs1), (Dw n9 2 cs2)] kF) ∧
 (k kF)))
 False)
 False)))))
 (k kF)))))))))))))))) ∨
 (∃ n5 : Nat,
 (∃ cs2 : List Go.Value,
 (∃ n6 : Int,
 ((Says C 12 [(D.agg [(dI x0), (dI x1), (D.sl 0 3 [])]), (D.agg [(D.sl 0 2 []), (D.sl 0 2 [])]), (D.sl 0 1 [])] [(D.sl (n5) 1 (cs2)), (dI n6)]) ∧
 (((Qv (vI n6)) ∧
 ((Qv (Sl 1016 (n5) (n5))) ∧
 ((Qv (Go.Value.tuple [(Sl 1016 (n5) (n5)), (vI n6)].toArray)) ∧
 True))) ∧
 (((Qv (vI n6)) ∧
 True) ∧
 (True ∧
 (∃ n7 : Int,
 (∃ n8 : Int,
 ((Says C 13 [(D.agg [D.nil, D.nil])] [(dI n7), (dI n8)]) ∧
 (bcase (n2 != n8)
 (k kF)
 (bcase (n1 != n7)
 (k kF)
 (∃ n9 : Int,
 ((Says C 14 [(D.agg [(dI x0), (dI x1), D.nil]), (D.agg [D.nil, D.nil])] [(dI n9)]) ∧
 (bcase (n9 == 0)
 (∃ n10 : Int,
 ((Says C 15 [(D.agg [(dI x0), (dI x1), D.nil]), (D.agg [D.nil, D.nil]), D.nil] [(dI n10)]) ∧
 (bcase (n10 != 0)
 (bcase (n4 == n10)
 (bcase (n6 == n10)
 (bcase ((↑n3 : Int) == 0)
 (bcase ((↑n5 : Int) == 0)
 (k kT)
 (k kF))
 (k kF))
 (k kF))
 (k kF))
 (bcase (n4 == 0)
 (((Says C 17 [(D.agg [(dI x0), (dI x1), D.nil]), (D.agg [D.nil, D.nil]), D.nil] [D.nil]) ∧
 (bcase (dL n3 2 cs1)
 (((Says C 16 [(Dw n3 2 cs1), D.nil] kT) ∧
 (bcase (n6 == 0)
 (((Says C 19 [(D.agg [(dI x0), (dI x1), D.nil]), (D.agg [D.nil, D.nil]), D.nil] [D.nil]) ∧
 (bcase (dL n5 1 cs2)
 (((Says C 18 [(Dw n5 1 cs2), D.nil] kT) ∧
 (k kT)) ∨
 ((Says C 18 [(Dw n5 1 cs2), D.nil] kF) ∧
 (k kF)))
 False)) ∨
 (∃ n11 : Nat,
 (∃ cs3 : List Go.Value,
 ((Says C 19 [(D.agg [(dI x0), (dI x1), D.nil]), (D.agg [D.nil, D.nil]), D.nil] [(D.sl (n11) 1 (cs3))]) ∧
 (bcase (dL n5 1 cs2)
 (bcase (dL n11 1 cs3)
 (((Says C 18 [(Dw n5 1 cs2), (Dw n11 1 cs3)] kT) ∧
 (k kT)) ∨
 ((Says C 18 [(Dw n5 1 cs2), (Dw n11 1 cs3)] kF) ∧
 (k kF)))
 False)
 False)))))
 (k kF))) ∨
 ((Says C 16 [(Dw n3 2 cs1), D.nil] kF) ∧
 (k kF)))
 False)) ∨
 (∃ n11 : Nat,
 (∃ cs3 : List Go.Value,
 ((Says C 17 [(D.agg [(dI x0), (dI x1), D.nil]), (D.agg [D.nil, D.nil]), D.nil] [(D.sl (n11) 2 (cs3))]) ∧
 (bcase (dL n3 2 cs1)
 (bcase (dL n11 2 cs3)
 (((Says C 16 [(Dw n3 2 cs1), (Dw n11 2 cs3)] kT) ∧
 (bcase (n6 == 0)
 (((Says C 19 [(D.agg [(dI x0), (dI x1), D.nil]), (D.agg [D.nil, D.nil]), D.nil] [D.nil]) ∧
 (bcase (dL n5 1 cs2)
 (((Says C 18 [(Dw n5 1 cs2), D.nil] kT) ∧
 (k kT)) ∨
 ((Says C 18 [(Dw n5 1 cs2), D.nil] kF) ∧
 (k kF)))
 False)) ∨
 (∃ n12 : Nat,
 (∃ cs4 : List Go.Value,
 ((Says C 19 [(D.agg [(dI x0), (dI x1), D.nil]), (D.agg [D.nil, D.nil]), D.nil] [(D.sl (n12) 1 (cs4))]) ∧
 (bcase (dL n5 1 cs2)
 (bcase (dL n12 1 cs4)
 (((Says C 18 [(Dw n5 1 cs2), (Dw n12 1 cs4)] kT) ∧
 (k kT)) ∨
 ((Says C 18 [(Dw n5 1 cs2), (Dw n12 1 cs4)] kF) ∧
 (k kF)))
 False)
 False)))))
 (k kF))) ∨
 ((Says C 16 [(Dw n3 2 cs1), (Dw n11 2 cs3)] kF) ∧
 (k kF)))
 False)
 False)))))
 (k kF)))))
 (bcase (n9 != 0)
 (bcase (n4 == n9)
 (bcase (n6 == n9)
 (bcase ((↑n3 : Int) == 0)
 (bcase ((↑n5 : Int) == 0)
 (k kT)
 (k kF))
 (k kF))
 (k kF))
 (k kF))
 (bcase (n4 == 0)
 (((Says C 17 [(D.agg [(dI x0), (dI x1), D.nil]), (D.agg [D.nil, D.nil]), D.nil] [D.nil]) ∧
 (bcase (dL n3 2 cs1)
 (((Says C 16 [(Dw n3 2 cs1), D.nil] kT) ∧
 (bcase (n6 == 0)
 (((Says C 19 [(D.agg [(dI x0), (dI x1), D.nil]), (D.agg [D.nil, D.nil]), D.nil] [D.nil]) ∧
 (bcase (dL n5 1 cs2)
 (((Says C 18 [(Dw n5 1 cs2), D.nil] kT) ∧
 (k kT)) ∨
 ((Says C 18 [(Dw n5 1 cs2), D.nil] kF) ∧
 (k kF)))
 False)) ∨
 (∃ n10 : Nat,
 (∃ cs3 : List Go.Value,
 ((Says C 19 [(D.agg [(dI x0), (dI x1), D.nil]), (D.agg [D.nil, D.nil]), D.nil] [(D.sl (n10) 1 (cs3))]) ∧
 (bcase (dL n5 1 cs2)
 (bcase (dL n10 1 cs3)
 (((Says C 18 [(Dw n5 1 cs2), (Dw n10 1 cs3)] kT) ∧
 (k kT)) ∨
 ((Says C 18 [(Dw n5 1 cs2), (Dw n10 1 cs3)] kF) ∧
 (k kF)))
 False)
 False)))))
 (k kF))) ∨
 ((Says C 16 [(Dw n3 2 cs1), D.nil] kF) ∧
 (k kF)))
 False)) ∨
 (∃ n10 : Nat,
 (∃ cs3 : List Go.Value,
 ((Says C 17 [(D.agg [(dI x0), (dI x1), D.nil]), (D.agg [D.nil, D.nil]), D.nil] [(D.sl (n10) 2 (cs3))]) ∧
 (bcase (dL n3 2 cs1)
 (bcase (dL n10 2 cs3)
 (((Says C 16 [(Dw n3 2 cs1), (Dw n10 2 cs3)] kT) ∧
 (bcase (n6 == 0)
 (((Says C 19 [(D.agg [(dI x0), (dI x1), D.nil]), (D.agg [D.nil, D.nil]), D.nil] [D.nil]) ∧
 (bcase (dL n5 1 cs2)
 (((Says C 18 [(Dw n5 1 cs2), D.nil] kT) ∧
 (k kT)) ∨
 ((Says C 18 [(Dw n5 1 cs2), D.nil] kF) ∧
 (k kF)))
 False)) ∨
 (∃ n11 : Nat,
 (∃ cs4 : List Go.Value,
 ((Says C 19 [(D.agg [(dI x0), (dI x1), D.nil]), (D.agg [D.nil, D.nil]), D.nil] [(D.sl (n11) 1 (cs4))]) ∧
 (bcase (dL n5 1 cs2)
 (bcase (dL n11 1 cs4)
 (((Says C 18 [(Dw n5 1 cs2), (Dw n11 1 cs4)] kT) ∧
 (k kT)) ∨
 ((Says C 18 [(Dw n5 1 cs2), (Dw n11 1 cs4)] kF) ∧
 (k kF)))
 False)
 False)))))
 (k kF))) ∨
 ((Says C 16 [(Dw n3 2 cs1), (Dw n10 2 cs3)] kF) ∧
 (k kF)))
 False)
 False)))))
 (k kF)))))))))))))))))))))))))))))))))))))))))))))) ∨
 ((Says C 4 [] kF) ∧
 (k kF))) := by kernel_rfl
end Go.Proofs.G5d
