/- Texts of the proof, put together: GjTK5, GjJED, GjJED2, GjJDK. -/
import Derived.Test.YtipfpmiljmlekaaP6
import Derived.Test.YtipfpmiljmlekaaP5
import Derived.Test.YtipfpmiljmlekaaP7
import Derived.Test.YtipfpmiljmlekaaP4
/- What is left to show of each function, written out; the kernel reckons it. -/
namespace Go.Proofs.G5j
open Go Go.Abs Go.Proofs
set_option maxRecDepth 100000
set_option linter.unusedVariables false
def gDsss (C : Ct) (L : AtLoop) (n0 : Nat) (c0 : Nat) (l0 : List Value) (x1 : Int) (x2 : Int) (x3 : Int) (n4 : Nat) (c4 : Nat) (l4 : List Value) (x5 : Int) (n6 : Nat) (c6 : Nat) (l6 : List Value) (x7 : Int) (x8 : Int) (k : List D → Prop) : Prop := wpFn Try.prog (hL C) L 0 4 #[.agg #[.slice (some ⟨500, 0, none⟩) n0 c0, .int .i64 x1, .int .i64 x2, .int .i64 x3], .agg #[.slice (some ⟨501, 0, none⟩) n4 c4, .int .i64 x5], .agg #[.slice (some ⟨502, 0, none⟩) n6 c6, .int .i64 x7, .int .i64 x8]] (heapOf [(500, .sym l0 false 2), (501, .sym l4 false 1), (502, .sym l6 false 2)]) (dataK k)
theorem gDsss_text (C : Ct) (L : AtLoop) (n0 : Nat) (c0 : Nat) (l0 : List Go.Value) (x1 : Int) (x2 : Int) (x3 : Int) (n4 : Nat) (c4 : Nat) (l4 : List Go.Value) (x5 : Int) (n6 : Nat) (c6 : Nat) (l6 : List Go.Value) (x7 : Int) (x8 : Int) (k : List D → Prop) : gDsss C L n0 c0 l0 x1 x2 x3 n4 c4 l4 x5 n6 c6 l6 x7 x8 k =
 (((Says C 5 [] kT) ∧
 (bcase (decide ((↑n0 : Int) ≤ 12))
 (bcase (decide ((↑n4 : Int) ≤ 10))
 (bcase (decide ((↑n6 : Int) > 7))
 (k kT)
 (((Qv (Value.agg [(Sl 502 (n6) (c6)), (vI x7), (vI x8)].toArray)) ∧
 ((Qv (Value.agg [(Sl 501 (n4) (c4)), (vI x5)].toArray)) ∧
 ((Qv (Value.agg [(Sl 500 (n0) (c0)), (vI x1), (vI x2), (vI x3)].toArray)) ∧
 True))) ∧
 (bcase (dL n0 2 l0)
 ((Says C 12 [(D.agg [(Dw n0 2 l0), (dI x1), (dI x2), (dI x3)])] [(D.agg [(Dw n0 2 l0), (dI x1), (dI x2), (dI x3)])]) ∧
 (((Qv (Value.agg [(Sl 502 (n6) (c6)), (vI x7), (vI x8)].toArray)) ∧
 ((Qv (Value.agg [(Sl 501 (n4) (c4)), (vI x5)].toArray)) ∧
 True)) ∧
 (bcase (dL n4 1 l4)
 ((Says C 9 [(D.agg [(Dw n4 1 l4), (dI x5)])] [(D.agg [(Dw n4 1 l4), (dI x5)])]) ∧
 (((Qv (Value.agg [(Sl 502 (n6) (c6)), (vI x7), (vI x8)].toArray)) ∧
 True) ∧
 (bcase (dL n6 2 l6)
 ((Says C 19 [(D.agg [(Dw n6 2 l6), (dI x7), (dI x8)])] [(D.agg [(Dw n6 2 l6), (dI x7), (dI x8)])]) ∧
 (True ∧
 (bcase (dL n0 2 (Tk n0 2 l0))
 (bcase (dL n4 1 (Tk n4 1 l4))
 (bcase (dL n6 2 (Tk n6 2 l6))
 (∃ n1 : Int,
 (∃ n2 : Int,
 ((Says C 18 [(D.agg [(Dw n0 2 (Tk n0 2 l0)), (dI x1), (dI x2), (dI x3)]), (D.agg [(Dw n4 1 (Tk n4 1 l4)), (dI x5)]), (D.agg [(Dw n6 2 (Tk n6 2 l6)), (dI x7), (dI x8)])] [(dI n1), (dI n2)]) ∧
 (((Qv (vI n2)) ∧
 ((Qv (vI n1)) ∧
 ((Qv (Value.tuple [(vI n1), (vI n2)].toArray)) ∧
 True))) ∧
 (((Qv (vI n2)) ∧
 True) ∧
 (True ∧
 (((Qv (Value.agg [(Sl 502 (n6) (c6)), (vI x7), (vI x8)].toArray)) ∧
 ((Qv (Value.agg [(Sl 501 (n4) (c4)), (vI x5)].toArray)) ∧
 ((Qv (Value.agg [(Sl 500 (n0) (c0)), (vI x1), (vI x2), (vI x3)].toArray)) ∧
 True))) ∧
 (bcase (dL n0 2 l0)
 ((Says C 12 [(D.agg [(Dw n0 2 l0), (dI x1), (dI x2), (dI x3)])] [(D.agg [(Dw n0 2 l0), (dI x1), (dI x2), (dI x3)])]) ∧
 (((Qv (Value.agg [(Sl 502 (n6) (c6)), (vI x7), (vI x8)].toArray)) ∧
 ((Qv (Value.agg [(Sl 501 (n4) (c4)), (vI x5)].toArray)) ∧
 True)) ∧
 (bcase (dL n4 1 l4)
 ((Says C 9 [(D.agg [(Dw n4 1 l4), (dI x5)])] [(D.agg [(Dw n4 1 l4), (dI x5)])]) ∧
 (((Qv (Value.agg [(Sl 502 (n6) (c6)), (vI x7), (vI x8)].toArray)) ∧
 True) ∧
 (bcase (dL n6 2 l6)
 ((Says C 19 [(D.agg [(Dw n6 2 l6), (dI x7), (dI x8)])] [(D.agg [(Dw n6 2 l6), (dI x7), (dI x8)])]) ∧
 (True ∧
 (bcase (dL n0 2 (Tk n0 2 l0))
 (bcase (dL n4 1 (Tk n4 1 l4))
 (bcase (dL n6 2 (Tk n6 2 l6))
 (∃ n3 : Int,
 (∃ n5 : Int,
 ((Says C 20 [(D.agg [(Dw n0 2 (Tk n0 2 l0)), (dI x1), (dI x2), (dI x3)]), (D.agg [(Dw n4 1 (Tk n4 1 l4)), (dI x5)]), (D.agg [(Dw n6 2 (Tk n6 2 l6)), (dI x7), (dI x8)])] [(dI n3), (dI n5)]) ∧
 (((Qv (vI n5)) ∧
 ((Qv (vI n3)) ∧
 ((Qv (Value.tuple [(vI n3), (vI n5)].toArray)) ∧
 True))) ∧
 (((Qv (vI n5)) ∧
 True) ∧
 (True ∧
 (bcase (dL n0 2 l0)
 (bcase (dL n4 1 l4)
 (∃ n7 : Int,
 ((Says C 7 [(D.agg [(Dw n0 2 l0), (dI x1), (dI x2), (dI x3)]), (D.agg [(Dw n4 1 l4), (dI x5)])] [(dI n7)]) ∧
 (bcase (n7 == 0)
 (bcase (dL n6 2 l6)
 (∃ n8 : Int,
 ((Says C 21 [(D.agg [(Dw n6 2 l6), (dI x7), (dI x8)])] [(dI n8)]) ∧
 (bcase (n8 != 0)
 (bcase (n2 == n8)
 (bcase (n5 == n8)
 (bcase (n1 == 0)
 (bcase (n3 == 0)
 (k kT)
 (k kF))
 (k kF))
 (k kF))
 (k kF))
 (bcase (dL n0 2 l0)
 (bcase (dL n4 1 l4)
 (bcase (dL n6 2 l6)
 (∃ n9 : Int,
 (((Says C 22 [(D.agg [(Dw n0 2 l0), (dI x1), (dI x2), (dI x3)]), (D.agg [(Dw n4 1 l4), (dI x5)]), (D.agg [(Dw n6 2 l6), (dI x7), (dI x8)])] [(dI n9), (D.val (Value.bool true))]) ∧
 (bcase (dL n0 2 l0)
 (bcase (dL n4 1 l4)
 (bcase (dL n6 2 l6)
 (∃ n10 : Int,
 (((Says C 23 [(D.agg [(Dw n0 2 l0), (dI x1), (dI x2), (dI x3)]), (D.agg [(Dw n4 1 l4), (dI x5)]), (D.agg [(Dw n6 2 l6), (dI x7), (dI x8)])] [(dI n10), (D.val (Value.bool true))]) ∧
 (bcase (n2 != 0)
 (k kF)
 (bcase (n1 != n9)
 (k kF)
 (bcase (n5 != 0)
 (k kF)
 (bcase (n3 != n10)
 (k kF)
 (bcase (decide (0 ≤ IntKind.wrap .i64 ((↑n6 : Int) - 1)))
 (bcase (decide (IntKind.wrap .i64 ((↑n6 : Int) - 1) < (↑n6 : Int)))
 (∃ n11 : Int,
 ((At (l6) ((0 + Int.toNat (IntKind.wrap .i64 ((↑n6 : Int) - 1)) * 2) + 1) 1 [(vI n11)]) ∧
 (bcase (decide (IntKind.wrap .i64 (n11 + n1) > 200))
 (k kT)
 (bcase (dL n6 2 l6)
 ((Says C 19 [(D.agg [(Dw n6 2 l6), (dI x7), (dI x8)])] [(D.agg [(Dw n6 2 l6), (dI x7), (dI x8)])]) ∧
 (bcase (decide (0 ≤ IntKind.wrap .i64 ((↑n6 : Int) - 1)))
 (bcase (decide (IntKind.wrap .i64 ((↑n6 : Int) - 1) < (↑n6 : Int)))
 (∃ n12 : Int,
 ((At (Tk n6 2 l6) ((0 + Int.toNat (IntKind.wrap .i64 ((↑n6 : Int) - 1)) * 2) + 1) 1 [(vI n12)]) ∧
 (bcase (decide (0 ≤ IntKind.wrap .i64 ((↑n6 : Int) - 1)))
 (bcase (decide (IntKind.wrap .i64 ((↑n6 : Int) - 1) < (↑n6 : Int)))
 (((Qv (Value.pointer (some (Addr.mk 1012 ((0 + Int.toNat (IntKind.wrap .i64 ((↑n6 : Int) - 1)) * 2) + 1) none)))) ∧
 ((bcase (decide (0 ≤ IntKind.wrap .i64 ((↑n6 : Int) - 1)))
 (bcase (decide (IntKind.wrap .i64 ((↑n6 : Int) - 1) < (↑n6 : Int)))
 (Qv (Pt 1012 (0 + Int.toNat (IntKind.wrap .i64 ((↑n6 : Int) - 1)) * 2)))
 False)
 False) ∧
 ((Qv (vI (IntKind.wrap .i64 (n12 + n1)))) ∧
 ((Qv (vI n1)) ∧
 ((∃ n13 : Int,
 ((At (Tk n6 2 l6) ((0 + Int.toNat (IntKind.wrap .i64 ((↑n6 : Int) - 1)) * 2) + 1) 1 [(vI n13)]) ∧
 ((vI n13) = (vI n12)))) ∧
 (((Value.pointer (some (Addr.mk 1012 ((0 + Int.toNat (IntKind.wrap .i64 ((↑n6 : Int) - 1)) * 2) + 1) none))) = (Value.pointer (some (Addr.mk 1012 ((0 + Int.toNat (IntKind.wrap .i64 ((↑n6 : Int) - 1)) * 2) + 1) none)))) ∧
 ((bcase (decide (0 ≤ IntKind.wrap .i64 ((↑n6 : Int) - 1)))
 (bcase (decide (IntKind.wrap .i64 ((↑n6 : Int) - 1) < (↑n6 : Int)))
 (Qv (Pt 1012 (0 + Int.toNat (IntKind.wrap .i64 ((↑n6 : Int) - 1)) * 2)))
 False)
 False) ∧
 ((Qv (vI (IntKind.wrap .i64 ((↑n6 : Int) - 1)))) ∧
 ((Qv (Sl 1012 (n6) (n6))) ∧
 ((Qv (Pt 1013 0)) ∧
 ((Qv (vI (IntKind.wrap .i64 ((↑n6 : Int) - 1)))) ∧
 ((Qv (Sl 1012 (n6) (n6))) ∧
 ((Qv (Pt 1013 0)) ∧
 True))))))))))))) ∧
 (bcase (decide ((0 + Int.toNat (IntKind.wrap .i64 ((↑n6 : Int) - 1)) * 2) + 1 + 1 ≤ List.length (Tk n6 2 l6)))
 (((bcase (decide (0 ≤ IntKind.wrap .i64 ((↑n6 : Int) - 1)))
 (bcase (decide (IntKind.wrap .i64 ((↑n6 : Int) - 1) < (↑n6 : Int)))
 (Qv (Pt 1012 (0 + Int.toNat (IntKind.wrap .i64 ((↑n6 : Int) - 1)) * 2)))
 False)
 False) ∧
 True) ∧
 (((Qv (Value.agg [(Sl 1012 (n6) (n6)), (vI x7), (vI x8)].toArray)) ∧
 ((Qv (Value.agg [(Sl 501 (n4) (c4)), (vI x5)].toArray)) ∧
 ((Qv (Value.agg [(Sl 500 (n0) (c0)), (vI x1), (vI x2), (vI x3)].toArray)) ∧
 True))) ∧
 (bcase (dL n0 2 l0)
 ((Says C 12 [(D.agg [(Dw n0 2 l0), (dI x1), (dI x2), (dI x3)])] [(D.agg [(Dw n0 2 l0), (dI x1), (dI x2), (dI x3)])]) ∧
 (((Qv (Value.agg [(Sl 1012 (n6) (n6)), (vI x7), (vI x8)].toArray)) ∧
 ((Qv (Value.agg [(Sl 501 (n4) (c4)), (vI x5)].toArray)) ∧
 True)) ∧
 (bcase (dL n4 1 l4)
 ((Says C 9 [(D.agg [(Dw n4 1 l4), (dI x5)])] [(D.agg [(Dw n4 1 l4), (dI x5)])]) ∧
 (((Qv (Value.agg [(Sl 1012 (n6) (n6)), (vI x7), (vI x8)].toArray)) ∧
 True) ∧
 (bcase (dL n0 2 (Tk n0 2 l0))
 (bcase (dL n4 1 (Tk n4 1 l4))
 (bcase (decide (0 + n6 * 2 ≤ List.length (listSet (Tk n6 2 l6) ((0 + Int.toNat (IntKind.wrap .i64 ((↑n6 : Int) - 1)) * 2) + 1) [vI (IntKind.wrap .i64 (n12 + n1))])))
 (∃ n13 : Int,
 (∃ n14 : Int,
 ((Says C 17 [(D.agg [(Dw n0 2 (Tk n0 2 l0)), (dI x1), (dI x2), (dI x3)]), (D.agg [(Dw n4 1 (Tk n4 1 l4)), (dI x5)]), (D.agg [(D.sl (n6) 2 (List.take (n6 * 2) (List.drop 0 (listSet (Tk n6 2 l6) ((0 + Int.toNat (IntKind.wrap .i64 ((↑n6 : Int) - 1)) * 2) + 1) [vI (IntKind.wrap .i64 (n12 + n1))])))), (dI x7), (dI x8)])] [(dI n13), (dI n14)]) ∧
 (((Qv (vI n14)) ∧
 ((Qv (vI n13)) ∧
 ((Qv (Value.tuple [(vI n13), (vI n14)].toArray)) ∧
 True))) ∧
 (((Qv (vI n14)) ∧
 True) ∧
 (True ∧
 (bcase (n14 == 0)
 (bcase (n13 == 2)
 (k kT)
 (k kF))
 (k kF))))))))
 False)
 False)
 False)))
 False)))
 False)))
 False))
 False)
 False)))
 False)
 False))
 False))))
 False)
 False)))))) ∨
 ((Says C 23 [(D.agg [(Dw n0 2 l0), (dI x1), (dI x2), (dI x3)]), (D.agg [(Dw n4 1 l4), (dI x5)]), (D.agg [(Dw n6 2 l6), (dI x7), (dI x8)])] [(dI n10), (D.val (Value.bool false))]) ∧
 (bcase (n2 != 0)
 (k kF)
 (bcase (n1 != n9)
 (k kF)
 (bcase (n5 != 24)
 (k kF)
 (bcase (n3 != 0)
 (k kF)
 (bcase (decide (0 ≤ IntKind.wrap .i64 ((↑n6 : Int) - 1)))
 (bcase (decide (IntKind.wrap .i64 ((↑n6 : Int) - 1) < (↑n6 : Int)))
 (∃ n11 : Int,
 ((At (l6) ((0 + Int.toNat (IntKind.wrap .i64 ((↑n6 : Int) - 1)) * 2) + 1) 1 [(vI n11)]) ∧
 (bcase (decide (IntKind.wrap .i64 (n11 + n1) > 200))
 (k kT)
 (bcase (dL n6 2 l6)
 ((Says C 19 [(D.agg [(Dw n6 2 l6), (dI x7), (dI x8)])] [(D.agg [(Dw n6 2 l6), (dI x7), (dI x8)])]) ∧
 (bcase (decide (0 ≤ IntKind.wrap .i64 ((↑n6 : Int) - 1)))
 (bcase (decide (IntKind.wrap .i64 ((↑n6 : Int) - 1) < (↑n6 : Int)))
 (∃ n12 : Int,
 ((At (Tk n6 2 l6) ((0 + Int.toNat (IntKind.wrap .i64 ((↑n6 : Int) - 1)) * 2) + 1) 1 [(vI n12)]) ∧
 (bcase (decide (0 ≤ IntKind.wrap .i64 ((↑n6 : Int) - 1)))
 (bcase (decide (IntKind.wrap .i64 ((↑n6 : Int) - 1) < (↑n6 : Int)))
 (((Qv (Value.pointer (some (Addr.mk 1012 ((0 + Int.toNat (IntKind.wrap .i64 ((↑n6 : Int) - 1)) * 2) + 1) none)))) ∧
 ((bcase (decide (0 ≤ IntKind.wrap .i64 ((↑n6 : Int) - 1)))
 (bcase (decide (IntKind.wrap .i64 ((↑n6 : Int) - 1) < (↑n6 : Int)))
 (Qv (Pt 1012 (0 + Int.toNat (IntKind.wrap .i64 ((↑n6 : Int) - 1)) * 2)))
 False)
 False) ∧
 ((Qv (vI (IntKind.wrap .i64 (n12 + n1)))) ∧
 ((Qv (vI n1)) ∧
 ((∃ n13 : Int,
 ((At (Tk n6 2 l6) ((0 + Int.toNat (IntKind.wrap .i64 ((↑n6 : Int) - 1)) * 2) + 1) 1 [(vI n13)]) ∧
 ((vI n13) = (vI n12)))) ∧
 (((Value.pointer (some (Addr.mk 1012 ((0 + Int.toNat (IntKind.wrap .i64 ((↑n6 : Int) - 1)) * 2) + 1) none))) = (Value.pointer (some (Addr.mk 1012 ((0 + Int.toNat (IntKind.wrap .i64 ((↑n6 : Int) - 1)) * 2) + 1) none)))) ∧
 ((bcase (decide (0 ≤ IntKind.wrap .i64 ((↑n6 : Int) - 1)))
 (bcase (decide (IntKind.wrap .i64 ((↑n6 : Int) - 1) < (↑n6 : Int)))
 (Qv (Pt 1012 (0 + Int.toNat (IntKind.wrap .i64 ((↑n6 : Int) - 1)) * 2)))
 False)
 False) ∧
 ((Qv (vI (IntKind.wrap .i64 ((↑n6 : Int) - 1)))) ∧
 ((Qv (Sl 1012 (n6) (n6))) ∧
 ((Qv (Pt 1013 0)) ∧
 ((Qv (vI (IntKind.wrap .i64 ((↑n6 : Int) - 1)))) ∧
 ((Qv (Sl 1012 (n6) (n6))) ∧
 ((Qv (Pt 1013 0)) ∧
 True))))))))))))) ∧
 (bcase (decide ((0 + Int.toNat (IntKind.wrap .i64 ((↑n6 : Int) - 1)) * 2) + 1 + 1 ≤ List.length (Tk n6 2 l6)))
 (((bcase (decide (0 ≤ IntKind.wrap .i64 ((↑n6 : Int) - 1)))
 (bcase (decide (IntKind.wrap .i64 ((↑n6 : Int) - 1) < (↑n6 : Int)))
 (Qv (Pt 1012 (0 + Int.toNat (IntKind.wrap .i64 ((↑n6 : Int) - 1)) * 2)))
 False)
 False) ∧
 True) ∧
 (((Qv (Value.agg [(Sl 1012 (n6) (n6)), (vI x7), (vI x8)].toArray)) ∧
 ((Qv (Value.agg [(Sl 501 (n4) (c4)), (vI x5)].toArray)) ∧
 ((Qv (Value.agg [(Sl 500 (n0) (c0)), (vI x1), (vI x2), (vI x3)].toArray)) ∧
 True))) ∧
 (bcase (dL n0 2 l0)
 ((Says C 12 [(D.agg [(Dw n0 2 l0), (dI x1), (dI x2), (dI x3)])] [(D.agg [(Dw n0 2 l0), (dI x1), (dI x2), (dI x3)])]) ∧
 (((Qv (Value.agg [(Sl 1012 (n6) (n6)), (vI x7), (vI x8)].toArray)) ∧
 ((Qv (Value.agg [(Sl 501 (n4) (c4)), (vI x5)].toArray)) ∧
 True)) ∧
 (bcase (dL n4 1 l4)
 ((Says C 9 [(D.agg [(Dw n4 1 l4), (dI x5)])] [(D.agg [(Dw n4 1 l4), (dI x5)])]) ∧
 (((Qv (Value.agg [(Sl 1012 (n6) (n6)), (vI x7), (vI x8)].toArray)) ∧
 True) ∧
 (bcase (dL n0 2 (Tk n0 2 l0))
 (bcase (dL n4 1 (Tk n4 1 l4))
 (bcase (decide (0 + n6 * 2 ≤ List.length (listSet (Tk n6 2 l6) ((0 + Int.toNat (IntKind.wrap .i64 ((↑n6 : Int) - 1)) * 2) + 1) [vI (IntKind.wrap .i64 (n12 + n1))])))
 (∃ n13 : Int,
 (∃ n14 : Int,
 ((Says C 17 [(D.agg [(Dw n0 2 (Tk n0 2 l0)), (dI x1), (dI x2), (dI x3)]), (D.agg [(Dw n4 1 (Tk n4 1 l4)), (dI x5)]), (D.agg [(D.sl (n6) 2 (List.take (n6 * 2) (List.drop 0 (listSet (Tk n6 2 l6) ((0 + Int.toNat (IntKind.wrap .i64 ((↑n6 : Int) - 1)) * 2) + 1) [vI (IntKind.wrap .i64 (n12 + n1))])))), (dI x7), (dI x8)])] [(dI n13), (dI n14)]) ∧
 (((Qv (vI n14)) ∧
 ((Qv (vI n13)) ∧
 ((Qv (Value.tuple [(vI n13), (vI n14)].toArray)) ∧
 True))) ∧
 (((Qv (vI n14)) ∧
 True) ∧
 (True ∧
 (bcase (n14 == 0)
 (bcase (n13 == 2)
 (k kT)
 (k kF))
 (k kF))))))))
 False)
 False)
 False)))
 False)))
 False)))
 False))
 False)
 False)))
 False)
 False))
 False))))
 False)
 False))))))))
 False)
 False)
 False)) ∨
 ((Says C 22 [(D.agg [(Dw n0 2 l0), (dI x1), (dI x2), (dI x3)]), (D.agg [(Dw n4 1 l4), (dI x5)]), (D.agg [(Dw n6 2 l6), (dI x7), (dI x8)])] [(dI n9), (D.val (Value.bool false))]) ∧
 (bcase (dL n0 2 l0)
 (bcase (dL n4 1 l4)
 (bcase (dL n6 2 l6)
 (∃ n10 : Int,
 (((Says C 23 [(D.agg [(Dw n0 2 l0), (dI x1), (dI x2), (dI x3)]), (D.agg [(Dw n4 1 l4), (dI x5)]), (D.agg [(Dw n6 2 l6), (dI x7), (dI x8)])] [(dI n10), (D.val (Value.bool true))]) ∧
 (bcase (n2 != 12)
 (k kF)
 (bcase (n1 != 0)
 (k kF)
 (bcase (n5 != 0)
 (k kF)
 (bcase (n3 != n10)
 (k kF)
 (k kT)))))) ∨
 ((Says C 23 [(D.agg [(Dw n0 2 l0), (dI x1), (dI x2), (dI x3)]), (D.agg [(Dw n4 1 l4), (dI x5)]), (D.agg [(Dw n6 2 l6), (dI x7), (dI x8)])] [(dI n10), (D.val (Value.bool false))]) ∧
 (bcase (n2 != 12)
 (k kF)
 (bcase (n1 != 0)
 (k kF)
 (bcase (n5 != 24)
 (k kF)
 (bcase (n3 != 0)
 (k kF)
 (k kT))))))))
 False)
 False)
 False))))
 False)
 False)
 False))))
 False)
 (bcase (n7 != 0)
 (bcase (n2 == n7)
 (bcase (n5 == n7)
 (bcase (n1 == 0)
 (bcase (n3 == 0)
 (k kT)
 (k kF))
 (k kF))
 (k kF))
 (k kF))
 (bcase (dL n0 2 l0)
 (bcase (dL n4 1 l4)
 (bcase (dL n6 2 l6)
 (∃ n8 : Int,
 (((Says C 22 [(D.agg [(Dw n0 2 l0), (dI x1), (dI x2), (dI x3)]), (D.agg [(Dw n4 1 l4), (dI x5)]), (D.agg [(Dw n6 2 l6), (dI x7), (dI x8)])] [(dI n8), (D.val (Value.bool true))]) ∧
 (bcase (dL n0 2 l0)
 (bcase (dL n4 1 l4)
 (bcase (dL n6 2 l6)
 (∃ n9 : Int,
 (((Says C 23 [(D.agg [(Dw n0 2 l0), (dI x1), (dI x2), (dI x3)]), (D.agg [(Dw n4 1 l4), (dI x5)]), (D.agg [(Dw n6 2 l6), (dI x7), (dI x8)])] [(dI n9), (D.val (Value.bool true))]) ∧
 (bcase (n2 != 0)
 (k kF)
 (bcase (n1 != n8)
 (k kF)
 (bcase (n5 != 0)
 (k kF)
 (bcase (n3 != n9)
 (k kF)
 (bcase (decide (0 ≤ IntKind.wrap .i64 ((↑n6 : Int) - 1)))
 (bcase (decide (IntKind.wrap .i64 ((↑n6 : Int) - 1) < (↑n6 : Int)))
 (∃ n10 : Int,
 ((At (l6) ((0 + Int.toNat (IntKind.wrap .i64 ((↑n6 : Int) - 1)) * 2) + 1) 1 [(vI n10)]) ∧
 (bcase (decide (IntKind.wrap .i64 (n10 + n1) > 200))
 (k kT)
 (bcase (dL n6 2 l6)
 ((Says C 19 [(D.agg [(Dw n6 2 l6), (dI x7), (dI x8)])] [(D.agg [(Dw n6 2 l6), (dI x7), (dI x8)])]) ∧
 (bcase (decide (0 ≤ IntKind.wrap .i64 ((↑n6 : Int) - 1)))
 (bcase (decide (IntKind.wrap .i64 ((↑n6 : Int) - 1) < (↑n6 : Int)))
 (∃ n11 : Int,
 ((At (Tk n6 2 l6) ((0 + Int.toNat (IntKind.wrap .i64 ((↑n6 : Int) - 1)) * 2) + 1) 1 [(vI n11)]) ∧
 (bcase (decide (0 ≤ IntKind.wrap .i64 ((↑n6 : Int) - 1)))
 (bcase (decide (IntKind.wrap .i64 ((↑n6 : Int) - 1) < (↑n6 : Int)))
 (((Qv (Value.pointer (some (Addr.mk 1012 ((0 + Int.toNat (IntKind.wrap .i64 ((↑n6 : Int) - 1)) * 2) + 1) none)))) ∧
 ((bcase (decide (0 ≤ IntKind.wrap .i64 ((↑n6 : Int) - 1)))
 (bcase (decide (IntKind.wrap .i64 ((↑n6 : Int) - 1) < (↑n6 : Int)))
 (Qv (Pt 1012 (0 + Int.toNat (IntKind.wrap .i64 ((↑n6 : Int) - 1)) * 2)))
 False)
 False) ∧
 ((Qv (vI (IntKind.wrap .i64 (n11 + n1)))) ∧
 ((Qv (vI n1)) ∧
 ((∃ n12 : Int,
 ((At (Tk n6 2 l6) ((0 + Int.toNat (IntKind.wrap .i64 ((↑n6 : Int) - 1)) * 2) + 1) 1 [(vI n12)]) ∧
 ((vI n12) = (vI n11)))) ∧
 (((Value.pointer (some (Addr.mk 1012 ((0 + Int.toNat (IntKind.wrap .i64 ((↑n6 : Int) - 1)) * 2) + 1) none))) = (Value.pointer (some (Addr.mk 1012 ((0 + Int.toNat (IntKind.wrap .i64 ((↑n6 : Int) - 1)) * 2) + 1) none)))) ∧
 ((bcase (decide (0 ≤ IntKind.wrap .i64 ((↑n6 : Int) - 1)))
 (bcase (decide (IntKind.wrap .i64 ((↑n6 : Int) - 1) < (↑n6 : Int)))
 (Qv (Pt 1012 (0 + Int.toNat (IntKind.wrap .i64 ((↑n6 : Int) - 1)) * 2)))
 False)
 False) ∧
 ((Qv (vI (IntKind.wrap .i64 ((↑n6 : Int) - 1)))) ∧
 ((Qv (Sl 1012 (n6) (n6))) ∧
 ((Qv (Pt 1013 0)) ∧
 ((Qv (vI (IntKind.wrap .i64 ((↑n6 : Int) - 1)))) ∧
 ((Qv (Sl 1012 (n6) (n6))) ∧
 ((Qv (Pt 1013 0)) ∧
 True))))))))))))) ∧
 (bcase (decide ((0 + Int.toNat (IntKind.wrap .i64 ((↑n6 : Int) - 1)) * 2) + 1 + 1 ≤ List.length (Tk n6 2 l6)))
 (((bcase (decide (0 ≤ IntKind.wrap .i64 ((↑n6 : Int) - 1)))
 (bcase (decide (IntKind.wrap .i64 ((↑n6 : Int) - 1) < (↑n6 : Int)))
 (Qv (Pt 1012 (0 + Int.toNat (IntKind.wrap .i64 ((↑n6 : Int) - 1)) * 2)))
 False)
 False) ∧
 True) ∧
 (((Qv (Value.agg [(Sl 1012 (n6) (n6)), (vI x7), (vI x8)].toArray)) ∧
 ((Qv (Value.agg [(Sl 501 (n4) (c4)), (vI x5)].toArray)) ∧
 ((Qv (Value.agg [(Sl 500 (n0) (c0)), (vI x1), (vI x2), (vI x3)].toArray)) ∧
 True))) ∧
 (bcase (dL n0 2 l0)
 ((Says C 12 [(D.agg [(Dw n0 2 l0), (dI x1), (dI x2), (dI x3)])] [(D.agg [(Dw n0 2 l0), (dI x1), (dI x2), (dI x3)])]) ∧
 (((Qv (Value.agg [(Sl 1012 (n6) (n6)), (vI x7), (vI x8)].toArray)) ∧
 ((Qv (Value.agg [(Sl 501 (n4) (c4)), (vI x5)].toArray)) ∧
 True)) ∧
 (bcase (dL n4 1 l4)
 ((Says C 9 [(D.agg [(Dw n4 1 l4), (dI x5)])] [(D.agg [(Dw n4 1 l4), (dI x5)])]) ∧
 (((Qv (Value.agg [(Sl 1012 (n6) (n6)), (vI x7), (vI x8)].toArray)) ∧
 True) ∧
 (bcase (dL n0 2 (Tk n0 2 l0))
 (bcase (dL n4 1 (Tk n4 1 l4))
 (bcase (decide (0 + n6 * 2 ≤ List.length (listSet (Tk n6 2 l6) ((0 + Int.toNat (IntKind.wrap .i64 ((↑n6 : Int) - 1)) * 2) + 1) [vI (IntKind.wrap .i64 (n11 + n1))])))
 (∃ n12 : Int,
 (∃ n13 : Int,
 ((Says C 17 [(D.agg [(Dw n0 2 (Tk n0 2 l0)), (dI x1), (dI x2), (dI x3)]), (D.agg [(Dw n4 1 (Tk n4 1 l4)), (dI x5)]), (D.agg [(D.sl (n6) 2 (List.take (n6 * 2) (List.drop 0 (listSet (Tk n6 2 l6) ((0 + Int.toNat (IntKind.wrap .i64 ((↑n6 : Int) - 1)) * 2) + 1) [vI (IntKind.wrap .i64 (n11 + n1))])))), (dI x7), (dI x8)])] [(dI n12), (dI n13)]) ∧
 (((Qv (vI n13)) ∧
 ((Qv (vI n12)) ∧
 ((Qv (Value.tuple [(vI n12), (vI n13)].toArray)) ∧
 True))) ∧
 (((Qv (vI n13)) ∧
 True) ∧
 (True ∧
 (bcase (n13 == 0)
 (bcase (n12 == 2)
 (k kT)
 (k kF))
 (k kF))))))))
 False)
 False)
 False)))
 False)))
 False)))
 False))
 False)
 False)))
 False)
 False))
 False))))
 False)
 False)))))) ∨
 ((Says C 23 [(D.agg [(Dw n0 2 l0), (dI x1), (dI x2), (dI x3)]), (D.agg [(Dw n4 1 l4), (dI x5)]), (D.agg [(Dw n6 2 l6), (dI x7), (dI x8)])] [(dI n9), (D.val (Value.bool false))]) ∧
 (bcase (n2 != 0)
 (k kF)
 (bcase (n1 != n8)
 (k kF)
 (bcase (n5 != 24)
 (k kF)
 (bcase (n3 != 0)
 (k kF)
 (bcase (decide (0 ≤ IntKind.wrap .i64 ((↑n6 : Int) - 1)))
 (bcase (decide (IntKind.wrap .i64 ((↑n6 : Int) - 1) < (↑n6 : Int)))
 (∃ n10 : Int,
 ((At (l6) ((0 + Int.toNat (IntKind.wrap .i64 ((↑n6 : Int) - 1)) * 2) + 1) 1 [(vI n10)]) ∧
 (bcase (decide (IntKind.wrap .i64 (n10 + n1) > 200))
 (k kT)
 (bcase (dL n6 2 l6)
 ((Says C 19 [(D.agg [(Dw n6 2 l6), (dI x7), (dI x8)])] [(D.agg [(Dw n6 2 l6), (dI x7), (dI x8)])]) ∧
 (bcase (decide (0 ≤ IntKind.wrap .i64 ((↑n6 : Int) - 1)))
 (bcase (decide (IntKind.wrap .i64 ((↑n6 : Int) - 1) < (↑n6 : Int)))
 (∃ n11 : Int,
 ((At (Tk n6 2 l6) ((0 + Int.toNat (IntKind.wrap .i64 ((↑n6 : Int) - 1)) * 2) + 1) 1 [(vI n11)]) ∧
 (bcase (decide (0 ≤ IntKind.wrap .i64 ((↑n6 : Int) - 1)))
 (bcase (decide (IntKind.wrap .i64 ((↑n6 : Int) - 1) < (↑n6 : Int)))
 (((Qv (Value.pointer (some (Addr.mk 1012 ((0 + Int.toNat (IntKind.wrap .i64 ((↑n6 : Int) - 1)) * 2) + 1) none)))) ∧
 ((bcase (decide (0 ≤ IntKind.wrap .i64 ((↑n6 : Int) - 1)))
 (bcase (decide (IntKind.wrap .i64 ((↑n6 : Int) - 1) < (↑n6 : Int)))
 (Qv (Pt 1012 (0 + Int.toNat (IntKind.wrap .i64 ((↑n6 : Int) - 1)) * 2)))
 False)
 False) ∧
 ((Qv (vI (IntKind.wrap .i64 (n11 + n1)))) ∧
 ((Qv (vI n1)) ∧
 ((∃ n12 : Int,
 ((At (Tk n6 2 l6) ((0 + Int.toNat (IntKind.wrap .i64 ((↑n6 : Int) - 1)) * 2) + 1) 1 [(vI n12)]) ∧
 ((vI n12) = (vI n11)))) ∧
 (((Value.pointer (some (Addr.mk 1012 ((0 + Int.toNat (IntKind.wrap .i64 ((↑n6 : Int) - 1)) * 2) + 1) none))) = (Value.pointer (some (Addr.mk 1012 ((0 + Int.toNat (IntKind.wrap .i64 ((↑n6 : Int) - 1)) * 2) + 1) none)))) ∧
 ((bcase (decide (0 ≤ IntKind.wrap .i64 ((↑n6 : Int) - 1)))
 (bcase (decide (IntKind.wrap .i64 ((↑n6 : Int) - 1) < (↑n6 : Int)))
 (Qv (Pt 1012 (0 + Int.toNat (IntKind.wrap .i64 ((↑n6 : Int) - 1)) * 2)))
 False)
 False) ∧
 ((Qv (vI (IntKind.wrap .i64 ((↑n6 : Int) - 1)))) ∧
 ((Qv (Sl 1012 (n6) (n6))) ∧
 ((Qv (Pt 1013 0)) ∧
 ((Qv (vI (IntKind.wrap .i64 ((↑n6 : Int) - 1)))) ∧
 ((Qv (Sl 1012 (n6) (n6))) ∧
 ((Qv (Pt 1013 0)) ∧
 True))))))))))))) ∧
 (bcase (decide ((0 + Int.toNat (IntKind.wrap .i64 ((↑n6 : Int) - 1)) * 2) + 1 + 1 ≤ List.length (Tk n6 2 l6)))
 (((bcase (decide (0 ≤ IntKind.wrap .i64 ((↑n6 : Int) - 1)))
 (bcase (decide (IntKind.wrap .i64 ((↑n6 : Int) - 1) < (↑n6 : Int)))
 (Qv (Pt 1012 (0 + Int.toNat (IntKind.wrap .i64 ((↑n6 : Int) - 1)) * 2)))
 False)
 False) ∧
 True) ∧
 (((Qv (Value.agg [(Sl 1012 (n6) (n6)), (vI x7), (vI x8)].toArray)) ∧
 ((Qv (Value.agg [(Sl 501 (n4) (c4)), (vI x5)].toArray)) ∧
 ((Qv (Value.agg [(Sl 500 (n0) (c0)), (vI x1), (vI x2), (vI x3)].toArray)) ∧
 True))) ∧
 (bcase (dL n0 2 l0)
 ((Says C 12 [(D.agg [(Dw n0 2 l0), (dI x1), (dI x2), (dI x3)])] [(D.agg [(Dw n0 2 l0), (dI x1), (dI x2), (dI x3)])]) ∧
 (((Qv (Value.agg [(Sl 1012 (n6) (n6)), (vI x7), (vI x8)].toArray)) ∧
 ((Qv (Value.agg [(Sl 501 (n4) (c4)), (vI x5)].toArray)) ∧
 True)) ∧
 (bcase (dL n4 1 l4)
 ((Says C 9 [(D.agg [(Dw n4 1 l4), (dI x5)])] [(D.agg [(Dw n4 1 l4), (dI x5)])]) ∧
 (((Qv (Value.agg [(Sl 1012 (n6) (n6)), (vI x7), (vI x8)].toArray)) ∧
 True) ∧
 (bcase (dL n0 2 (Tk n0 2 l0))
 (bcase (dL n4 1 (Tk n4 1 l4))
 (bcase (decide (0 + n6 * 2 ≤ List.length (listSet (Tk n6 2 l6) ((0 + Int.toNat (IntKind.wrap .i64 ((↑n6 : Int) - 1)) * 2) + 1) [vI (IntKind.wrap .i64 (n11 + n1))])))
 (∃ n12 : Int,
 (∃ n13 : Int,
 ((Says C 17 [(D.agg [(Dw n0 2 (Tk n0 2 l0)), (dI x1), (dI x2), (dI x3)]), (D.agg [(Dw n4 1 (Tk n4 1 l4)), (dI x5)]), (D.agg [(D.sl (n6) 2 (List.take (n6 * 2) (List.drop 0 (listSet (Tk n6 2 l6) ((0 + Int.toNat (IntKind.wrap .i64 ((↑n6 : Int) - 1)) * 2) + 1) [vI (IntKind.wrap .i64 (n11 + n1))])))), (dI x7), (dI x8)])] [(dI n12), (dI n13)]) ∧
 (((Qv (vI n13)) ∧
 ((Qv (vI n12)) ∧
 ((Qv (Value.tuple [(vI n12), (vI n13)].toArray)) ∧
 True))) ∧
 (((Qv (vI n13)) ∧
 True) ∧
 (True ∧
 (bcase (n13 == 0)
 (bcase (n12 == 2)
 (k kT)
 (k kF))
 (k kF))))))))
 False)
 False)
 False)))
 False)))
 False)))
 False))
 False)
 False)))
 False)
 False))
 False))))
 False)
 False))))))))
 False)
 False)
 False)) ∨
 ((Says C 22 [(D.agg [(Dw n0 2 l0), (dI x1), (dI x2), (dI x3)]), (D.agg [(Dw n4 1 l4), (dI x5)]), (D.agg [(Dw n6 2 l6), (dI x7), (dI x8)])] [(dI n8), (D.val (Value.bool false))]) ∧
 (bcase (dL n0 2 l0)
 (bcase (dL n4 1 l4)
 (bcase (dL n6 2 l6)
 (∃ n9 : Int,
 (((Says C 23 [(D.agg [(Dw n0 2 l0), (dI x1), (dI x2), (dI x3)]), (D.agg [(Dw n4 1 l4), (dI x5)]), (D.agg [(Dw n6 2 l6), (dI x7), (dI x8)])] [(dI n9), (D.val (Value.bool true))]) ∧
 (bcase (n2 != 12)
 (k kF)
 (bcase (n1 != 0)
 (k kF)
 (bcase (n5 != 0)
 (k kF)
 (bcase (n3 != n9)
 (k kF)
 (k kT)))))) ∨
 ((Says C 23 [(D.agg [(Dw n0 2 l0), (dI x1), (dI x2), (dI x3)]), (D.agg [(Dw n4 1 l4), (dI x5)]), (D.agg [(Dw n6 2 l6), (dI x7), (dI x8)])] [(dI n9), (D.val (Value.bool false))]) ∧
 (bcase (n2 != 12)
 (k kF)
 (bcase (n1 != 0)
 (k kF)
 (bcase (n5 != 24)
 (k kF)
 (bcase (n3 != 0)
 (k kF)
 (k kT))))))))
 False)
 False)
 False))))
 False)
 False)
 False)))))
 False)
 False)))))))
 False)
 False)
 False)))
 False)))
 False)))
 False))))))))
 False)
 False)
 False)))
 False)))
 False)))
 False)))
 (k kT))
 (k kT))) ∨
 ((Says C 5 [] kF) ∧
 (k kF))) := by kernel_rfl
def gDssn (C : Ct) (L : AtLoop) (n0 : Nat) (c0 : Nat) (l0 : List Value) (x1 : Int) (x2 : Int) (x3 : Int) (n4 : Nat) (c4 : Nat) (l4 : List Value) (x5 : Int) (x7 : Int) (x8 : Int) (k : List D → Prop) : Prop := wpFn Try.prog (hL C) L 0 4 #[.agg #[.slice (some ⟨500, 0, none⟩) n0 c0, .int .i64 x1, .int .i64 x2, .int .i64 x3], .agg #[.slice (some ⟨501, 0, none⟩) n4 c4, .int .i64 x5], .agg #[.slice none 0 0, .int .i64 x7, .int .i64 x8]] (heapOf [(500, .sym l0 false 2), (501, .sym l4 false 1)]) (dataK k)
theorem gDssn_text (C : Ct) (L : AtLoop) (n0 : Nat) (c0 : Nat) (l0 : List Go.Value) (x1 : Int) (x2 : Int) (x3 : Int) (n4 : Nat) (c4 : Nat) (l4 : List Go.Value) (x5 : Int) (x7 : Int) (x8 : Int) (k : List D → Prop) : gDssn C L n0 c0 l0 x1 x2 x3 n4 c4 l4 x5 x7 x8 k =
 (((Says C 5 [] kT) ∧
 (bcase (decide ((↑n0 : Int) ≤ 12))
 (bcase (decide ((↑n4 : Int) ≤ 10))
 (((Qv (Value.agg [(Value.slice none 0 0), (vI x7), (vI x8)].toArray)) ∧
 ((Qv (Value.agg [(Sl 501 (n4) (c4)), (vI x5)].toArray)) ∧
 ((Qv (Value.agg [(Sl 500 (n0) (c0)), (vI x1), (vI x2), (vI x3)].toArray)) ∧
 True))) ∧
 (bcase (dL n0 2 l0)
 ((Says C 12 [(D.agg [(Dw n0 2 l0), (dI x1), (dI x2), (dI x3)])] [(D.agg [(Dw n0 2 l0), (dI x1), (dI x2), (dI x3)])]) ∧
 (((Qv (Value.agg [(Value.slice none 0 0), (vI x7), (vI x8)].toArray)) ∧
 ((Qv (Value.agg [(Sl 501 (n4) (c4)), (vI x5)].toArray)) ∧
 True)) ∧
 (bcase (dL n4 1 l4)
 ((Says C 9 [(D.agg [(Dw n4 1 l4), (dI x5)])] [(D.agg [(Dw n4 1 l4), (dI x5)])]) ∧
 (((Qv (Value.agg [(Value.slice none 0 0), (vI x7), (vI x8)].toArray)) ∧
 True) ∧
 ((Says C 19 [(D.agg [D.nil, (dI x7), (dI x8)])] [(D.agg [(D.sl 0 2 []), (dI x7), (dI x8)])]) ∧
 (True ∧
 (bcase (dL n0 2 (Tk n0 2 l0))
 (bcase (dL n4 1 (Tk n4 1 l4))
 (∃ n1 : Int,
 (∃ n2 : Int,
 ((Says C 18 [(D.agg [(Dw n0 2 (Tk n0 2 l0)), (dI x1), (dI x2), (dI x3)]), (D.agg [(Dw n4 1 (Tk n4 1 l4)), (dI x5)]), (D.agg [(D.sl 0 2 []), (dI x7), (dI x8)])] [(dI n1), (dI n2)]) ∧
 (((Qv (vI n2)) ∧
 ((Qv (vI n1)) ∧
 ((Qv (Value.tuple [(vI n1), (vI n2)].toArray)) ∧
 True))) ∧
 (((Qv (vI n2)) ∧
 True) ∧
 (True ∧
 (((Qv (Value.agg [(Value.slice none 0 0), (vI x7), (vI x8)].toArray)) ∧
 ((Qv (Value.agg [(Sl 501 (n4) (c4)), (vI x5)].toArray)) ∧
 ((Qv (Value.agg [(Sl 500 (n0) (c0)), (vI x1), (vI x2), (vI x3)].toArray)) ∧
 True))) ∧
 (bcase (dL n0 2 l0)
 ((Says C 12 [(D.agg [(Dw n0 2 l0), (dI x1), (dI x2), (dI x3)])] [(D.agg [(Dw n0 2 l0), (dI x1), (dI x2), (dI x3)])]) ∧
 (((Qv (Value.agg [(Value.slice none 0 0), (vI x7), (vI x8)].toArray)) ∧
 ((Qv (Value.agg [(Sl 501 (n4) (c4)), (vI x5)].toArray)) ∧
 True)) ∧
 (bcase (dL n4 1 l4)
 ((Says C 9 [(D.agg [(Dw n4 1 l4), (dI x5)])] [(D.agg [(Dw n4 1 l4), (dI x5)])]) ∧
 (((Qv (Value.agg [(Value.slice none 0 0), (vI x7), (vI x8)].toArray)) ∧
 True) ∧
 ((Says C 19 [(D.agg [D.nil, (dI x7), (dI x8)])] [(D.agg [(D.sl 0 2 []), (dI x7), (dI x8)])]) ∧
 (True ∧
 (bcase (dL n0 2 (Tk n0 2 l0))
 (bcase (dL n4 1 (Tk n4 1 l4))
 (∃ n3 : Int,
 (∃ n5 : Int,
 ((Says C 20 [(D.agg [(Dw n0 2 (Tk n0 2 l0)), (dI x1), (dI x2), (dI x3)]), (D.agg [(Dw n4 1 (Tk n4 1 l4)), (dI x5)]), (D.agg [(D.sl 0 2 []), (dI x7), (dI x8)])] [(dI n3), (dI n5)]) ∧
 (((Qv (vI n5)) ∧
 ((Qv (vI n3)) ∧
 ((Qv (Value.tuple [(vI n3), (vI n5)].toArray)) ∧
 True))) ∧
 (((Qv (vI n5)) ∧
 True) ∧
 (True ∧
 (bcase (dL n0 2 l0)
 (bcase (dL n4 1 l4)
 (∃ n6 : Int,
 ((Says C 7 [(D.agg [(Dw n0 2 l0), (dI x1), (dI x2), (dI x3)]), (D.agg [(Dw n4 1 l4), (dI x5)])] [(dI n6)]) ∧
 (bcase (n6 == 0)
 (∃ n7 : Int,
 ((Says C 21 [(D.agg [D.nil, (dI x7), (dI x8)])] [(dI n7)]) ∧
 (bcase (n7 != 0)
 (bcase (n2 == n7)
 (bcase (n5 == n7)
 (bcase (n1 == 0)
 (bcase (n3 == 0)
 (k kT)
 (k kF))
 (k kF))
 (k kF))
 (k kF))
 (bcase (dL n0 2 l0)
 (bcase (dL n4 1 l4)
 (∃ n8 : Int,
 (((Says C 22 [(D.agg [(Dw n0 2 l0), (dI x1), (dI x2), (dI x3)]), (D.agg [(Dw n4 1 l4), (dI x5)]), (D.agg [D.nil, (dI x7), (dI x8)])] [(dI n8), (D.val (Value.bool true))]) ∧
 (bcase (dL n0 2 l0)
 (bcase (dL n4 1 l4)
 (∃ n9 : Int,
 (((Says C 23 [(D.agg [(Dw n0 2 l0), (dI x1), (dI x2), (dI x3)]), (D.agg [(Dw n4 1 l4), (dI x5)]), (D.agg [D.nil, (dI x7), (dI x8)])] [(dI n9), (D.val (Value.bool true))]) ∧
 (bcase (n2 != 0)
 (k kF)
 (bcase (n1 != n8)
 (k kF)
 (bcase (n5 != 0)
 (k kF)
 (bcase (n3 != n9)
 (k kF)
 False))))) ∨
 ((Says C 23 [(D.agg [(Dw n0 2 l0), (dI x1), (dI x2), (dI x3)]), (D.agg [(Dw n4 1 l4), (dI x5)]), (D.agg [D.nil, (dI x7), (dI x8)])] [(dI n9), (D.val (Value.bool false))]) ∧
 (bcase (n2 != 0)
 (k kF)
 (bcase (n1 != n8)
 (k kF)
 (bcase (n5 != 24)
 (k kF)
 (bcase (n3 != 0)
 (k kF)
 False)))))))
 False)
 False)) ∨
 ((Says C 22 [(D.agg [(Dw n0 2 l0), (dI x1), (dI x2), (dI x3)]), (D.agg [(Dw n4 1 l4), (dI x5)]), (D.agg [D.nil, (dI x7), (dI x8)])] [(dI n8), (D.val (Value.bool false))]) ∧
 (bcase (dL n0 2 l0)
 (bcase (dL n4 1 l4)
 (∃ n9 : Int,
 (((Says C 23 [(D.agg [(Dw n0 2 l0), (dI x1), (dI x2), (dI x3)]), (D.agg [(Dw n4 1 l4), (dI x5)]), (D.agg [D.nil, (dI x7), (dI x8)])] [(dI n9), (D.val (Value.bool true))]) ∧
 (bcase (n2 != 12)
 (k kF)
 (bcase (n1 != 0)
 (k kF)
 (bcase (n5 != 0)
 (k kF)
 (bcase (n3 != n9)
 (k kF)
 (k kT)))))) ∨
 ((Says C 23 [(D.agg [(Dw n0 2 l0), (dI x1), (dI x2), (dI x3)]), (D.agg [(Dw n4 1 l4), (dI x5)]), (D.agg [D.nil, (dI x7), (dI x8)])] [(dI n9), (D.val (Value.bool false))]) ∧
 (bcase (n2 != 12)
 (k kF)
 (bcase (n1 != 0)
 (k kF)
 (bcase (n5 != 24)
 (k kF)
 (bcase (n3 != 0)
 (k kF)
 (k kT))))))))
 False)
 False))))
 False)
 False))))
 (bcase (n6 != 0)
 (bcase (n2 == n6)
 (bcase (n5 == n6)
 (bcase (n1 == 0)
 (bcase (n3 == 0)
 (k kT)
 (k kF))
 (k kF))
 (k kF))
 (k kF))
 (bcase (dL n0 2 l0)
 (bcase (dL n4 1 l4)
 (∃ n7 : Int,
 (((Says C 22 [(D.agg [(Dw n0 2 l0), (dI x1), (dI x2), (dI x3)]), (D.agg [(Dw n4 1 l4), (dI x5)]), (D.agg [D.nil, (dI x7), (dI x8)])] [(dI n7), (D.val (Value.bool true))]) ∧
 (bcase (dL n0 2 l0)
 (bcase (dL n4 1 l4)
 (∃ n8 : Int,
 (((Says C 23 [(D.agg [(Dw n0 2 l0), (dI x1), (dI x2), (dI x3)]), (D.agg [(Dw n4 1 l4), (dI x5)]), (D.agg [D.nil, (dI x7), (dI x8)])] [(dI n8), (D.val (Value.bool true))]) ∧
 (bcase (n2 != 0)
 (k kF)
 (bcase (n1 != n7)
 (k kF)
 (bcase (n5 != 0)
 (k kF)
 (bcase (n3 != n8)
 (k kF)
 False))))) ∨
 ((Says C 23 [(D.agg [(Dw n0 2 l0), (dI x1), (dI x2), (dI x3)]), (D.agg [(Dw n4 1 l4), (dI x5)]), (D.agg [D.nil, (dI x7), (dI x8)])] [(dI n8), (D.val (Value.bool false))]) ∧
 (bcase (n2 != 0)
 (k kF)
 (bcase (n1 != n7)
 (k kF)
 (bcase (n5 != 24)
 (k kF)
 (bcase (n3 != 0)
 (k kF)
 False)))))))
 False)
 False)) ∨
 ((Says C 22 [(D.agg [(Dw n0 2 l0), (dI x1), (dI x2), (dI x3)]), (D.agg [(Dw n4 1 l4), (dI x5)]), (D.agg [D.nil, (dI x7), (dI x8)])] [(dI n7), (D.val (Value.bool false))]) ∧
 (bcase (dL n0 2 l0)
 (bcase (dL n4 1 l4)
 (∃ n8 : Int,
 (((Says C 23 [(D.agg [(Dw n0 2 l0), (dI x1), (dI x2), (dI x3)]), (D.agg [(Dw n4 1 l4), (dI x5)]), (D.agg [D.nil, (dI x7), (dI x8)])] [(dI n8), (D.val (Value.bool true))]) ∧
 (bcase (n2 != 12)
 (k kF)
 (bcase (n1 != 0)
 (k kF)
 (bcase (n5 != 0)
 (k kF)
 (bcase (n3 != n8)
 (k kF)
 (k kT)))))) ∨
 ((Says C 23 [(D.agg [(Dw n0 2 l0), (dI x1), (dI x2), (dI x3)]), (D.agg [(Dw n4 1 l4), (dI x5)]), (D.agg [D.nil, (dI x7), (dI x8)])] [(dI n8), (D.val (Value.bool false))]) ∧
 (bcase (n2 != 12)
 (k kF)
 (bcase (n1 != 0)
 (k kF)
 (bcase (n5 != 24)
 (k kF)
 (bcase (n3 != 0)
 (k kF)
 (k kT))))))))
 False)
 False))))
 False)
 False)))))
 False)
 False)))))))
 False)
 False)))))
 False)))
 False))))))))
 False)
 False)))))
 False)))
 False))
 (k kT))
 (k kT))) ∨
 ((Says C 5 [] kF) ∧
 (k kF))) := by kernel_rfl
def gDsns (C : Ct) (L : AtLoop) (n0 : Nat) (c0 : Nat) (l0 : List Value) (x1 : Int) (x2 : Int) (x3 : Int) (x5 : Int) (n6 : Nat) (c6 : Nat) (l6 : List Value) (x7 : Int) (x8 : Int) (k : List D → Prop) : Prop := wpFn Try.prog (hL C) L 0 4 #[.agg #[.slice (some ⟨500, 0, none⟩) n0 c0, .int .i64 x1, .int .i64 x2, .int .i64 x3], .agg #[.slice none 0 0, .int .i64 x5], .agg #[.slice (some ⟨501, 0, none⟩) n6 c6, .int .i64 x7, .int .i64 x8]] (heapOf [(500, .sym l0 false 2), (501, .sym l6 false 2)]) (dataK k)
theorem gDsns_text (C : Ct) (L : AtLoop) (n0 : Nat) (c0 : Nat) (l0 : List Go.Value) (x1 : Int) (x2 : Int) (x3 : Int) (x5 : Int) (n6 : Nat) (c6 : Nat) (l6 : List Go.Value) (x7 : Int) (x8 : Int) (k : List D → Prop) : gDsns C L n0 c0 l0 x1 x2 x3 x5 n6 c6 l6 x7 x8 k =
 (((Says C 5 [] kT) ∧
 (bcase (decide ((↑n0 : Int) ≤ 12))
 (bcase (decide ((↑n6 : Int) > 7))
 (k kT)
 (((Qv (Value.agg [(Sl 501 (n6) (c6)), (vI x7), (vI x8)].toArray)) ∧
 ((Qv (Value.agg [(Value.slice none 0 0), (vI x5)].toArray)) ∧
 ((Qv (Value.agg [(Sl 500 (n0) (c0)), (vI x1), (vI x2), (vI x3)].toArray)) ∧
 True))) ∧
 (bcase (dL n0 2 l0)
 ((Says C 12 [(D.agg [(Dw n0 2 l0), (dI x1), (dI x2), (dI x3)])] [(D.agg [(Dw n0 2 l0), (dI x1), (dI x2), (dI x3)])]) ∧
 (((Qv (Value.agg [(Sl 501 (n6) (c6)), (vI x7), (vI x8)].toArray)) ∧
 ((Qv (Value.agg [(Value.slice none 0 0), (vI x5)].toArray)) ∧
 True)) ∧
 ((Says C 9 [(D.agg [D.nil, (dI x5)])] [(D.agg [(D.sl 0 1 []), (dI x5)])]) ∧
 (((Qv (Value.agg [(Sl 501 (n6) (c6)), (vI x7), (vI x8)].toArray)) ∧
 True) ∧
 (bcase (dL n6 2 l6)
 ((Says C 19 [(D.agg [(Dw n6 2 l6), (dI x7), (dI x8)])] [(D.agg [(Dw n6 2 l6), (dI x7), (dI x8)])]) ∧
 (True ∧
 (bcase (dL n0 2 (Tk n0 2 l0))
 (bcase (dL n6 2 (Tk n6 2 l6))
 (∃ n1 : Int,
 (∃ n2 : Int,
 ((Says C 18 [(D.agg [(Dw n0 2 (Tk n0 2 l0)), (dI x1), (dI x2), (dI x3)]), (D.agg [(D.sl 0 1 []), (dI x5)]), (D.agg [(Dw n6 2 (Tk n6 2 l6)), (dI x7), (dI x8)])] [(dI n1), (dI n2)]) ∧
 (((Qv (vI n2)) ∧
 ((Qv (vI n1)) ∧
 ((Qv (Value.tuple [(vI n1), (vI n2)].toArray)) ∧
 True))) ∧
 (((Qv (vI n2)) ∧
 True) ∧
 (True ∧
 (((Qv (Value.agg [(Sl 501 (n6) (c6)), (vI x7), (vI x8)].toArray)) ∧
 ((Qv (Value.agg [(Value.slice none 0 0), (vI x5)].toArray)) ∧
 ((Qv (Value.agg [(Sl 500 (n0) (c0)), (vI x1), (vI x2), (vI x3)].toArray)) ∧
 True))) ∧
 (bcase (dL n0 2 l0)
 ((Says C 12 [(D.agg [(Dw n0 2 l0), (dI x1), (dI x2), (dI x3)])] [(D.agg [(Dw n0 2 l0), (dI x1), (dI x2), (dI x3)])]) ∧
 (((Qv (Value.agg [(Sl 501 (n6) (c6)), (vI x7), (vI x8)].toArray)) ∧
 ((Qv (Value.agg [(Value.slice none 0 0), (vI x5)].toArray)) ∧
 True)) ∧
 ((Says C 9 [(D.agg [D.nil, (dI x5)])] [(D.agg [(D.sl 0 1 []), (dI x5)])]) ∧
 (((Qv (Value.agg [(Sl 501 (n6) (c6)), (vI x7), (vI x8)].toArray)) ∧
 True) ∧
 (bcase (dL n6 2 l6)
 ((Says C 19 [(D.agg [(Dw n6 2 l6), (dI x7), (dI x8)])] [(D.agg [(Dw n6 2 l6), (dI x7), (dI x8)])]) ∧
 (True ∧
 (bcase (dL n0 2 (Tk n0 2 l0))
 (bcase (dL n6 2 (Tk n6 2 l6))
 (∃ n3 : Int,
 (∃ n4 : Int,
 ((Says C 20 [(D.agg [(Dw n0 2 (Tk n0 2 l0)), (dI x1), (dI x2), (dI x3)]), (D.agg [(D.sl 0 1 []), (dI x5)]), (D.agg [(Dw n6 2 (Tk n6 2 l6)), (dI x7), (dI x8)])] [(dI n3), (dI n4)]) ∧
 (((Qv (vI n4)) ∧
 ((Qv (vI n3)) ∧
 ((Qv (Value.tuple [(vI n3), (vI n4)].toArray)) ∧
 True))) ∧
 (((Qv (vI n4)) ∧
 True) ∧
 (True ∧
 (bcase (dL n0 2 l0)
 (∃ n5 : Int,
 ((Says C 7 [(D.agg [(Dw n0 2 l0), (dI x1), (dI x2), (dI x3)]), (D.agg [D.nil, (dI x5)])] [(dI n5)]) ∧
 (bcase (n5 == 0)
 (bcase (dL n6 2 l6)
 (∃ n7 : Int,
 ((Says C 21 [(D.agg [(Dw n6 2 l6), (dI x7), (dI x8)])] [(dI n7)]) ∧
 (bcase (n7 != 0)
 (bcase (n2 == n7)
 (bcase (n4 == n7)
 (bcase (n1 == 0)
 (bcase (n3 == 0)
 (k kT)
 (k kF))
 (k kF))
 (k kF))
 (k kF))
 (bcase (dL n0 2 l0)
 (bcase (dL n6 2 l6)
 (∃ n8 : Int,
 (((Says C 22 [(D.agg [(Dw n0 2 l0), (dI x1), (dI x2), (dI x3)]), (D.agg [D.nil, (dI x5)]), (D.agg [(Dw n6 2 l6), (dI x7), (dI x8)])] [(dI n8), (D.val (Value.bool true))]) ∧
 (bcase (dL n0 2 l0)
 (bcase (dL n6 2 l6)
 (∃ n9 : Int,
 (((Says C 23 [(D.agg [(Dw n0 2 l0), (dI x1), (dI x2), (dI x3)]), (D.agg [D.nil, (dI x5)]), (D.agg [(Dw n6 2 l6), (dI x7), (dI x8)])] [(dI n9), (D.val (Value.bool true))]) ∧
 (bcase (n2 != 0)
 (k kF)
 (bcase (n1 != n8)
 (k kF)
 (bcase (n4 != 0)
 (k kF)
 (bcase (n3 != n9)
 (k kF)
 (bcase (decide (0 ≤ IntKind.wrap .i64 ((↑n6 : Int) - 1)))
 (bcase (decide (IntKind.wrap .i64 ((↑n6 : Int) - 1) < (↑n6 : Int)))
 (∃ n10 : Int,
 ((At (l6) ((0 + Int.toNat (IntKind.wrap .i64 ((↑n6 : Int) - 1)) * 2) + 1) 1 [(vI n10)]) ∧
 (bcase (decide (IntKind.wrap .i64 (n10 + n1) > 200))
 (k kT)
 (bcase (dL n6 2 l6)
 ((Says C 19 [(D.agg [(Dw n6 2 l6), (dI x7), (dI x8)])] [(D.agg [(Dw n6 2 l6), (dI x7), (dI x8)])]) ∧
 (bcase (decide (0 ≤ IntKind.wrap .i64 ((↑n6 : Int) - 1)))
 (bcase (decide (IntKind.wrap .i64 ((↑n6 : Int) - 1) < (↑n6 : Int)))
 (∃ n11 : Int,
 ((At (Tk n6 2 l6) ((0 + Int.toNat (IntKind.wrap .i64 ((↑n6 : Int) - 1)) * 2) + 1) 1 [(vI n11)]) ∧
 (bcase (decide (0 ≤ IntKind.wrap .i64 ((↑n6 : Int) - 1)))
 (bcase (decide (IntKind.wrap .i64 ((↑n6 : Int) - 1) < (↑n6 : Int)))
 (((Qv (Value.pointer (some (Addr.mk 1012 ((0 + Int.toNat (IntKind.wrap .i64 ((↑n6 : Int) - 1)) * 2) + 1) none)))) ∧
 ((bcase (decide (0 ≤ IntKind.wrap .i64 ((↑n6 : Int) - 1)))
 (bcase (decide (IntKind.wrap .i64 ((↑n6 : Int) - 1) < (↑n6 : Int)))
 (Qv (Pt 1012 (0 + Int.toNat (IntKind.wrap .i64 ((↑n6 : Int) - 1)) * 2)))
 False)
 False) ∧
 ((Qv (vI (IntKind.wrap .i64 (n11 + n1)))) ∧
 ((Qv (vI n1)) ∧
 ((∃ n12 : Int,
 ((At (Tk n6 2 l6) ((0 + Int.toNat (IntKind.wrap .i64 ((↑n6 : Int) - 1)) * 2) + 1) 1 [(vI n12)]) ∧
 ((vI n12) = (vI n11)))) ∧
 (((Value.pointer (some (Addr.mk 1012 ((0 + Int.toNat (IntKind.wrap .i64 ((↑n6 : Int) - 1)) * 2) + 1) none))) = (Value.pointer (some (Addr.mk 1012 ((0 + Int.toNat (IntKind.wrap .i64 ((↑n6 : Int) - 1)) * 2) + 1) none)))) ∧
 ((bcase (decide (0 ≤ IntKind.wrap .i64 ((↑n6 : Int) - 1)))
 (bcase (decide (IntKind.wrap .i64 ((↑n6 : Int) - 1) < (↑n6 : Int)))
 (Qv (Pt 1012 (0 + Int.toNat (IntKind.wrap .i64 ((↑n6 : Int) - 1)) * 2)))
 False)
 False) ∧
 ((Qv (vI (IntKind.wrap .i64 ((↑n6 : Int) - 1)))) ∧
 ((Qv (Sl 1012 (n6) (n6))) ∧
 ((Qv (Pt 1013 0)) ∧
 ((Qv (vI (IntKind.wrap .i64 ((↑n6 : Int) - 1)))) ∧
 ((Qv (Sl 1012 (n6) (n6))) ∧
 ((Qv (Pt 1013 0)) ∧
 True))))))))))))) ∧
 (bcase (decide ((0 + Int.toNat (IntKind.wrap .i64 ((↑n6 : Int) - 1)) * 2) + 1 + 1 ≤ List.length (Tk n6 2 l6)))
 (((bcase (decide (0 ≤ IntKind.wrap .i64 ((↑n6 : Int) - 1)))
 (bcase (decide (IntKind.wrap .i64 ((↑n6 : Int) - 1) < (↑n6 : Int)))
 (Qv (Pt 1012 (0 + Int.toNat (IntKind.wrap .i64 ((↑n6 : Int) - 1)) * 2)))
 False)
 False) ∧
 True) ∧
 (((Qv (Value.agg [(Sl 1012 (n6) (n6)), (vI x7), (vI x8)].toArray)) ∧
 ((Qv (Value.agg [(Value.slice none 0 0), (vI x5)].toArray)) ∧
 ((Qv (Value.agg [(Sl 500 (n0) (c0)), (vI x1), (vI x2), (vI x3)].toArray)) ∧
 True))) ∧
 (bcase (dL n0 2 l0)
 ((Says C 12 [(D.agg [(Dw n0 2 l0), (dI x1), (dI x2), (dI x3)])] [(D.agg [(Dw n0 2 l0), (dI x1), (dI x2), (dI x3)])]) ∧
 (((Qv (Value.agg [(Sl 1012 (n6) (n6)), (vI x7), (vI x8)].toArray)) ∧
 ((Qv (Value.agg [(Value.slice none 0 0), (vI x5)].toArray)) ∧
 True)) ∧
 ((Says C 9 [(D.agg [D.nil, (dI x5)])] [(D.agg [(D.sl 0 1 []), (dI x5)])]) ∧
 (((Qv (Value.agg [(Sl 1012 (n6) (n6)), (vI x7), (vI x8)].toArray)) ∧
 True) ∧
 (bcase (dL n0 2 (Tk n0 2 l0))
 (bcase (decide (0 + n6 * 2 ≤ List.length (listSet (Tk n6 2 l6) ((0 + Int.toNat (IntKind.wrap .i64 ((↑n6 : Int) - 1)) * 2) + 1) [vI (IntKind.wrap .i64 (n11 + n1))])))
 (∃ n12 : Int,
 (∃ n13 : Int,
 ((Says C 17 [(D.agg [(Dw n0 2 (Tk n0 2 l0)), (dI x1), (dI x2), (dI x3)]), (D.agg [(D.sl 0 1 []), (dI x5)]), (D.agg [(D.sl (n6) 2 (List.take (n6 * 2) (List.drop 0 (listSet (Tk n6 2 l6) ((0 + Int.toNat (IntKind.wrap .i64 ((↑n6 : Int) - 1)) * 2) + 1) [vI (IntKind.wrap .i64 (n11 + n1))])))), (dI x7), (dI x8)])] [(dI n12), (dI n13)]) ∧
 (((Qv (vI n13)) ∧
 ((Qv (vI n12)) ∧
 ((Qv (Value.tuple [(vI n12), (vI n13)].toArray)) ∧
 True))) ∧
 (((Qv (vI n13)) ∧
 True) ∧
 (True ∧
 (bcase (n13 == 0)
 (bcase (n12 == 2)
 (k kT)
 (k kF))
 (k kF))))))))
 False)
 False)))))
 False)))
 False))
 False)
 False)))
 False)
 False))
 False))))
 False)
 False)))))) ∨
 ((Says C 23 [(D.agg [(Dw n0 2 l0), (dI x1), (dI x2), (dI x3)]), (D.agg [D.nil, (dI x5)]), (D.agg [(Dw n6 2 l6), (dI x7), (dI x8)])] [(dI n9), (D.val (Value.bool false))]) ∧
 (bcase (n2 != 0)
 (k kF)
 (bcase (n1 != n8)
 (k kF)
 (bcase (n4 != 24)
 (k kF)
 (bcase (n3 != 0)
 (k kF)
 (bcase (decide (0 ≤ IntKind.wrap .i64 ((↑n6 : Int) - 1)))
 (bcase (decide (IntKind.wrap .i64 ((↑n6 : Int) - 1) < (↑n6 : Int)))
 (∃ n10 : Int,
 ((At (l6) ((0 + Int.toNat (IntKind.wrap .i64 ((↑n6 : Int) - 1)) * 2) + 1) 1 [(vI n10)]) ∧
 (bcase (decide (IntKind.wrap .i64 (n10 + n1) > 200))
 (k kT)
 (bcase (dL n6 2 l6)
 ((Says C 19 [(D.agg [(Dw n6 2 l6), (dI x7), (dI x8)])] [(D.agg [(Dw n6 2 l6), (dI x7), (dI x8)])]) ∧
 (bcase (decide (0 ≤ IntKind.wrap .i64 ((↑n6 : Int) - 1)))
 (bcase (decide (IntKind.wrap .i64 ((↑n6 : Int) - 1) < (↑n6 : Int)))
 (∃ n11 : Int,
 ((At (Tk n6 2 l6) ((0 + Int.toNat (IntKind.wrap .i64 ((↑n6 : Int) - 1)) * 2) + 1) 1 [(vI n11)]) ∧
 (bcase (decide (0 ≤ IntKind.wrap .i64 ((↑n6 : Int) - 1)))
 (bcase (decide (IntKind.wrap .i64 ((↑n6 : Int) - 1) < (↑n6 : Int)))
 (((Qv (Value.pointer (some (Addr.mk 1012 ((0 + Int.toNat (IntKind.wrap .i64 ((↑n6 : Int) - 1)) * 2) + 1) none)))) ∧
 ((bcase (decide (0 ≤ IntKind.wrap .i64 ((↑n6 : Int) - 1)))
 (bcase (decide (IntKind.wrap .i64 ((↑n6 : Int) - 1) < (↑n6 : Int)))
 (Qv (Pt 1012 (0 + Int.toNat (IntKind.wrap .i64 ((↑n6 : Int) - 1)) * 2)))
 False)
 False) ∧
 ((Qv (vI (IntKind.wrap .i64 (n11 + n1)))) ∧
 ((Qv (vI n1)) ∧
 ((∃ n12 : Int,
 ((At (Tk n6 2 l6) ((0 + Int.toNat (IntKind.wrap .i64 ((↑n6 : Int) - 1)) * 2) + 1) 1 [(vI n12)]) ∧
 ((vI n12) = (vI n11)))) ∧
 (((Value.pointer (some (Addr.mk 1012 ((0 + Int.toNat (IntKind.wrap .i64 ((↑n6 : Int) - 1)) * 2) + 1) none))) = (Value.pointer (some (Addr.mk 1012 ((0 + Int.toNat (IntKind.wrap .i64 ((↑n6 : Int) - 1)) * 2) + 1) none)))) ∧
 ((bcase (decide (0 ≤ IntKind.wrap .i64 ((↑n6 : Int) - 1)))
 (bcase (decide (IntKind.wrap .i64 ((↑n6 : Int) - 1) < (↑n6 : Int)))
 (Qv (Pt 1012 (0 + Int.toNat (IntKind.wrap .i64 ((↑n6 : Int) - 1)) * 2)))
 False)
 False) ∧
 ((Qv (vI (IntKind.wrap .i64 ((↑n6 : Int) - 1)))) ∧
 ((Qv (Sl 1012 (n6) (n6))) ∧
 ((Qv (Pt 1013 0)) ∧
 ((Qv (vI (IntKind.wrap .i64 ((↑n6 : Int) - 1)))) ∧
 ((Qv (Sl 1012 (n6) (n6))) ∧
 ((Qv (Pt 1013 0)) ∧
 True))))))))))))) ∧
 (bcase (decide ((0 + Int.toNat (IntKind.wrap .i64 ((↑n6 : Int) - 1)) * 2) + 1 + 1 ≤ List.length (Tk n6 2 l6)))
 (((bcase (decide (0 ≤ IntKind.wrap .i64 ((↑n6 : Int) - 1)))
 (bcase (decide (IntKind.wrap .i64 ((↑n6 : Int) - 1) < (↑n6 : Int)))
 (Qv (Pt 1012 (0 + Int.toNat (IntKind.wrap .i64 ((↑n6 : Int) - 1)) * 2)))
 False)
 False) ∧
 True) ∧
 (((Qv (Value.agg [(Sl 1012 (n6) (n6)), (vI x7), (vI x8)].toArray)) ∧
 ((Qv (Value.agg [(Value.slice none 0 0), (vI x5)].toArray)) ∧
 ((Qv (Value.agg [(Sl 500 (n0) (c0)), (vI x1), (vI x2), (vI x3)].toArray)) ∧
 True))) ∧
 (bcase (dL n0 2 l0)
 ((Says C 12 [(D.agg [(Dw n0 2 l0), (dI x1), (dI x2), (dI x3)])] [(D.agg [(Dw n0 2 l0), (dI x1), (dI x2), (dI x3)])]) ∧
 (((Qv (Value.agg [(Sl 1012 (n6) (n6)), (vI x7), (vI x8)].toArray)) ∧
 ((Qv (Value.agg [(Value.slice none 0 0), (vI x5)].toArray)) ∧
 True)) ∧
 ((Says C 9 [(D.agg [D.nil, (dI x5)])] [(D.agg [(D.sl 0 1 []), (dI x5)])]) ∧
 (((Qv (Value.agg [(Sl 1012 (n6) (n6)), (vI x7), (vI x8)].toArray)) ∧
 True) ∧
 (bcase (dL n0 2 (Tk n0 2 l0))
 (bcase (decide (0 + n6 * 2 ≤ List.length (listSet (Tk n6 2 l6) ((0 + Int.toNat (IntKind.wrap .i64 ((↑n6 : Int) - 1)) * 2) + 1) [vI (IntKind.wrap .i64 (n11 + n1))])))
 (∃ n12 : Int,
 (∃ n13 : Int,
 ((Says C 17 [(D.agg [(Dw n0 2 (Tk n0 2 l0)), (dI x1), (dI x2), (dI x3)]), (D.agg [(D.sl 0 1 []), (dI x5)]), (D.agg [(D.sl (n6) 2 (List.take (n6 * 2) (List.drop 0 (listSet (Tk n6 2 l6) ((0 + Int.toNat (IntKind.wrap .i64 ((↑n6 : Int) - 1)) * 2) + 1) [vI (IntKind.wrap .i64 (n11 + n1))])))), (dI x7), (dI x8)])] [(dI n12), (dI n13)]) ∧
 (((Qv (vI n13)) ∧
 ((Qv (vI n12)) ∧
 ((Qv (Value.tuple [(vI n12), (vI n13)].toArray)) ∧
 True))) ∧
 (((Qv (vI n13)) ∧
 True) ∧
 (True ∧
 (bcase (n13 == 0)
 (bcase (n12 == 2)
 (k kT)
 (k kF))
 (k kF))))))))
 False)
 False)))))
 False)))
 False))
 False)
 False)))
 False)
 False))
 False))))
 False)
 False))))))))
 False)
 False)) ∨
 ((Says C 22 [(D.agg [(Dw n0 2 l0), (dI x1), (dI x2), (dI x3)]), (D.agg [D.nil, (dI x5)]), (D.agg [(Dw n6 2 l6), (dI x7), (dI x8)])] [(dI n8), (D.val (Value.bool false))]) ∧
 (bcase (dL n0 2 l0)
 (bcase (dL n6 2 l6)
 (∃ n9 : Int,
 (((Says C 23 [(D.agg [(Dw n0 2 l0), (dI x1), (dI x2), (dI x3)]), (D.agg [D.nil, (dI x5)]), (D.agg [(Dw n6 2 l6), (dI x7), (dI x8)])] [(dI n9), (D.val (Value.bool true))]) ∧
 (bcase (n2 != 12)
 (k kF)
 (bcase (n1 != 0)
 (k kF)
 (bcase (n4 != 0)
 (k kF)
 (bcase (n3 != n9)
 (k kF)
 (k kT)))))) ∨
 ((Says C 23 [(D.agg [(Dw n0 2 l0), (dI x1), (dI x2), (dI x3)]), (D.agg [D.nil, (dI x5)]), (D.agg [(Dw n6 2 l6), (dI x7), (dI x8)])] [(dI n9), (D.val (Value.bool false))]) ∧
 (bcase (n2 != 12)
 (k kF)
 (bcase (n1 != 0)
 (k kF)
 (bcase (n4 != 24)
 (k kF)
 (bcase (n3 != 0)
 (k kF)
 (k kT))))))))
 False)
 False))))
 False)
 False))))
 False)
 (bcase (n5 != 0)
 (bcase (n2 == n5)
 (bcase (n4 == n5)
 (bcase (n1 == 0)
 (bcase (n3 == 0)
 (k kT)
 (k kF))
 (k kF))
 (k kF))
 (k kF))
 (bcase (dL n0 2 l0)
 (bcase (dL n6 2 l6)
 (∃ n7 : Int,
 (((Says C 22 [(D.agg [(Dw n0 2 l0), (dI x1), (dI x2), (dI x3)]), (D.agg [D.nil, (dI x5)]), (D.agg [(Dw n6 2 l6), (dI x7), (dI x8)])] [(dI n7), (D.val (Value.bool true))]) ∧
 (bcase (dL n0 2 l0)
 (bcase (dL n6 2 l6)
 (∃ n8 : Int,
 (((Says C 23 [(D.agg [(Dw n0 2 l0), (dI x1), (dI x2), (dI x3)]), (D.agg [D.nil, (dI x5)]), (D.agg [(Dw n6 2 l6), (dI x7), (dI x8)])] [(dI n8), (D.val (Value.bool true))]) ∧
 (bcase (n2 != 0)
 (k kF)
 (bcase (n1 != n7)
 (k kF)
 (bcase (n4 != 0)
 (k kF)
 (bcase (n3 != n8)
 (k kF)
 (bcase (decide (0 ≤ IntKind.wrap .i64 ((↑n6 : Int) - 1)))
 (bcase (decide (IntKind.wrap .i64 ((↑n6 : Int) - 1) < (↑n6 : Int)))
 (∃ n9 : Int,
 ((At (l6) ((0 + Int.toNat (IntKind.wrap .i64 ((↑n6 : Int) - 1)) * 2) + 1) 1 [(vI n9)]) ∧
 (bcase (decide (IntKind.wrap .i64 (n9 + n1) > 200))
 (k kT)
 (bcase (dL n6 2 l6)
 ((Says C 19 [(D.agg [(Dw n6 2 l6), (dI x7), (dI x8)])] [(D.agg [(Dw n6 2 l6), (dI x7), (dI x8)])]) ∧
 (bcase (decide (0 ≤ IntKind.wrap .i64 ((↑n6 : Int) - 1)))
 (bcase (decide (IntKind.wrap .i64 ((↑n6 : Int) - 1) < (↑n6 : Int)))
 (∃ n10 : Int,
 ((At (Tk n6 2 l6) ((0 + Int.toNat (IntKind.wrap .i64 ((↑n6 : Int) - 1)) * 2) + 1) 1 [(vI n10)]) ∧
 (bcase (decide (0 ≤ IntKind.wrap .i64 ((↑n6 : Int) - 1)))
 (bcase (decide (IntKind.wrap .i64 ((↑n6 : Int) - 1) < (↑n6 : Int)))
 (((Qv (Value.pointer (some (Addr.mk 1012 ((0 + Int.toNat (IntKind.wrap .i64 ((↑n6 : Int) - 1)) * 2) + 1) none)))) ∧
 ((bcase (decide (0 ≤ IntKind.wrap .i64 ((↑n6 : Int) - 1)))
 (bcase (decide (IntKind.wrap .i64 ((↑n6 : Int) - 1) < (↑n6 : Int)))
 (Qv (Pt 1012 (0 + Int.toNat (IntKind.wrap .i64 ((↑n6 : Int) - 1)) * 2)))
 False)
 False) ∧
 ((Qv (vI (IntKind.wrap .i64 (n10 + n1)))) ∧
 ((Qv (vI n1)) ∧
 ((∃ n11 : Int,
 ((At (Tk n6 2 l6) ((0 + Int.toNat (IntKind.wrap .i64 ((↑n6 : Int) - 1)) * 2) + 1) 1 [(vI n11)]) ∧
 ((vI n11) = (vI n10)))) ∧
 (((Value.pointer (some (Addr.mk 1012 ((0 + Int.toNat (IntKind.wrap .i64 ((↑n6 : Int) - 1)) * 2) + 1) none))) = (Value.pointer (some (Addr.mk 1012 ((0 + Int.toNat (IntKind.wrap .i64 ((↑n6 : Int) - 1)) * 2) + 1) none)))) ∧
 ((bcase (decide (0 ≤ IntKind.wrap .i64 ((↑n6 : Int) - 1)))
 (bcase (decide (IntKind.wrap .i64 ((↑n6 : Int) - 1) < (↑n6 : Int)))
 (Qv (Pt 1012 (0 + Int.toNat (IntKind.wrap .i64 ((↑n6 : Int) - 1)) * 2)))
 False)
 False) ∧
 ((Qv (vI (IntKind.wrap .i64 ((↑n6 : Int) - 1)))) ∧
 ((Qv (Sl 1012 (n6) (n6))) ∧
 ((Qv (Pt 1013 0)) ∧
 ((Qv (vI (IntKind.wrap .i64 ((↑n6 : Int) - 1)))) ∧
 ((Qv (Sl 1012 (n6) (n6))) ∧
 ((Qv (Pt 1013 0)) ∧
 True))))))))))))) ∧
 (bcase (decide ((0 + Int.toNat (IntKind.wrap .i64 ((↑n6 : Int) - 1)) * 2) + 1 + 1 ≤ List.length (Tk n6 2 l6)))
 (((bcase (decide (0 ≤ IntKind.wrap .i64 ((↑n6 : Int) - 1)))
 (bcase (decide (IntKind.wrap .i64 ((↑n6 : Int) - 1) < (↑n6 : Int)))
 (Qv (Pt 1012 (0 + Int.toNat (IntKind.wrap .i64 ((↑n6 : Int) - 1)) * 2)))
 False)
 False) ∧
 True) ∧
 (((Qv (Value.agg [(Sl 1012 (n6) (n6)), (vI x7), (vI x8)].toArray)) ∧
 ((Qv (Value.agg [(Value.slice none 0 0), (vI x5)].toArray)) ∧
 ((Qv (Value.agg [(Sl 500 (n0) (c0)), (vI x1), (vI x2), (vI x3)].toArray)) ∧
 True))) ∧
 (bcase (dL n0 2 l0)
 ((Says C 12 [(D.agg [(Dw n0 2 l0), (dI x1), (dI x2), (dI x3)])] [(D.agg [(Dw n0 2 l0), (dI x1), (dI x2), (dI x3)])]) ∧
 (((Qv (Value.agg [(Sl 1012 (n6) (n6)), (vI x7), (vI x8)].toArray)) ∧
 ((Qv (Value.agg [(Value.slice none 0 0), (vI x5)].toArray)) ∧
 True)) ∧
 ((Says C 9 [(D.agg [D.nil, (dI x5)])] [(D.agg [(D.sl 0 1 []), (dI x5)])]) ∧
 (((Qv (Value.agg [(Sl 1012 (n6) (n6)), (vI x7), (vI x8)].toArray)) ∧
 True) ∧
 (bcase (dL n0 2 (Tk n0 2 l0))
 (bcase (decide (0 + n6 * 2 ≤ List.length (listSet (Tk n6 2 l6) ((0 + Int.toNat (IntKind.wrap .i64 ((↑n6 : Int) - 1)) * 2) + 1) [vI (IntKind.wrap .i64 (n10 + n1))])))
 (∃ n11 : Int,
 (∃ n12 : Int,
 ((Says C 17 [(D.agg [(Dw n0 2 (Tk n0 2 l0)), (dI x1), (dI x2), (dI x3)]), (D.agg [(D.sl 0 1 []), (dI x5)]), (D.agg [(D.sl (n6) 2 (List.take (n6 * 2) (List.drop 0 (listSet (Tk n6 2 l6) ((0 + Int.toNat (IntKind.wrap .i64 ((↑n6 : Int) - 1)) * 2) + 1) [vI (IntKind.wrap .i64 (n10 + n1))])))), (dI x7), (dI x8)])] [(dI n11), (dI n12)]) ∧
 (((Qv (vI n12)) ∧
 ((Qv (vI n11)) ∧
 ((Qv (Value.tuple [(vI n11), (vI n12)].toArray)) ∧
 True))) ∧
 (((Qv (vI n12)) ∧
 True) ∧
 (True ∧
 (bcase (n12 == 0)
 (bcase (n11 == 2)
 (k kT)
 (k kF))
 (k kF))))))))
 False)
 False)))))
 False)))
 False))
 False)
 False)))
 False)
 False))
 False))))
 False)
 False)))))) ∨
 ((Says C 23 [(D.agg [(Dw n0 2 l0), (dI x1), (dI x2), (dI x3)]), (D.agg [D.nil, (dI x5)]), (D.agg [(Dw n6 2 l6), (dI x7), (dI x8)])] [(dI n8), (D.val (Value.bool false))]) ∧
 (bcase (n2 != 0)
 (k kF)
 (bcase (n1 != n7)
 (k kF)
 (bcase (n4 != 24)
 (k kF)
 (bcase (n3 != 0)
 (k kF)
 (bcase (decide (0 ≤ IntKind.wrap .i64 ((↑n6 : Int) - 1)))
 (bcase (decide (IntKind.wrap .i64 ((↑n6 : Int) - 1) < (↑n6 : Int)))
 (∃ n9 : Int,
 ((At (l6) ((0 + Int.toNat (IntKind.wrap .i64 ((↑n6 : Int) - 1)) * 2) + 1) 1 [(vI n9)]) ∧
 (bcase (decide (IntKind.wrap .i64 (n9 + n1) > 200))
 (k kT)
 (bcase (dL n6 2 l6)
 ((Says C 19 [(D.agg [(Dw n6 2 l6), (dI x7), (dI x8)])] [(D.agg [(Dw n6 2 l6), (dI x7), (dI x8)])]) ∧
 (bcase (decide (0 ≤ IntKind.wrap .i64 ((↑n6 : Int) - 1)))
 (bcase (decide (IntKind.wrap .i64 ((↑n6 : Int) - 1) < (↑n6 : Int)))
 (∃ n10 : Int,
 ((At (Tk n6 2 l6) ((0 + Int.toNat (IntKind.wrap .i64 ((↑n6 : Int) - 1)) * 2) + 1) 1 [(vI n10)]) ∧
 (bcase (decide (0 ≤ IntKind.wrap .i64 ((↑n6 : Int) - 1)))
 (bcase (decide (IntKind.wrap .i64 ((↑n6 : Int) - 1) < (↑n6 : Int)))
 (((Qv (Value.pointer (some (Addr.mk 1012 ((0 + Int.toNat (IntKind.wrap .i64 ((↑n6 : Int) - 1)) * 2) + 1) none)))) ∧
 ((bcase (decide (0 ≤ IntKind.wrap .i64 ((↑n6 : Int) - 1)))
 (bcase (decide (IntKind.wrap .i64 ((↑n6 : Int) - 1) < (↑n6 : Int)))
 (Qv (Pt 1012 (0 + Int.toNat (IntKind.wrap .i64 ((↑n6 : Int) - 1)) * 2)))
 False)
 False) ∧
 ((Qv (vI (IntKind.wrap .i64 (n10 + n1)))) ∧
 ((Qv (vI n1)) ∧
 ((∃ n11 : Int,
 ((At (Tk n6 2 l6) ((0 + Int.toNat (IntKind.wrap .i64 ((↑n6 : Int) - 1)) * 2) + 1) 1 [(vI n11)]) ∧
 ((vI n11) = (vI n10)))) ∧
 (((Value.pointer (some (Addr.mk 1012 ((0 + Int.toNat (IntKind.wrap .i64 ((↑n6 : Int) - 1)) * 2) + 1) none))) = (Value.pointer (some (Addr.mk 1012 ((0 + Int.toNat (IntKind.wrap .i64 ((↑n6 : Int) - 1)) * 2) + 1) none)))) ∧
 ((bcase (decide (0 ≤ IntKind.wrap .i64 ((↑n6 : Int) - 1)))
 (bcase (decide (IntKind.wrap .i64 ((↑n6 : Int) - 1) < (↑n6 : Int)))
 (Qv (Pt 1012 (0 + Int.toNat (IntKind.wrap .i64 ((↑n6 : Int) - 1)) * 2)))
 False)
 False) ∧
 ((Qv (vI (IntKind.wrap .i64 ((↑n6 : Int) - 1)))) ∧
 ((Qv (Sl 1012 (n6) (n6))) ∧
 ((Qv (Pt 1013 0)) ∧
 ((Qv (vI (IntKind.wrap .i64 ((↑n6 : Int) - 1)))) ∧
 ((Qv (Sl 1012 (n6) (n6))) ∧
 ((Qv (Pt 1013 0)) ∧
 True))))))))))))) ∧
 (bcase (decide ((0 + Int.toNat (IntKind.wrap .i64 ((↑n6 : Int) - 1)) * 2) + 1 + 1 ≤ List.length (Tk n6 2 l6)))
 (((bcase (decide (0 ≤ IntKind.wrap .i64 ((↑n6 : Int) - 1)))
 (bcase (decide (IntKind.wrap .i64 ((↑n6 : Int) - 1) < (↑n6 : Int)))
 (Qv (Pt 1012 (0 + Int.toNat (IntKind.wrap .i64 ((↑n6 : Int) - 1)) * 2)))
 False)
 False) ∧
 True) ∧
 (((Qv (Value.agg [(Sl 1012 (n6) (n6)), (vI x7), (vI x8)].toArray)) ∧
 ((Qv (Value.agg [(Value.slice none 0 0), (vI x5)].toArray)) ∧
 ((Qv (Value.agg [(Sl 500 (n0) (c0)), (vI x1), (vI x2), (vI x3)].toArray)) ∧
 True))) ∧
 (bcase (dL n0 2 l0)
 ((Says C 12 [(D.agg [(Dw n0 2 l0), (dI x1), (dI x2), (dI x3)])] [(D.agg [(Dw n0 2 l0), (dI x1), (dI x2), (dI x3)])]) ∧
 (((Qv (Value.agg [(Sl 1012 (n6) (n6)), (vI x7), (vI x8)].toArray)) ∧
 ((Qv (Value.agg [(Value.slice none 0 0), (vI x5)].toArray)) ∧
 True)) ∧
 ((Says C 9 [(D.agg [D.nil, (dI x5)])] [(D.agg [(D.sl 0 1 []), (dI x5)])]) ∧
 (((Qv (Value.agg [(Sl 1012 (n6) (n6)), (vI x7), (vI x8)].toArray)) ∧
 True) ∧
 (bcase (dL n0 2 (Tk n0 2 l0))
 (bcase (decide (0 + n6 * 2 ≤ List.length (listSet (Tk n6 2 l6) ((0 + Int.toNat (IntKind.wrap .i64 ((↑n6 : Int) - 1)) * 2) + 1) [vI (IntKind.wrap .i64 (n10 + n1))])))
 (∃ n11 : Int,
 (∃ n12 : Int,
 ((Says C 17 [(D.agg [(Dw n0 2 (Tk n0 2 l0)), (dI x1), (dI x2), (dI x3)]), (D.agg [(D.sl 0 1 []), (dI x5)]), (D.agg [(D.sl (n6) 2 (List.take (n6 * 2) (List.drop 0 (listSet (Tk n6 2 l6) ((0 + Int.toNat (IntKind.wrap .i64 ((↑n6 : Int) - 1)) * 2) + 1) [vI (IntKind.wrap .i64 (n10 + n1))])))), (dI x7), (dI x8)])] [(dI n11), (dI n12)]) ∧
 (((Qv (vI n12)) ∧
 ((Qv (vI n11)) ∧
 ((Qv (Value.tuple [(vI n11), (vI n12)].toArray)) ∧
 True))) ∧
 (((Qv (vI n12)) ∧
 True) ∧
 (True ∧
 (bcase (n12 == 0)
 (bcase (n11 == 2)
 (k kT)
 (k kF))
 (k kF))))))))
 False)
 False)))))
 False)))
 False))
 False)
 False)))
 False)
 False))
 False))))
 False)
 False))))))))
 False)
 False)) ∨
 ((Says C 22 [(D.agg [(Dw n0 2 l0), (dI x1), (dI x2), (dI x3)]), (D.agg [D.nil, (dI x5)]), (D.agg [(Dw n6 2 l6), (dI x7), (dI x8)])] [(dI n7), (D.val (Value.bool false))]) ∧
 (bcase (dL n0 2 l0)
 (bcase (dL n6 2 l6)
 (∃ n8 : Int,
 (((Says C 23 [(D.agg [(Dw n0 2 l0), (dI x1), (dI x2), (dI x3)]), (D.agg [D.nil, (dI x5)]), (D.agg [(Dw n6 2 l6), (dI x7), (dI x8)])] [(dI n8), (D.val (Value.bool true))]) ∧
 (bcase (n2 != 12)
 (k kF)
 (bcase (n1 != 0)
 (k kF)
 (bcase (n4 != 0)
 (k kF)
 (bcase (n3 != n8)
 (k kF)
 (k kT)))))) ∨
 ((Says C 23 [(D.agg [(Dw n0 2 l0), (dI x1), (dI x2), (dI x3)]), (D.agg [D.nil, (dI x5)]), (D.agg [(Dw n6 2 l6), (dI x7), (dI x8)])] [(dI n8), (D.val (Value.bool false))]) ∧
 (bcase (n2 != 12)
 (k kF)
 (bcase (n1 != 0)
 (k kF)
 (bcase (n4 != 24)
 (k kF)
 (bcase (n3 != 0)
 (k kF)
 (k kT))))))))
 False)
 False))))
 False)
 False)))))
 False)))))))
 False)
 False)))
 False)))))
 False))))))))
 False)
 False)))
 False)))))
 False)))
 (k kT))) ∨
 ((Says C 5 [] kF) ∧
 (k kF))) := by kernel_rfl
def gDsnn (C : Ct) (L : AtLoop) (n0 : Nat) (c0 : Nat) (l0 : List Value) (x1 : Int) (x2 : Int) (x3 : Int) (x5 : Int) (x7 : Int) (x8 : Int) (k : List D → Prop) : Prop := wpFn Try.prog (hL C) L 0 4 #[.agg #[.slice (some ⟨500, 0, none⟩) n0 c0, .int .i64 x1, .int .i64 x2, .int .i64 x3], .agg #[.slice none 0 0, .int .i64 x5], .agg #[.slice none 0 0, .int .i64 x7, .int .i64 x8]] (heapOf [(500, .sym l0 false 2)]) (dataK k)
theorem gDsnn_text (C : Ct) (L : AtLoop) (n0 : Nat) (c0 : Nat) (l0 : List Go.Value) (x1 : Int) (x2 : Int) (x3 : Int) (x5 : Int) (x7 : Int) (x8 : Int) (k : List D → Prop) : gDsnn C L n0 c0 l0 x1 x2 x3 x5 x7 x8 k =
 (((Says C 5 [] kT) ∧
 (bcase (decide ((↑n0 : Int) ≤ 12))
 (((Qv (Value.agg [(Value.slice none 0 0), (vI x7), (vI x8)].toArray)) ∧
 ((Qv (Value.agg [(Value.slice none 0 0), (vI x5)].toArray)) ∧
 ((Qv (Value.agg [(Sl 500 (n0) (c0)), (vI x1), (vI x2), (vI x3)].toArray)) ∧
 True))) ∧
 (bcase (dL n0 2 l0)
 ((Says C 12 [(D.agg [(Dw n0 2 l0), (dI x1), (dI x2), (dI x3)])] [(D.agg [(Dw n0 2 l0), (dI x1), (dI x2), (dI x3)])]) ∧
 (((Qv (Value.agg [(Value.slice none 0 0), (vI x7), (vI x8)].toArray)) ∧
 ((Qv (Value.agg [(Value.slice none 0 0), (vI x5)].toArray)) ∧
 True)) ∧
 ((Says C 9 [(D.agg [D.nil, (dI x5)])] [(D.agg [(D.sl 0 1 []), (dI x5)])]) ∧
 (((Qv (Value.agg [(Value.slice none 0 0), (vI x7), (vI x8)].toArray)) ∧
 True) ∧
 ((Says C 19 [(D.agg [D.nil, (dI x7), (dI x8)])] [(D.agg [(D.sl 0 2 []), (dI x7), (dI x8)])]) ∧
 (True ∧
 (bcase (dL n0 2 (Tk n0 2 l0))
 (∃ n1 : Int,
 (∃ n2 : Int,
 ((Says C 18 [(D.agg [(Dw n0 2 (Tk n0 2 l0)), (dI x1), (dI x2), (dI x3)]), (D.agg [(D.sl 0 1 []), (dI x5)]), (D.agg [(D.sl 0 2 []), (dI x7), (dI x8)])] [(dI n1), (dI n2)]) ∧
 (((Qv (vI n2)) ∧
 ((Qv (vI n1)) ∧
 ((Qv (Value.tuple [(vI n1), (vI n2)].toArray)) ∧
 True))) ∧
 (((Qv (vI n2)) ∧
 True) ∧
 (True ∧
 (((Qv (Value.agg [(Value.slice none 0 0), (vI x7), (vI x8)].toArray)) ∧
 ((Qv (Value.agg [(Value.slice none 0 0), (vI x5)].toArray)) ∧
 ((Qv (Value.agg [(Sl 500 (n0) (c0)), (vI x1), (vI x2), (vI x3)].toArray)) ∧
 True))) ∧
 (bcase (dL n0 2 l0)
 ((Says C 12 [(D.agg [(Dw n0 2 l0), (dI x1), (dI x2), (dI x3)])] [(D.agg [(Dw n0 2 l0), (dI x1), (dI x2), (dI x3)])]) ∧
 (((Qv (Value.agg [(Value.slice none 0 0), (vI x7), (vI x8)].toArray)) ∧
 ((Qv (Value.agg [(Value.slice none 0 0), (vI x5)].toArray)) ∧
 True)) ∧
 ((Says C 9 [(D.agg [D.nil, (dI x5)])] [(D.agg [(D.sl 0 1 []), (dI x5)])]) ∧
 (((Qv (Value.agg [(Value.slice none 0 0), (vI x7), (vI x8)].toArray)) ∧
 True) ∧
 ((Says C 19 [(D.agg [D.nil, (dI x7), (dI x8)])] [(D.agg [(D.sl 0 2 []), (dI x7), (dI x8)])]) ∧
 (True ∧
 (bcase (dL n0 2 (Tk n0 2 l0))
 (∃ n3 : Int,
 (∃ n4 : Int,
 ((Says C 20 [(D.agg [(Dw n0 2 (Tk n0 2 l0)), (dI x1), (dI x2), (dI x3)]), (D.agg [(D.sl 0 1 []), (dI x5)]), (D.agg [(D.sl 0 2 []), (dI x7), (dI x8)])] [(dI n3), (dI n4)]) ∧
 (((Qv (vI n4)) ∧
 ((Qv (vI n3)) ∧
 ((Qv (Value.tuple [(vI n3), (vI n4)].toArray)) ∧
 True))) ∧
 (((Qv (vI n4)) ∧
 True) ∧
 (True ∧
 (bcase (dL n0 2 l0)
 (∃ n5 : Int,
 ((Says C 7 [(D.agg [(Dw n0 2 l0), (dI x1), (dI x2), (dI x3)]), (D.agg [D.nil, (dI x5)])] [(dI n5)]) ∧
 (bcase (n5 == 0)
 (∃ n6 : Int,
 ((Says C 21 [(D.agg [D.nil, (dI x7), (dI x8)])] [(dI n6)]) ∧
 (bcase (n6 != 0)
 (bcase (n2 == n6)
 (bcase (n4 == n6)
 (bcase (n1 == 0)
 (bcase (n3 == 0)
 (k kT)
 (k kF))
 (k kF))
 (k kF))
 (k kF))
 (bcase (dL n0 2 l0)
 (∃ n7 : Int,
 (((Says C 22 [(D.agg [(Dw n0 2 l0), (dI x1), (dI x2), (dI x3)]), (D.agg [D.nil, (dI x5)]), (D.agg [D.nil, (dI x7), (dI x8)])] [(dI n7), (D.val (Value.bool true))]) ∧
 (bcase (dL n0 2 l0)
 (∃ n8 : Int,
 (((Says C 23 [(D.agg [(Dw n0 2 l0), (dI x1), (dI x2), (dI x3)]), (D.agg [D.nil, (dI x5)]), (D.agg [D.nil, (dI x7), (dI x8)])] [(dI n8), (D.val (Value.bool true))]) ∧
 (bcase (n2 != 0)
 (k kF)
 (bcase (n1 != n7)
 (k kF)
 (bcase (n4 != 0)
 (k kF)
 (bcase (n3 != n8)
 (k kF)
 False))))) ∨
 ((Says C 23 [(D.agg [(Dw n0 2 l0), (dI x1), (dI x2), (dI x3)]), (D.agg [D.nil, (dI x5)]), (D.agg [D.nil, (dI x7), (dI x8)])] [(dI n8), (D.val (Value.bool false))]) ∧
 (bcase (n2 != 0)
 (k kF)
 (bcase (n1 != n7)
 (k kF)
 (bcase (n4 != 24)
 (k kF)
 (bcase (n3 != 0)
 (k kF)
 False)))))))
 False)) ∨
 ((Says C 22 [(D.agg [(Dw n0 2 l0), (dI x1), (dI x2), (dI x3)]), (D.agg [D.nil, (dI x5)]), (D.agg [D.nil, (dI x7), (dI x8)])] [(dI n7), (D.val (Value.bool false))]) ∧
 (bcase (dL n0 2 l0)
 (∃ n8 : Int,
 (((Says C 23 [(D.agg [(Dw n0 2 l0), (dI x1), (dI x2), (dI x3)]), (D.agg [D.nil, (dI x5)]), (D.agg [D.nil, (dI x7), (dI x8)])] [(dI n8), (D.val (Value.bool true))]) ∧
 (bcase (n2 != 12)
 (k kF)
 (bcase (n1 != 0)
 (k kF)
 (bcase (n4 != 0)
 (k kF)
 (bcase (n3 != n8)
 (k kF)
 (k kT)))))) ∨
 ((Says C 23 [(D.agg [(Dw n0 2 l0), (dI x1), (dI x2), (dI x3)]), (D.agg [D.nil, (dI x5)]), (D.agg [D.nil, (dI x7), (dI x8)])] [(dI n8), (D.val (Value.bool false))]) ∧
 (bcase (n2 != 12)
 (k kF)
 (bcase (n1 != 0)
 (k kF)
 (bcase (n4 != 24)
 (k kF)
 (bcase (n3 != 0)
 (k kF)
 (k kT))))))))
 False))))
 False))))
 (bcase (n5 != 0)
 (bcase (n2 == n5)
 (bcase (n4 == n5)
 (bcase (n1 == 0)
 (bcase (n3 == 0)
 (k kT)
 (k kF))
 (k kF))
 (k kF))
 (k kF))
 (bcase (dL n0 2 l0)
 (∃ n6 : Int,
 (((Says C 22 [(D.agg [(Dw n0 2 l0), (dI x1), (dI x2), (dI x3)]), (D.agg [D.nil, (dI x5)]), (D.agg [D.nil, (dI x7), (dI x8)])] [(dI n6), (D.val (Value.bool true))]) ∧
 (bcase (dL n0 2 l0)
 (∃ n7 : Int,
 (((Says C 23 [(D.agg [(Dw n0 2 l0), (dI x1), (dI x2), (dI x3)]), (D.agg [D.nil, (dI x5)]), (D.agg [D.nil, (dI x7), (dI x8)])] [(dI n7), (D.val (Value.bool true))]) ∧
 (bcase (n2 != 0)
 (k kF)
 (bcase (n1 != n6)
 (k kF)
 (bcase (n4 != 0)
 (k kF)
 (bcase (n3 != n7)
 (k kF)
 False))))) ∨
 ((Says C 23 [(D.agg [(Dw n0 2 l0), (dI x1), (dI x2), (dI x3)]), (D.agg [D.nil, (dI x5)]), (D.agg [D.nil, (dI x7), (dI x8)])] [(dI n7), (D.val (Value.bool false))]) ∧
 (bcase (n2 != 0)
 (k kF)
 (bcase (n1 != n6)
 (k kF)
 (bcase (n4 != 24)
 (k kF)
 (bcase (n3 != 0)
 (k kF)
 False)))))))
 False)) ∨
 ((Says C 22 [(D.agg [(Dw n0 2 l0), (dI x1), (dI x2), (dI x3)]), (D.agg [D.nil, (dI x5)]), (D.agg [D.nil, (dI x7), (dI x8)])] [(dI n6), (D.val (Value.bool false))]) ∧
 (bcase (dL n0 2 l0)
 (∃ n7 : Int,
 (((Says C 23 [(D.agg [(Dw n0 2 l0), (dI x1), (dI x2), (dI x3)]), (D.agg [D.nil, (dI x5)]), (D.agg [D.nil, (dI x7), (dI x8)])] [(dI n7), (D.val (Value.bool true))]) ∧
 (bcase (n2 != 12)
 (k kF)
 (bcase (n1 != 0)
 (k kF)
 (bcase (n4 != 0)
 (k kF)
 (bcase (n3 != n7)
 (k kF)
 (k kT)))))) ∨
 ((Says C 23 [(D.agg [(Dw n0 2 l0), (dI x1), (dI x2), (dI x3)]), (D.agg [D.nil, (dI x5)]), (D.agg [D.nil, (dI x7), (dI x8)])] [(dI n7), (D.val (Value.bool false))]) ∧
 (bcase (n2 != 12)
 (k kF)
 (bcase (n1 != 0)
 (k kF)
 (bcase (n4 != 24)
 (k kF)
 (bcase (n3 != 0)
 (k kF)
 (k kT))))))))
 False))))
 False)))))
 False)))))))
 False)))))))
 False))))))))
 False)))))))
 False))
 (k kT))) ∨
 ((Says C 5 [] kF) ∧
 (k kF))) := by kernel_rfl
def gDnss (C : Ct) (L : AtLoop) (x1 : Int) (x2 : Int) (x3 : Int) (n4 : Nat) (c4 : Nat) (l4 : List Value) (x5 : Int) (n6 : Nat) (c6 : Nat) (l6 : List Value) (x7 : Int) (x8 : Int) (k : List D → Prop) : Prop := wpFn Try.prog (hL C) L 0 4 #[.agg #[.slice none 0 0, .int .i64 x1, .int .i64 x2, .int .i64 x3], .agg #[.slice (some ⟨500, 0, none⟩) n4 c4, .int .i64 x5], .agg #[.slice (some ⟨501, 0, none⟩) n6 c6, .int .i64 x7, .int .i64 x8]] (heapOf [(500, .sym l4 false 1), (501, .sym l6 false 2)]) (dataK k)
theorem gDnss_text (C : Ct) (L : AtLoop) (x1 : Int) (x2 : Int) (x3 : Int) (n4 : Nat) (c4 : Nat) (l4 : List Go.Value) (x5 : Int) (n6 : Nat) (c6 : Nat) (l6 : List Go.Value) (x7 : Int) (x8 : Int) (k : List D → Prop) : gDnss C L x1 x2 x3 n4 c4 l4 x5 n6 c6 l6 x7 x8 k =
 (((Says C 5 [] kT) ∧
 (bcase (decide ((↑n4 : Int) ≤ 10))
 (bcase (decide ((↑n6 : Int) > 7))
 (k kT)
 (((Qv (Value.agg [(Sl 501 (n6) (c6)), (vI x7), (vI x8)].toArray)) ∧
 ((Qv (Value.agg [(Sl 500 (n4) (c4)), (vI x5)].toArray)) ∧
 ((Qv (Value.agg [(Value.slice none 0 0), (vI x1), (vI x2), (vI x3)].toArray)) ∧
 True))) ∧
 ((Says C 12 [(D.agg [D.nil, (dI x1), (dI x2), (dI x3)])] [(D.agg [(D.sl 0 2 []), (dI x1), (dI x2), (dI x3)])]) ∧
 (((Qv (Value.agg [(Sl 501 (n6) (c6)), (vI x7), (vI x8)].toArray)) ∧
 ((Qv (Value.agg [(Sl 500 (n4) (c4)), (vI x5)].toArray)) ∧
 True)) ∧
 (bcase (dL n4 1 l4)
 ((Says C 9 [(D.agg [(Dw n4 1 l4), (dI x5)])] [(D.agg [(Dw n4 1 l4), (dI x5)])]) ∧
 (((Qv (Value.agg [(Sl 501 (n6) (c6)), (vI x7), (vI x8)].toArray)) ∧
 True) ∧
 (bcase (dL n6 2 l6)
 ((Says C 19 [(D.agg [(Dw n6 2 l6), (dI x7), (dI x8)])] [(D.agg [(Dw n6 2 l6), (dI x7), (dI x8)])]) ∧
 (True ∧
 (bcase (dL n4 1 (Tk n4 1 l4))
 (bcase (dL n6 2 (Tk n6 2 l6))
 (∃ n1 : Int,
 (∃ n2 : Int,
 ((Says C 18 [(D.agg [(D.sl 0 2 []), (dI x1), (dI x2), (dI x3)]), (D.agg [(Dw n4 1 (Tk n4 1 l4)), (dI x5)]), (D.agg [(Dw n6 2 (Tk n6 2 l6)), (dI x7), (dI x8)])] [(dI n1), (dI n2)]) ∧
 (((Qv (vI n2)) ∧
 ((Qv (vI n1)) ∧
 ((Qv (Value.tuple [(vI n1), (vI n2)].toArray)) ∧
 True))) ∧
 (((Qv (vI n2)) ∧
 True) ∧
 (True ∧
 (((Qv (Value.agg [(Sl 501 (n6) (c6)), (vI x7), (vI x8)].toArray)) ∧
 ((Qv (Value.agg [(Sl 500 (n4) (c4)), (vI x5)].toArray)) ∧
 ((Qv (Value.agg [(Value.slice none 0 0), (vI x1), (vI x2), (vI x3)].toArray)) ∧
 True))) ∧
 ((Says C 12 [(D.agg [D.nil, (dI x1), (dI x2), (dI x3)])] [(D.agg [(D.sl 0 2 []), (dI x1), (dI x2), (dI x3)])]) ∧
 (((Qv (Value.agg [(Sl 501 (n6) (c6)), (vI x7), (vI x8)].toArray)) ∧
 ((Qv (Value.agg [(Sl 500 (n4) (c4)), (vI x5)].toArray)) ∧
 True)) ∧
 (bcase (dL n4 1 l4)
 ((Says C 9 [(D.agg [(Dw n4 1 l4), (dI x5)])] [(D.agg [(Dw n4 1 l4), (dI x5)])]) ∧
 (((Qv (Value.agg [(Sl 501 (n6) (c6)), (vI x7), (vI x8)].toArray)) ∧
 True) ∧
 (bcase (dL n6 2 l6)
 ((Says C 19 [(D.agg [(Dw n6 2 l6), (dI x7), (dI x8)])] [(D.agg [(Dw n6 2 l6), (dI x7), (dI x8)])]) ∧
 (True ∧
 (bcase (dL n4 1 (Tk n4 1 l4))
 (bcase (dL n6 2 (Tk n6 2 l6))
 (∃ n3 : Int,
 (∃ n5 : Int,
 ((Says C 20 [(D.agg [(D.sl 0 2 []), (dI x1), (dI x2), (dI x3)]), (D.agg [(Dw n4 1 (Tk n4 1 l4)), (dI x5)]), (D.agg [(Dw n6 2 (Tk n6 2 l6)), (dI x7), (dI x8)])] [(dI n3), (dI n5)]) ∧
 (((Qv (vI n5)) ∧
 ((Qv (vI n3)) ∧
 ((Qv (Value.tuple [(vI n3), (vI n5)].toArray)) ∧
 True))) ∧
 (((Qv (vI n5)) ∧
 True) ∧
 (True ∧
 (bcase (dL n4 1 l4)
 (∃ n7 : Int,
 ((Says C 7 [(D.agg [D.nil, (dI x1), (dI x2), (dI x3)]), (D.agg [(Dw n4 1 l4), (dI x5)])] [(dI n7)]) ∧
 (bcase (n7 == 0)
 (bcase (dL n6 2 l6)
 (∃ n8 : Int,
 ((Says C 21 [(D.agg [(Dw n6 2 l6), (dI x7), (dI x8)])] [(dI n8)]) ∧
 (bcase (n8 != 0)
 (bcase (n2 == n8)
 (bcase (n5 == n8)
 (bcase (n1 == 0)
 (bcase (n3 == 0)
 (k kT)
 (k kF))
 (k kF))
 (k kF))
 (k kF))
 (bcase (dL n4 1 l4)
 (bcase (dL n6 2 l6)
 (∃ n9 : Int,
 (((Says C 22 [(D.agg [D.nil, (dI x1), (dI x2), (dI x3)]), (D.agg [(Dw n4 1 l4), (dI x5)]), (D.agg [(Dw n6 2 l6), (dI x7), (dI x8)])] [(dI n9), (D.val (Value.bool true))]) ∧
 (bcase (dL n4 1 l4)
 (bcase (dL n6 2 l6)
 (∃ n10 : Int,
 (((Says C 23 [(D.agg [D.nil, (dI x1), (dI x2), (dI x3)]), (D.agg [(Dw n4 1 l4), (dI x5)]), (D.agg [(Dw n6 2 l6), (dI x7), (dI x8)])] [(dI n10), (D.val (Value.bool true))]) ∧
 (bcase (n2 != 0)
 (k kF)
 (bcase (n1 != n9)
 (k kF)
 (bcase (n5 != 0)
 (k kF)
 (bcase (n3 != n10)
 (k kF)
 (bcase (decide (0 ≤ IntKind.wrap .i64 ((↑n6 : Int) - 1)))
 (bcase (decide (IntKind.wrap .i64 ((↑n6 : Int) - 1) < (↑n6 : Int)))
 (∃ n11 : Int,
 ((At (l6) ((0 + Int.toNat (IntKind.wrap .i64 ((↑n6 : Int) - 1)) * 2) + 1) 1 [(vI n11)]) ∧
 (bcase (decide (IntKind.wrap .i64 (n11 + n1) > 200))
 (k kT)
 (bcase (dL n6 2 l6)
 ((Says C 19 [(D.agg [(Dw n6 2 l6), (dI x7), (dI x8)])] [(D.agg [(Dw n6 2 l6), (dI x7), (dI x8)])]) ∧
 (bcase (decide (0 ≤ IntKind.wrap .i64 ((↑n6 : Int) - 1)))
 (bcase (decide (IntKind.wrap .i64 ((↑n6 : Int) - 1) < (↑n6 : Int)))
 (∃ n12 : Int,
 ((At (Tk n6 2 l6) ((0 + Int.toNat (IntKind.wrap .i64 ((↑n6 : Int) - 1)) * 2) + 1) 1 [(vI n12)]) ∧
 (bcase (decide (0 ≤ IntKind.wrap .i64 ((↑n6 : Int) - 1)))
 (bcase (decide (IntKind.wrap .i64 ((↑n6 : Int) - 1) < (↑n6 : Int)))
 (((Qv (Value.pointer (some (Addr.mk 1012 ((0 + Int.toNat (IntKind.wrap .i64 ((↑n6 : Int) - 1)) * 2) + 1) none)))) ∧
 ((bcase (decide (0 ≤ IntKind.wrap .i64 ((↑n6 : Int) - 1)))
 (bcase (decide (IntKind.wrap .i64 ((↑n6 : Int) - 1) < (↑n6 : Int)))
 (Qv (Pt 1012 (0 + Int.toNat (IntKind.wrap .i64 ((↑n6 : Int) - 1)) * 2)))
 False)
 False) ∧
 ((Qv (vI (IntKind.wrap .i64 (n12 + n1)))) ∧
 ((Qv (vI n1)) ∧
 ((∃ n13 : Int,
 ((At (Tk n6 2 l6) ((0 + Int.toNat (IntKind.wrap .i64 ((↑n6 : Int) - 1)) * 2) + 1) 1 [(vI n13)]) ∧
 ((vI n13) = (vI n12)))) ∧
 (((Value.pointer (some (Addr.mk 1012 ((0 + Int.toNat (IntKind.wrap .i64 ((↑n6 : Int) - 1)) * 2) + 1) none))) = (Value.pointer (some (Addr.mk 1012 ((0 + Int.toNat (IntKind.wrap .i64 ((↑n6 : Int) - 1)) * 2) + 1) none)))) ∧
 ((bcase (decide (0 ≤ IntKind.wrap .i64 ((↑n6 : Int) - 1)))
 (bcase (decide (IntKind.wrap .i64 ((↑n6 : Int) - 1) < (↑n6 : Int)))
 (Qv (Pt 1012 (0 + Int.toNat (IntKind.wrap .i64 ((↑n6 : Int) - 1)) * 2)))
 False)
 False) ∧
 ((Qv (vI (IntKind.wrap .i64 ((↑n6 : Int) - 1)))) ∧
 ((Qv (Sl 1012 (n6) (n6))) ∧
 ((Qv (Pt 1013 0)) ∧
 ((Qv (vI (IntKind.wrap .i64 ((↑n6 : Int) - 1)))) ∧
 ((Qv (Sl 1012 (n6) (n6))) ∧
 ((Qv (Pt 1013 0)) ∧
 True))))))))))))) ∧
 (bcase (decide ((0 + Int.toNat (IntKind.wrap .i64 ((↑n6 : Int) - 1)) * 2) + 1 + 1 ≤ List.length (Tk n6 2 l6)))
 (((bcase (decide (0 ≤ IntKind.wrap .i64 ((↑n6 : Int) - 1)))
 (bcase (decide (IntKind.wrap .i64 ((↑n6 : Int) - 1) < (↑n6 : Int)))
 (Qv (Pt 1012 (0 + Int.toNat (IntKind.wrap .i64 ((↑n6 : Int) - 1)) * 2)))
 False)
 False) ∧
 True) ∧
 (((Qv (Value.agg [(Sl 1012 (n6) (n6)), (vI x7), (vI x8)].toArray)) ∧
 ((Qv (Value.agg [(Sl 500 (n4) (c4)), (vI x5)].toArray)) ∧
 ((Qv (Value.agg [(Value.slice none 0 0), (vI x1), (vI x2), (vI x3)].toArray)) ∧
 True))) ∧
 ((Says C 12 [(D.agg [D.nil, (dI x1), (dI x2), (dI x3)])] [(D.agg [(D.sl 0 2 []), (dI x1), (dI x2), (dI x3)])]) ∧
 (((Qv (Value.agg [(Sl 1012 (n6) (n6)), (vI x7), (vI x8)].toArray)) ∧
 ((Qv (Value.agg [(Sl 500 (n4) (c4)), (vI x5)].toArray)) ∧
 True)) ∧
 (bcase (dL n4 1 l4)
 ((Says C 9 [(D.agg [(Dw n4 1 l4), (dI x5)])] [(D.agg [(Dw n4 1 l4), (dI x5)])]) ∧
 (((Qv (Value.agg [(Sl 1012 (n6) (n6)), (vI x7), (vI x8)].toArray)) ∧
 True) ∧
 (bcase (dL n4 1 (Tk n4 1 l4))
 (bcase (decide (0 + n6 * 2 ≤ List.length (listSet (Tk n6 2 l6) ((0 + Int.toNat (IntKind.wrap .i64 ((↑n6 : Int) - 1)) * 2) + 1) [vI (IntKind.wrap .i64 (n12 + n1))])))
 (∃ n13 : Int,
 (∃ n14 : Int,
 ((Says C 17 [(D.agg [(D.sl 0 2 []), (dI x1), (dI x2), (dI x3)]), (D.agg [(Dw n4 1 (Tk n4 1 l4)), (dI x5)]), (D.agg [(D.sl (n6) 2 (List.take (n6 * 2) (List.drop 0 (listSet (Tk n6 2 l6) ((0 + Int.toNat (IntKind.wrap .i64 ((↑n6 : Int) - 1)) * 2) + 1) [vI (IntKind.wrap .i64 (n12 + n1))])))), (dI x7), (dI x8)])] [(dI n13), (dI n14)]) ∧
 (((Qv (vI n14)) ∧
 ((Qv (vI n13)) ∧
 ((Qv (Value.tuple [(vI n13), (vI n14)].toArray)) ∧
 True))) ∧
 (((Qv (vI n14)) ∧
 True) ∧
 (True ∧
 (bcase (n14 == 0)
 (bcase (n13 == 2)
 (k kT)
 (k kF))
 (k kF))))))))
 False)
 False)))
 False)))))
 False))
 False)
 False)))
 False)
 False))
 False))))
 False)
 False)))))) ∨
 ((Says C 23 [(D.agg [D.nil, (dI x1), (dI x2), (dI x3)]), (D.agg [(Dw n4 1 l4), (dI x5)]), (D.agg [(Dw n6 2 l6), (dI x7), (dI x8)])] [(dI n10), (D.val (Value.bool false))]) ∧
 (bcase (n2 != 0)
 (k kF)
 (bcase (n1 != n9)
 (k kF)
 (bcase (n5 != 24)
 (k kF)
 (bcase (n3 != 0)
 (k kF)
 (bcase (decide (0 ≤ IntKind.wrap .i64 ((↑n6 : Int) - 1)))
 (bcase (decide (IntKind.wrap .i64 ((↑n6 : Int) - 1) < (↑n6 : Int)))
 (∃ n11 : Int,
 ((At (l6) ((0 + Int.toNat (IntKind.wrap .i64 ((↑n6 : Int) - 1)) * 2) + 1) 1 [(vI n11)]) ∧
 (bcase (decide (IntKind.wrap .i64 (n11 + n1) > 200))
 (k kT)
 (bcase (dL n6 2 l6)
 ((Says C 19 [(D.agg [(Dw n6 2 l6), (dI x7), (dI x8)])] [(D.agg [(Dw n6 2 l6), (dI x7), (dI x8)])]) ∧
 (bcase (decide (0 ≤ IntKind.wrap .i64 ((↑n6 : Int) - 1)))
 (bcase (decide (IntKind.wrap .i64 ((↑n6 : Int) - 1) < (↑n6 : Int)))
 (∃ n12 : Int,
 ((At (Tk n6 2 l6) ((0 + Int.toNat (IntKind.wrap .i64 ((↑n6 : Int) - 1)) * 2) + 1) 1 [(vI n12)]) ∧
 (bcase (decide (0 ≤ IntKind.wrap .i64 ((↑n6 : Int) - 1)))
 (bcase (decide (IntKind.wrap .i64 ((↑n6 : Int) - 1) < (↑n6 : Int)))
 (((Qv (Value.pointer (some (Addr.mk 1012 ((0 + Int.toNat (IntKind.wrap .i64 ((↑n6 : Int) - 1)) * 2) + 1) none)))) ∧
 ((bcase (decide (0 ≤ IntKind.wrap .i64 ((↑n6 : Int) - 1)))
 (bcase (decide (IntKind.wrap .i64 ((↑n6 : Int) - 1) < (↑n6 : Int)))
 (Qv (Pt 1012 (0 + Int.toNat (IntKind.wrap .i64 ((↑n6 : Int) - 1)) * 2)))
 False)
 False) ∧
 ((Qv (vI (IntKind.wrap .i64 (n12 + n1)))) ∧
 ((Qv (vI n1)) ∧
 ((∃ n13 : Int,
 ((At (Tk n6 2 l6) ((0 + Int.toNat (IntKind.wrap .i64 ((↑n6 : Int) - 1)) * 2) + 1) 1 [(vI n13)]) ∧
 ((vI n13) = (vI n12)))) ∧
 (((Value.pointer (some (Addr.mk 1012 ((0 + Int.toNat (IntKind.wrap .i64 ((↑n6 : Int) - 1)) * 2) + 1) none))) = (Value.pointer (some (Addr.mk 1012 ((0 + Int.toNat (IntKind.wrap .i64 ((↑n6 : Int) - 1)) * 2) + 1) none)))) ∧
 ((bcase (decide (0 ≤ IntKind.wrap .i64 ((↑n6 : Int) - 1)))
 (bcase (decide (IntKind.wrap .i64 ((↑n6 : Int) - 1) < (↑n6 : Int)))
 (Qv (Pt 1012 (0 + Int.toNat (IntKind.wrap .i64 ((↑n6 : Int) - 1)) * 2)))
 False)
 False) ∧
 ((Qv (vI (IntKind.wrap .i64 ((↑n6 : Int) - 1)))) ∧
 ((Qv (Sl 1012 (n6) (n6))) ∧
 ((Qv (Pt 1013 0)) ∧
 ((Qv (vI (IntKind.wrap .i64 ((↑n6 : Int) - 1)))) ∧
 ((Qv (Sl 1012 (n6) (n6))) ∧
 ((Qv (Pt 1013 0)) ∧
 True))))))))))))) ∧
 (bcase (decide ((0 + Int.toNat (IntKind.wrap .i64 ((↑n6 : Int) - 1)) * 2) + 1 + 1 ≤ List.length (Tk n6 2 l6)))
 (((bcase (decide (0 ≤ IntKind.wrap .i64 ((↑n6 : Int) - 1)))
 (bcase (decide (IntKind.wrap .i64 ((↑n6 : Int) - 1) < (↑n6 : Int)))
 (Qv (Pt 1012 (0 + Int.toNat (IntKind.wrap .i64 ((↑n6 : Int) - 1)) * 2)))
 False)
 False) ∧
 True) ∧
 (((Qv (Value.agg [(Sl 1012 (n6) (n6)), (vI x7), (vI x8)].toArray)) ∧
 ((Qv (Value.agg [(Sl 500 (n4) (c4)), (vI x5)].toArray)) ∧
 ((Qv (Value.agg [(Value.slice none 0 0), (vI x1), (vI x2), (vI x3)].toArray)) ∧
 True))) ∧
 ((Says C 12 [(D.agg [D.nil, (dI x1), (dI x2), (dI x3)])] [(D.agg [(D.sl 0 2 []), (dI x1), (dI x2), (dI x3)])]) ∧
 (((Qv (Value.agg [(Sl 1012 (n6) (n6)), (vI x7), (vI x8)].toArray)) ∧
 ((Qv (Value.agg [(Sl 500 (n4) (c4)), (vI x5)].toArray)) ∧
 True)) ∧
 (bcase (dL n4 1 l4)
 ((Says C 9 [(D.agg [(Dw n4 1 l4), (dI x5)])] [(D.agg [(Dw n4 1 l4), (dI x5)])]) ∧
 (((Qv (Value.agg [(Sl 1012 (n6) (n6)), (vI x7), (vI x8)].toArray)) ∧
 True) ∧
 (bcase (dL n4 1 (Tk n4 1 l4))
 (bcase (decide (0 + n6 * 2 ≤ List.length (listSet (Tk n6 2 l6) ((0 + Int.toNat (IntKind.wrap .i64 ((↑n6 : Int) - 1)) * 2) + 1) [vI (IntKind.wrap .i64 (n12 + n1))])))
 (∃ n13 : Int,
 (∃ n14 : Int,
 ((Says C 17 [(D.agg [(D.sl 0 2 []), (dI x1), (dI x2), (dI x3)]), (D.agg [(Dw n4 1 (Tk n4 1 l4)), (dI x5)]), (D.agg [(D.sl (n6) 2 (List.take (n6 * 2) (List.drop 0 (listSet (Tk n6 2 l6) ((0 + Int.toNat (IntKind.wrap .i64 ((↑n6 : Int) - 1)) * 2) + 1) [vI (IntKind.wrap .i64 (n12 + n1))])))), (dI x7), (dI x8)])] [(dI n13), (dI n14)]) ∧
 (((Qv (vI n14)) ∧
 ((Qv (vI n13)) ∧
 ((Qv (Value.tuple [(vI n13), (vI n14)].toArray)) ∧
 True))) ∧
 (((Qv (vI n14)) ∧
 True) ∧
 (True ∧
 (bcase (n14 == 0)
 (bcase (n13 == 2)
 (k kT)
 (k kF))
 (k kF))))))))
 False)
 False)))
 False)))))
 False))
 False)
 False)))
 False)
 False))
 False))))
 False)
 False))))))))
 False)
 False)) ∨
 ((Says C 22 [(D.agg [D.nil, (dI x1), (dI x2), (dI x3)]), (D.agg [(Dw n4 1 l4), (dI x5)]), (D.agg [(Dw n6 2 l6), (dI x7), (dI x8)])] [(dI n9), (D.val (Value.bool false))]) ∧
 (bcase (dL n4 1 l4)
 (bcase (dL n6 2 l6)
 (∃ n10 : Int,
 (((Says C 23 [(D.agg [D.nil, (dI x1), (dI x2), (dI x3)]), (D.agg [(Dw n4 1 l4), (dI x5)]), (D.agg [(Dw n6 2 l6), (dI x7), (dI x8)])] [(dI n10), (D.val (Value.bool true))]) ∧
 (bcase (n2 != 12)
 (k kF)
 (bcase (n1 != 0)
 (k kF)
 (bcase (n5 != 0)
 (k kF)
 (bcase (n3 != n10)
 (k kF)
 (k kT)))))) ∨
 ((Says C 23 [(D.agg [D.nil, (dI x1), (dI x2), (dI x3)]), (D.agg [(Dw n4 1 l4), (dI x5)]), (D.agg [(Dw n6 2 l6), (dI x7), (dI x8)])] [(dI n10), (D.val (Value.bool false))]) ∧
 (bcase (n2 != 12)
 (k kF)
 (bcase (n1 != 0)
 (k kF)
 (bcase (n5 != 24)
 (k kF)
 (bcase (n3 != 0)
 (k kF)
 (k kT))))))))
 False)
 False))))
 False)
 False))))
 False)
 (bcase (n7 != 0)
 (bcase (n2 == n7)
 (bcase (n5 == n7)
 (bcase (n1 == 0)
 (bcase (n3 == 0)
 (k kT)
 (k kF))
 (k kF))
 (k kF))
 (k kF))
 (bcase (dL n4 1 l4)
 (bcase (dL n6 2 l6)
 (∃ n8 : Int,
 (((Says C 22 [(D.agg [D.nil, (dI x1), (dI x2), (dI x3)]), (D.agg [(Dw n4 1 l4), (dI x5)]), (D.agg [(Dw n6 2 l6), (dI x7), (dI x8)])] [(dI n8), (D.val (Value.bool true))]) ∧
 (bcase (dL n4 1 l4)
 (bcase (dL n6 2 l6)
 (∃ n9 : Int,
 (((Says C 23 [(D.agg [D.nil, (dI x1), (dI x2), (dI x3)]), (D.agg [(Dw n4 1 l4), (dI x5)]), (D.agg [(Dw n6 2 l6), (dI x7), (dI x8)])] [(dI n9), (D.val (Value.bool true))]) ∧
 (bcase (n2 != 0)
 (k kF)
 (bcase (n1 != n8)
 (k kF)
 (bcase (n5 != 0)
 (k kF)
 (bcase (n3 != n9)
 (k kF)
 (bcase (decide (0 ≤ IntKind.wrap .i64 ((↑n6 : Int) - 1)))
 (bcase (decide (IntKind.wrap .i64 ((↑n6 : Int) - 1) < (↑n6 : Int)))
 (∃ n10 : Int,
 ((At (l6) ((0 + Int.toNat (IntKind.wrap .i64 ((↑n6 : Int) - 1)) * 2) + 1) 1 [(vI n10)]) ∧
 (bcase (decide (IntKind.wrap .i64 (n10 + n1) > 200))
 (k kT)
 (bcase (dL n6 2 l6)
 ((Says C 19 [(D.agg [(Dw n6 2 l6), (dI x7), (dI x8)])] [(D.agg [(Dw n6 2 l6), (dI x7), (dI x8)])]) ∧
 (bcase (decide (0 ≤ IntKind.wrap .i64 ((↑n6 : Int) - 1)))
 (bcase (decide (IntKind.wrap .i64 ((↑n6 : Int) - 1) < (↑n6 : Int)))
 (∃ n11 : Int,
 ((At (Tk n6 2 l6) ((0 + Int.toNat (IntKind.wrap .i64 ((↑n6 : Int) - 1)) * 2) + 1) 1 [(vI n11)]) ∧
 (bcase (decide (0 ≤ IntKind.wrap .i64 ((↑n6 : Int) - 1)))
 (bcase (decide (IntKind.wrap .i64 ((↑n6 : Int) - 1) < (↑n6 : Int)))
 (((Qv (Value.pointer (some (Addr.mk 1012 ((0 + Int.toNat (IntKind.wrap .i64 ((↑n6 : Int) - 1)) * 2) + 1) none)))) ∧
 ((bcase (decide (0 ≤ IntKind.wrap .i64 ((↑n6 : Int) - 1)))
 (bcase (decide (IntKind.wrap .i64 ((↑n6 : Int) - 1) < (↑n6 : Int)))
 (Qv (Pt 1012 (0 + Int.toNat (IntKind.wrap .i64 ((↑n6 : Int) - 1)) * 2)))
 False)
 False) ∧
 ((Qv (vI (IntKind.wrap .i64 (n11 + n1)))) ∧
 ((Qv (vI n1)) ∧
 ((∃ n12 : Int,
 ((At (Tk n6 2 l6) ((0 + Int.toNat (IntKind.wrap .i64 ((↑n6 : Int) - 1)) * 2) + 1) 1 [(vI n12)]) ∧
 ((vI n12) = (vI n11)))) ∧
 (((Value.pointer (some (Addr.mk 1012 ((0 + Int.toNat (IntKind.wrap .i64 ((↑n6 : Int) - 1)) * 2) + 1) none))) = (Value.pointer (some (Addr.mk 1012 ((0 + Int.toNat (IntKind.wrap .i64 ((↑n6 : Int) - 1)) * 2) + 1) none)))) ∧
 ((bcase (decide (0 ≤ IntKind.wrap .i64 ((↑n6 : Int) - 1)))
 (bcase (decide (IntKind.wrap .i64 ((↑n6 : Int) - 1) < (↑n6 : Int)))
 (Qv (Pt 1012 (0 + Int.toNat (IntKind.wrap .i64 ((↑n6 : Int) - 1)) * 2)))
 False)
 False) ∧
 ((Qv (vI (IntKind.wrap .i64 ((↑n6 : Int) - 1)))) ∧
 ((Qv (Sl 1012 (n6) (n6))) ∧
 ((Qv (Pt 1013 0)) ∧
 ((Qv (vI (IntKind.wrap .i64 ((↑n6 : Int) - 1)))) ∧
 ((Qv (Sl 1012 (n6) (n6))) ∧
 ((Qv (Pt 1013 0)) ∧
 True))))))))))))) ∧
 (bcase (decide ((0 + Int.toNat (IntKind.wrap .i64 ((↑n6 : Int) - 1)) * 2) + 1 + 1 ≤ List.length (Tk n6 2 l6)))
 (((bcase (decide (0 ≤ IntKind.wrap .i64 ((↑n6 : Int) - 1)))
 (bcase (decide (IntKind.wrap .i64 ((↑n6 : Int) - 1) < (↑n6 : Int)))
 (Qv (Pt 1012 (0 + Int.toNat (IntKind.wrap .i64 ((↑n6 : Int) - 1)) * 2)))
 False)
 False) ∧
 True) ∧
 (((Qv (Value.agg [(Sl 1012 (n6) (n6)), (vI x7), (vI x8)].toArray)) ∧
 ((Qv (Value.agg [(Sl 500 (n4) (c4)), (vI x5)].toArray)) ∧
 ((Qv (Value.agg [(Value.slice none 0 0), (vI x1), (vI x2), (vI x3)].toArray)) ∧
 True))) ∧
 ((Says C 12 [(D.agg [D.nil, (dI x1), (dI x2), (dI x3)])] [(D.agg [(D.sl 0 2 []), (dI x1), (dI x2), (dI x3)])]) ∧
 (((Qv (Value.agg [(Sl 1012 (n6) (n6)), (vI x7), (vI x8)].toArray)) ∧
 ((Qv (Value.agg [(Sl 500 (n4) (c4)), (vI x5)].toArray)) ∧
 True)) ∧
 (bcase (dL n4 1 l4)
 ((Says C 9 [(D.agg [(Dw n4 1 l4), (dI x5)])] [(D.agg [(Dw n4 1 l4), (dI x5)])]) ∧
 (((Qv (Value.agg [(Sl 1012 (n6) (n6)), (vI x7), (vI x8)].toArray)) ∧
 True) ∧
 (bcase (dL n4 1 (Tk n4 1 l4))
 (bcase (decide (0 + n6 * 2 ≤ List.length (listSet (Tk n6 2 l6) ((0 + Int.toNat (IntKind.wrap .i64 ((↑n6 : Int) - 1)) * 2) + 1) [vI (IntKind.wrap .i64 (n11 + n1))])))
 (∃ n12 : Int,
 (∃ n13 : Int,
 ((Says C 17 [(D.agg [(D.sl 0 2 []), (dI x1), (dI x2), (dI x3)]), (D.agg [(Dw n4 1 (Tk n4 1 l4)), (dI x5)]), (D.agg [(D.sl (n6) 2 (List.take (n6 * 2) (List.drop 0 (listSet (Tk n6 2 l6) ((0 + Int.toNat (IntKind.wrap .i64 ((↑n6 : Int) - 1)) * 2) + 1) [vI (IntKind.wrap .i64 (n11 + n1))])))), (dI x7), (dI x8)])] [(dI n12), (dI n13)]) ∧
 (((Qv (vI n13)) ∧
 ((Qv (vI n12)) ∧
 ((Qv (Value.tuple [(vI n12), (vI n13)].toArray)) ∧
 True))) ∧
 (((Qv (vI n13)) ∧
 True) ∧
 (True ∧
 (bcase (n13 == 0)
 (bcase (n12 == 2)
 (k kT)
 (k kF))
 (k kF))))))))
 False)
 False)))
 False)))))
 False))
 False)
 False)))
 False)
 False))
 False))))
 False)
 False)))))) ∨
 ((Says C 23 [(D.agg [D.nil, (dI x1), (dI x2), (dI x3)]), (D.agg [(Dw n4 1 l4), (dI x5)]), (D.agg [(Dw n6 2 l6), (dI x7), (dI x8)])] [(dI n9), (D.val (Value.bool false))]) ∧
 (bcase (n2 != 0)
 (k kF)
 (bcase (n1 != n8)
 (k kF)
 (bcase (n5 != 24)
 (k kF)
 (bcase (n3 != 0)
 (k kF)
 (bcase (decide (0 ≤ IntKind.wrap .i64 ((↑n6 : Int) - 1)))
 (bcase (decide (IntKind.wrap .i64 ((↑n6 : Int) - 1) < (↑n6 : Int)))
 (∃ n10 : Int,
 ((At (l6) ((0 + Int.toNat (IntKind.wrap .i64 ((↑n6 : Int) - 1)) * 2) + 1) 1 [(vI n10)]) ∧
 (bcase (decide (IntKind.wrap .i64 (n10 + n1) > 200))
 (k kT)
 (bcase (dL n6 2 l6)
 ((Says C 19 [(D.agg [(Dw n6 2 l6), (dI x7), (dI x8)])] [(D.agg [(Dw n6 2 l6), (dI x7), (dI x8)])]) ∧
 (bcase (decide (0 ≤ IntKind.wrap .i64 ((↑n6 : Int) - 1)))
 (bcase (decide (IntKind.wrap .i64 ((↑n6 : Int) - 1) < (↑n6 : Int)))
 (∃ n11 : Int,
 ((At (Tk n6 2 l6) ((0 + Int.toNat (IntKind.wrap .i64 ((↑n6 : Int) - 1)) * 2) + 1) 1 [(vI n11)]) ∧
 (bcase (decide (0 ≤ IntKind.wrap .i64 ((↑n6 : Int) - 1)))
 (bcase (decide (IntKind.wrap .i64 ((↑n6 : Int) - 1) < (↑n6 : Int)))
 (((Qv (Value.pointer (some (Addr.mk 1012 ((0 + Int.toNat (IntKind.wrap .i64 ((↑n6 : Int) - 1)) * 2) + 1) none)))) ∧
 ((bcase (decide (0 ≤ IntKind.wrap .i64 ((↑n6 : Int) - 1)))
 (bcase (decide (IntKind.wrap .i64 ((↑n6 : Int) - 1) < (↑n6 : Int)))
 (Qv (Pt 1012 (0 + Int.toNat (IntKind.wrap .i64 ((↑n6 : Int) - 1)) * 2)))
 False)
 False) ∧
 ((Qv (vI (IntKind.wrap .i64 (n11 + n1)))) ∧
 ((Qv (vI n1)) ∧
 ((∃ n12 : Int,
 ((At (Tk n6 2 l6) ((0 + Int.toNat (IntKind.wrap .i64 ((↑n6 : Int) - 1)) * 2) + 1) 1 [(vI n12)]) ∧
 ((vI n12) = (vI n11)))) ∧
 (((Value.pointer (some (Addr.mk 1012 ((0 + Int.toNat (IntKind.wrap .i64 ((↑n6 : Int) - 1)) * 2) + 1) none))) = (Value.pointer (some (Addr.mk 1012 ((0 + Int.toNat (IntKind.wrap .i64 ((↑n6 : Int) - 1)) * 2) + 1) none)))) ∧
 ((bcase (decide (0 ≤ IntKind.wrap .i64 ((↑n6 : Int) - 1)))
 (bcase (decide (IntKind.wrap .i64 ((↑n6 : Int) - 1) < (↑n6 : Int)))
 (Qv (Pt 1012 (0 + Int.toNat (IntKind.wrap .i64 ((↑n6 : Int) - 1)) * 2)))
 False)
 False) ∧
 ((Qv (vI (IntKind.wrap .i64 ((↑n6 : Int) - 1)))) ∧
 ((Qv (Sl 1012 (n6) (n6))) ∧
 ((Qv (Pt 1013 0)) ∧
 ((Qv (vI (IntKind.wrap .i64 ((↑n6 : Int) - 1)))) ∧
 ((Qv (Sl 1012 (n6) (n6))) ∧
 ((Qv (Pt 1013 0)) ∧
 True))))))))))))) ∧
 (bcase (decide ((0 + Int.toNat (IntKind.wrap .i64 ((↑n6 : Int) - 1)) * 2) + 1 + 1 ≤ List.length (Tk n6 2 l6)))
 (((bcase (decide (0 ≤ IntKind.wrap .i64 ((↑n6 : Int) - 1)))
 (bcase (decide (IntKind.wrap .i64 ((↑n6 : Int) - 1) < (↑n6 : Int)))
 (Qv (Pt 1012 (0 + Int.toNat (IntKind.wrap .i64 ((↑n6 : Int) - 1)) * 2)))
 False)
 False) ∧
 True) ∧
 (((Qv (Value.agg [(Sl 1012 (n6) (n6)), (vI x7), (vI x8)].toArray)) ∧
 ((Qv (Value.agg [(Sl 500 (n4) (c4)), (vI x5)].toArray)) ∧
 ((Qv (Value.agg [(Value.slice none 0 0), (vI x1), (vI x2), (vI x3)].toArray)) ∧
 True))) ∧
 ((Says C 12 [(D.agg [D.nil, (dI x1), (dI x2), (dI x3)])] [(D.agg [(D.sl 0 2 []), (dI x1), (dI x2), (dI x3)])]) ∧
 (((Qv (Value.agg [(Sl 1012 (n6) (n6)), (vI x7), (vI x8)].toArray)) ∧
 ((Qv (Value.agg [(Sl 500 (n4) (c4)), (vI x5)].toArray)) ∧
 True)) ∧
 (bcase (dL n4 1 l4)
 ((Says C 9 [(D.agg [(Dw n4 1 l4), (dI x5)])] [(D.agg [(Dw n4 1 l4), (dI x5)])]) ∧
 (((Qv (Value.agg [(Sl 1012 (n6) (n6)), (vI x7), (vI x8)].toArray)) ∧
 True) ∧
 (bcase (dL n4 1 (Tk n4 1 l4))
 (bcase (decide (0 + n6 * 2 ≤ List.length (listSet (Tk n6 2 l6) ((0 + Int.toNat (IntKind.wrap .i64 ((↑n6 : Int) - 1)) * 2) + 1) [vI (IntKind.wrap .i64 (n11 + n1))])))
 (∃ n12 : Int,
 (∃ n13 : Int,
 ((Says C 17 [(D.agg [(D.sl 0 2 []), (dI x1), (dI x2), (dI x3)]), (D.agg [(Dw n4 1 (Tk n4 1 l4)), (dI x5)]), (D.agg [(D.sl (n6) 2 (List.take (n6 * 2) (List.drop 0 (listSet (Tk n6 2 l6) ((0 + Int.toNat (IntKind.wrap .i64 ((↑n6 : Int) - 1)) * 2) + 1) [vI (IntKind.wrap .i64 (n11 + n1))])))), (dI x7), (dI x8)])] [(dI n12), (dI n13)]) ∧
 (((Qv (vI n13)) ∧
 ((Qv (vI n12)) ∧
 ((Qv (Value.tuple [(vI n12), (vI n13)].toArray)) ∧
 True))) ∧
 (((Qv (vI n13)) ∧
 True) ∧
 (True ∧
 (bcase (n13 == 0)
 (bcase (n12 == 2)
 (k kT)
 (k kF))
 (k kF))))))))
 False)
 False)))
 False)))))
 False))
 False)
 False)))
 False)
 False))
 False))))
 False)
 False))))))))
 False)
 False)) ∨
 ((Says C 22 [(D.agg [D.nil, (dI x1), (dI x2), (dI x3)]), (D.agg [(Dw n4 1 l4), (dI x5)]), (D.agg [(Dw n6 2 l6), (dI x7), (dI x8)])] [(dI n8), (D.val (Value.bool false))]) ∧
 (bcase (dL n4 1 l4)
 (bcase (dL n6 2 l6)
 (∃ n9 : Int,
 (((Says C 23 [(D.agg [D.nil, (dI x1), (dI x2), (dI x3)]), (D.agg [(Dw n4 1 l4), (dI x5)]), (D.agg [(Dw n6 2 l6), (dI x7), (dI x8)])] [(dI n9), (D.val (Value.bool true))]) ∧
 (bcase (n2 != 12)
 (k kF)
 (bcase (n1 != 0)
 (k kF)
 (bcase (n5 != 0)
 (k kF)
 (bcase (n3 != n9)
 (k kF)
 (k kT)))))) ∨
 ((Says C 23 [(D.agg [D.nil, (dI x1), (dI x2), (dI x3)]), (D.agg [(Dw n4 1 l4), (dI x5)]), (D.agg [(Dw n6 2 l6), (dI x7), (dI x8)])] [(dI n9), (D.val (Value.bool false))]) ∧
 (bcase (n2 != 12)
 (k kF)
 (bcase (n1 != 0)
 (k kF)
 (bcase (n5 != 24)
 (k kF)
 (bcase (n3 != 0)
 (k kF)
 (k kT))))))))
 False)
 False))))
 False)
 False)))))
 False)))))))
 False)
 False)))
 False)))
 False))))))))))
 False)
 False)))
 False)))
 False)))))
 (k kT))) ∨
 ((Says C 5 [] kF) ∧
 (k kF))) := by kernel_rfl
def gDnsn (C : Ct) (L : AtLoop) (x1 : Int) (x2 : Int) (x3 : Int) (n4 : Nat) (c4 : Nat) (l4 : List Value) (x5 : Int) (x7 : Int) (x8 : Int) (k : List D → Prop) : Prop := wpFn Try.prog (hL C) L 0 4 #[.agg #[.slice none 0 0, .int .i64 x1, .int .i64 x2, .int .i64 x3], .agg #[.slice (some ⟨500, 0, none⟩) n4 c4, .int .i64 x5], .agg #[.slice none 0 0, .int .i64 x7, .int .i64 x8]] (heapOf [(500, .sym l4 false 1)]) (dataK k)
theorem gDnsn_text (C : Ct) (L : AtLoop) (x1 : Int) (x2 : Int) (x3 : Int) (n4 : Nat) (c4 : Nat) (l4 : List Go.Value) (x5 : Int) (x7 : Int) (x8 : Int) (k : List D → Prop) : gDnsn C L x1 x2 x3 n4 c4 l4 x5 x7 x8 k =
 (((Says C 5 [] kT) ∧
 (bcase (decide ((↑n4 : Int) ≤ 10))
 (((Qv (Value.agg [(Value.slice none 0 0), (vI x7), (vI x8)].toArray)) ∧
 ((Qv (Value.agg [(Sl 500 (n4) (c4)), (vI x5)].toArray)) ∧
 ((Qv (Value.agg [(Value.slice none 0 0), (vI x1), (vI x2), (vI x3)].toArray)) ∧
 True))) ∧
 ((Says C 12 [(D.agg [D.nil, (dI x1), (dI x2), (dI x3)])] [(D.agg [(D.sl 0 2 []), (dI x1), (dI x2), (dI x3)])]) ∧
 (((Qv (Value.agg [(Value.slice none 0 0), (vI x7), (vI x8)].toArray)) ∧
 ((Qv (Value.agg [(Sl 500 (n4) (c4)), (vI x5)].toArray)) ∧
 True)) ∧
 (bcase (dL n4 1 l4)
 ((Says C 9 [(D.agg [(Dw n4 1 l4), (dI x5)])] [(D.agg [(Dw n4 1 l4), (dI x5)])]) ∧
 (((Qv (Value.agg [(Value.slice none 0 0), (vI x7), (vI x8)].toArray)) ∧
 True) ∧
 ((Says C 19 [(D.agg [D.nil, (dI x7), (dI x8)])] [(D.agg [(D.sl 0 2 []), (dI x7), (dI x8)])]) ∧
 (True ∧
 (bcase (dL n4 1 (Tk n4 1 l4))
 (∃ n1 : Int,
 (∃ n2 : Int,
 ((Says C 18 [(D.agg [(D.sl 0 2 []), (dI x1), (dI x2), (dI x3)]), (D.agg [(Dw n4 1 (Tk n4 1 l4)), (dI x5)]), (D.agg [(D.sl 0 2 []), (dI x7), (dI x8)])] [(dI n1), (dI n2)]) ∧
 (((Qv (vI n2)) ∧
 ((Qv (vI n1)) ∧
 ((Qv (Value.tuple [(vI n1), (vI n2)].toArray)) ∧
 True))) ∧
 (((Qv (vI n2)) ∧
 True) ∧
 (True ∧
 (((Qv (Value.agg [(Value.slice none 0 0), (vI x7), (vI x8)].toArray)) ∧
 ((Qv (Value.agg [(Sl 500 (n4) (c4)), (vI x5)].toArray)) ∧
 ((Qv (Value.agg [(Value.slice none 0 0), (vI x1), (vI x2), (vI x3)].toArray)) ∧
 True))) ∧
 ((Says C 12 [(D.agg [D.nil, (dI x1), (dI x2), (dI x3)])] [(D.agg [(D.sl 0 2 []), (dI x1), (dI x2), (dI x3)])]) ∧
 (((Qv (Value.agg [(Value.slice none 0 0), (vI x7), (vI x8)].toArray)) ∧
 ((Qv (Value.agg [(Sl 500 (n4) (c4)), (vI x5)].toArray)) ∧
 True)) ∧
 (bcase (dL n4 1 l4)
 ((Says C 9 [(D.agg [(Dw n4 1 l4), (dI x5)])] [(D.agg [(Dw n4 1 l4), (dI x5)])]) ∧
 (((Qv (Value.agg [(Value.slice none 0 0), (vI x7), (vI x8)].toArray)) ∧
 True) ∧
 ((Says C 19 [(D.agg [D.nil, (dI x7), (dI x8)])] [(D.agg [(D.sl 0 2 []), (dI x7), (dI x8)])]) ∧
 (True ∧
 (bcase (dL n4 1 (Tk n4 1 l4))
 (∃ n3 : Int,
 (∃ n5 : Int,
 ((Says C 20 [(D.agg [(D.sl 0 2 []), (dI x1), (dI x2), (dI x3)]), (D.agg [(Dw n4 1 (Tk n4 1 l4)), (dI x5)]), (D.agg [(D.sl 0 2 []), (dI x7), (dI x8)])] [(dI n3), (dI n5)]) ∧
 (((Qv (vI n5)) ∧
 ((Qv (vI n3)) ∧
 ((Qv (Value.tuple [(vI n3), (vI n5)].toArray)) ∧
 True))) ∧
 (((Qv (vI n5)) ∧
 True) ∧
 (True ∧
 (bcase (dL n4 1 l4)
 (∃ n6 : Int,
 ((Says C 7 [(D.agg [D.nil, (dI x1), (dI x2), (dI x3)]), (D.agg [(Dw n4 1 l4), (dI x5)])] [(dI n6)]) ∧
 (bcase (n6 == 0)
 (∃ n7 : Int,
 ((Says C 21 [(D.agg [D.nil, (dI x7), (dI x8)])] [(dI n7)]) ∧
 (bcase (n7 != 0)
 (bcase (n2 == n7)
 (bcase (n5 == n7)
 (bcase (n1 == 0)
 (bcase (n3 == 0)
 (k kT)
 (k kF))
 (k kF))
 (k kF))
 (k kF))
 (bcase (dL n4 1 l4)
 (∃ n8 : Int,
 (((Says C 22 [(D.agg [D.nil, (dI x1), (dI x2), (dI x3)]), (D.agg [(Dw n4 1 l4), (dI x5)]), (D.agg [D.nil, (dI x7), (dI x8)])] [(dI n8), (D.val (Value.bool true))]) ∧
 (bcase (dL n4 1 l4)
 (∃ n9 : Int,
 (((Says C 23 [(D.agg [D.nil, (dI x1), (dI x2), (dI x3)]), (D.agg [(Dw n4 1 l4), (dI x5)]), (D.agg [D.nil, (dI x7), (dI x8)])] [(dI n9), (D.val (Value.bool true))]) ∧
 (bcase (n2 != 0)
 (k kF)
 (bcase (n1 != n8)
 (k kF)
 (bcase (n5 != 0)
 (k kF)
 (bcase (n3 != n9)
 (k kF)
 False))))) ∨
 ((Says C 23 [(D.agg [D.nil, (dI x1), (dI x2), (dI x3)]), (D.agg [(Dw n4 1 l4), (dI x5)]), (D.agg [D.nil, (dI x7), (dI x8)])] [(dI n9), (D.val (Value.bool false))]) ∧
 (bcase (n2 != 0)
 (k kF)
 (bcase (n1 != n8)
 (k kF)
 (bcase (n5 != 24)
 (k kF)
 (bcase (n3 != 0)
 (k kF)
 False)))))))
 False)) ∨
 ((Says C 22 [(D.agg [D.nil, (dI x1), (dI x2), (dI x3)]), (D.agg [(Dw n4 1 l4), (dI x5)]), (D.agg [D.nil, (dI x7), (dI x8)])] [(dI n8), (D.val (Value.bool false))]) ∧
 (bcase (dL n4 1 l4)
 (∃ n9 : Int,
 (((Says C 23 [(D.agg [D.nil, (dI x1), (dI x2), (dI x3)]), (D.agg [(Dw n4 1 l4), (dI x5)]), (D.agg [D.nil, (dI x7), (dI x8)])] [(dI n9), (D.val (Value.bool true))]) ∧
 (bcase (n2 != 12)
 (k kF)
 (bcase (n1 != 0)
 (k kF)
 (bcase (n5 != 0)
 (k kF)
 (bcase (n3 != n9)
 (k kF)
 (k kT)))))) ∨
 ((Says C 23 [(D.agg [D.nil, (dI x1), (dI x2), (dI x3)]), (D.agg [(Dw n4 1 l4), (dI x5)]), (D.agg [D.nil, (dI x7), (dI x8)])] [(dI n9), (D.val (Value.bool false))]) ∧
 (bcase (n2 != 12)
 (k kF)
 (bcase (n1 != 0)
 (k kF)
 (bcase (n5 != 24)
 (k kF)
 (bcase (n3 != 0)
 (k kF)
 (k kT))))))))
 False))))
 False))))
 (bcase (n6 != 0)
 (bcase (n2 == n6)
 (bcase (n5 == n6)
 (bcase (n1 == 0)
 (bcase (n3 == 0)
 (k kT)
 (k kF))
 (k kF))
 (k kF))
 (k kF))
 (bcase (dL n4 1 l4)
 (∃ n7 : Int,
 (((Says C 22 [(D.agg [D.nil, (dI x1), (dI x2), (dI x3)]), (D.agg [(Dw n4 1 l4), (dI x5)]), (D.agg [D.nil, (dI x7), (dI x8)])] [(dI n7), (D.val (Value.bool true))]) ∧
 (bcase (dL n4 1 l4)
 (∃ n8 : Int,
 (((Says C 23 [(D.agg [D.nil, (dI x1), (dI x2), (dI x3)]), (D.agg [(Dw n4 1 l4), (dI x5)]), (D.agg [D.nil, (dI x7), (dI x8)])] [(dI n8), (D.val (Value.bool true))]) ∧
 (bcase (n2 != 0)
 (k kF)
 (bcase (n1 != n7)
 (k kF)
 (bcase (n5 != 0)
 (k kF)
 (bcase (n3 != n8)
 (k kF)
 False))))) ∨
 ((Says C 23 [(D.agg [D.nil, (dI x1), (dI x2), (dI x3)]), (D.agg [(Dw n4 1 l4), (dI x5)]), (D.agg [D.nil, (dI x7), (dI x8)])] [(dI n8), (D.val (Value.bool false))]) ∧
 (bcase (n2 != 0)
 (k kF)
 (bcase (n1 != n7)
 (k kF)
 (bcase (n5 != 24)
 (k kF)
 (bcase (n3 != 0)
 (k kF)
 False)))))))
 False)) ∨
 ((Says C 22 [(D.agg [D.nil, (dI x1), (dI x2), (dI x3)]), (D.agg [(Dw n4 1 l4), (dI x5)]), (D.agg [D.nil, (dI x7), (dI x8)])] [(dI n7), (D.val (Value.bool false))]) ∧
 (bcase (dL n4 1 l4)
 (∃ n8 : Int,
 (((Says C 23 [(D.agg [D.nil, (dI x1), (dI x2), (dI x3)]), (D.agg [(Dw n4 1 l4), (dI x5)]), (D.agg [D.nil, (dI x7), (dI x8)])] [(dI n8), (D.val (Value.bool true))]) ∧
 (bcase (n2 != 12)
 (k kF)
 (bcase (n1 != 0)
 (k kF)
 (bcase (n5 != 0)
 (k kF)
 (bcase (n3 != n8)
 (k kF)
 (k kT)))))) ∨
 ((Says C 23 [(D.agg [D.nil, (dI x1), (dI x2), (dI x3)]), (D.agg [(Dw n4 1 l4), (dI x5)]), (D.agg [D.nil, (dI x7), (dI x8)])] [(dI n8), (D.val (Value.bool false))]) ∧
 (bcase (n2 != 12)
 (k kF)
 (bcase (n1 != 0)
 (k kF)
 (bcase (n5 != 24)
 (k kF)
 (bcase (n3 != 0)
 (k kF)
 (k kT))))))))
 False))))
 False)))))
 False)))))))
 False)))))
 False))))))))))
 False)))))
 False))))
 (k kT))) ∨
 ((Says C 5 [] kF) ∧
 (k kF))) := by kernel_rfl
def gDnns (C : Ct) (L : AtLoop) (x1 : Int) (x2 : Int) (x3 : Int) (x5 : Int) (n6 : Nat) (c6 : Nat) (l6 : List Value) (x7 : Int) (x8 : Int) (k : List D → Prop) : Prop := wpFn Try.prog (hL C) L 0 4 #[.agg #[.slice none 0 0, .int .i64 x1, .int .i64 x2, .int .i64 x3], .agg #[.slice none 0 0, .int .i64 x5], .agg #[.slice (some ⟨500, 0, none⟩) n6 c6, .int .i64 x7, .int .i64 x8]] (heapOf [(500, .sym l6 false 2)]) (dataK k)
theorem gDnns_text (C : Ct) (L : AtLoop) (x1 : Int) (x2 : Int) (x3 : Int) (x5 : Int) (n6 : Nat) (c6 : Nat) (l6 : List Go.Value) (x7 : Int) (x8 : Int) (k : List D → Prop) : gDnns C L x1 x2 x3 x5 n6 c6 l6 x7 x8 k =
 (((Says C 5 [] kT) ∧
 (bcase (decide ((↑n6 : Int) > 7))
 (k kT)
 (((Qv (Value.agg [(Sl 500 (n6) (c6)), (vI x7), (vI x8)].toArray)) ∧
 ((Qv (Value.agg [(Value.slice none 0 0), (vI x5)].toArray)) ∧
 ((Qv (Value.agg [(Value.slice none 0 0), (vI x1), (vI x2), (vI x3)].toArray)) ∧
 True))) ∧
 ((Says C 12 [(D.agg [D.nil, (dI x1), (dI x2), (dI x3)])] [(D.agg [(D.sl 0 2 []), (dI x1), (dI x2), (dI x3)])]) ∧
 (((Qv (Value.agg [(Sl 500 (n6) (c6)), (vI x7), (vI x8)].toArray)) ∧
 ((Qv (Value.agg [(Value.slice none 0 0), (vI x5)].toArray)) ∧
 True)) ∧
 ((Says C 9 [(D.agg [D.nil, (dI x5)])] [(D.agg [(D.sl 0 1 []), (dI x5)])]) ∧
 (((Qv (Value.agg [(Sl 500 (n6) (c6)), (vI x7), (vI x8)].toArray)) ∧
 True) ∧
 (bcase (dL n6 2 l6)
 ((Says C 19 [(D.agg [(Dw n6 2 l6), (dI x7), (dI x8)])] [(D.agg [(Dw n6 2 l6), (dI x7), (dI x8)])]) ∧
 (True ∧
 (bcase (dL n6 2 (Tk n6 2 l6))
 (∃ n1 : Int,
 (∃ n2 : Int,
 ((Says C 18 [(D.agg [(D.sl 0 2 []), (dI x1), (dI x2), (dI x3)]), (D.agg [(D.sl 0 1 []), (dI x5)]), (D.agg [(Dw n6 2 (Tk n6 2 l6)), (dI x7), (dI x8)])] [(dI n1), (dI n2)]) ∧
 (((Qv (vI n2)) ∧
 ((Qv (vI n1)) ∧
 ((Qv (Value.tuple [(vI n1), (vI n2)].toArray)) ∧
 True))) ∧
 (((Qv (vI n2)) ∧
 True) ∧
 (True ∧
 (((Qv (Value.agg [(Sl 500 (n6) (c6)), (vI x7), (vI x8)].toArray)) ∧
 ((Qv (Value.agg [(Value.slice none 0 0), (vI x5)].toArray)) ∧
 ((Qv (Value.agg [(Value.slice none 0 0), (vI x1), (vI x2), (vI x3)].toArray)) ∧
 True))) ∧
 ((Says C 12 [(D.agg [D.nil, (dI x1), (dI x2), (dI x3)])] [(D.agg [(D.sl 0 2 []), (dI x1), (dI x2), (dI x3)])]) ∧
 (((Qv (Value.agg [(Sl 500 (n6) (c6)), (vI x7), (vI x8)].toArray)) ∧
 ((Qv (Value.agg [(Value.slice none 0 0), (vI x5)].toArray)) ∧
 True)) ∧
 ((Says C 9 [(D.agg [D.nil, (dI x5)])] [(D.agg [(D.sl 0 1 []), (dI x5)])]) ∧
 (((Qv (Value.agg [(Sl 500 (n6) (c6)), (vI x7), (vI x8)].toArray)) ∧
 True) ∧
 (bcase (dL n6 2 l6)
 ((Says C 19 [(D.agg [(Dw n6 2 l6), (dI x7), (dI x8)])] [(D.agg [(Dw n6 2 l6), (dI x7), (dI x8)])]) ∧
 (True ∧
 (bcase (dL n6 2 (Tk n6 2 l6))
 (∃ n3 : Int,
 (∃ n4 : Int,
 ((Says C 20 [(D.agg [(D.sl 0 2 []), (dI x1), (dI x2), (dI x3)]), (D.agg [(D.sl 0 1 []), (dI x5)]), (D.agg [(Dw n6 2 (Tk n6 2 l6)), (dI x7), (dI x8)])] [(dI n3), (dI n4)]) ∧
 (((Qv (vI n4)) ∧
 ((Qv (vI n3)) ∧
 ((Qv (Value.tuple [(vI n3), (vI n4)].toArray)) ∧
 True))) ∧
 (((Qv (vI n4)) ∧
 True) ∧
 (True ∧
 (∃ n5 : Int,
 ((Says C 7 [(D.agg [D.nil, (dI x1), (dI x2), (dI x3)]), (D.agg [D.nil, (dI x5)])] [(dI n5)]) ∧
 (bcase (n5 == 0)
 (bcase (dL n6 2 l6)
 (∃ n7 : Int,
 ((Says C 21 [(D.agg [(Dw n6 2 l6), (dI x7), (dI x8)])] [(dI n7)]) ∧
 (bcase (n7 != 0)
 (bcase (n2 == n7)
 (bcase (n4 == n7)
 (bcase (n1 == 0)
 (bcase (n3 == 0)
 (k kT)
 (k kF))
 (k kF))
 (k kF))
 (k kF))
 (bcase (dL n6 2 l6)
 (∃ n8 : Int,
 (((Says C 22 [(D.agg [D.nil, (dI x1), (dI x2), (dI x3)]), (D.agg [D.nil, (dI x5)]), (D.agg [(Dw n6 2 l6), (dI x7), (dI x8)])] [(dI n8), (D.val (Value.bool true))]) ∧
 (bcase (dL n6 2 l6)
 (∃ n9 : Int,
 (((Says C 23 [(D.agg [D.nil, (dI x1), (dI x2), (dI x3)]), (D.agg [D.nil, (dI x5)]), (D.agg [(Dw n6 2 l6), (dI x7), (dI x8)])] [(dI n9), (D.val (Value.bool true))]) ∧
 (bcase (n2 != 0)
 (k kF)
 (bcase (n1 != n8)
 (k kF)
 (bcase (n4 != 0)
 (k kF)
 (bcase (n3 != n9)
 (k kF)
 (bcase (decide (0 ≤ IntKind.wrap .i64 ((↑n6 : Int) - 1)))
 (bcase (decide (IntKind.wrap .i64 ((↑n6 : Int) - 1) < (↑n6 : Int)))
 (∃ n10 : Int,
 ((At (l6) ((0 + Int.toNat (IntKind.wrap .i64 ((↑n6 : Int) - 1)) * 2) + 1) 1 [(vI n10)]) ∧
 (bcase (decide (IntKind.wrap .i64 (n10 + n1) > 200))
 (k kT)
 (bcase (dL n6 2 l6)
 ((Says C 19 [(D.agg [(Dw n6 2 l6), (dI x7), (dI x8)])] [(D.agg [(Dw n6 2 l6), (dI x7), (dI x8)])]) ∧
 (bcase (decide (0 ≤ IntKind.wrap .i64 ((↑n6 : Int) - 1)))
 (bcase (decide (IntKind.wrap .i64 ((↑n6 : Int) - 1) < (↑n6 : Int)))
 (∃ n11 : Int,
 ((At (Tk n6 2 l6) ((0 + Int.toNat (IntKind.wrap .i64 ((↑n6 : Int) - 1)) * 2) + 1) 1 [(vI n11)]) ∧
 (bcase (decide (0 ≤ IntKind.wrap .i64 ((↑n6 : Int) - 1)))
 (bcase (decide (IntKind.wrap .i64 ((↑n6 : Int) - 1) < (↑n6 : Int)))
 (((Qv (Value.pointer (some (Addr.mk 1012 ((0 + Int.toNat (IntKind.wrap .i64 ((↑n6 : Int) - 1)) * 2) + 1) none)))) ∧
 ((bcase (decide (0 ≤ IntKind.wrap .i64 ((↑n6 : Int) - 1)))
 (bcase (decide (IntKind.wrap .i64 ((↑n6 : Int) - 1) < (↑n6 : Int)))
 (Qv (Pt 1012 (0 + Int.toNat (IntKind.wrap .i64 ((↑n6 : Int) - 1)) * 2)))
 False)
 False) ∧
 ((Qv (vI (IntKind.wrap .i64 (n11 + n1)))) ∧
 ((Qv (vI n1)) ∧
 ((∃ n12 : Int,
 ((At (Tk n6 2 l6) ((0 + Int.toNat (IntKind.wrap .i64 ((↑n6 : Int) - 1)) * 2) + 1) 1 [(vI n12)]) ∧
 ((vI n12) = (vI n11)))) ∧
 (((Value.pointer (some (Addr.mk 1012 ((0 + Int.toNat (IntKind.wrap .i64 ((↑n6 : Int) - 1)) * 2) + 1) none))) = (Value.pointer (some (Addr.mk 1012 ((0 + Int.toNat (IntKind.wrap .i64 ((↑n6 : Int) - 1)) * 2) + 1) none)))) ∧
 ((bcase (decide (0 ≤ IntKind.wrap .i64 ((↑n6 : Int) - 1)))
 (bcase (decide (IntKind.wrap .i64 ((↑n6 : Int) - 1) < (↑n6 : Int)))
 (Qv (Pt 1012 (0 + Int.toNat (IntKind.wrap .i64 ((↑n6 : Int) - 1)) * 2)))
 False)
 False) ∧
 ((Qv (vI (IntKind.wrap .i64 ((↑n6 : Int) - 1)))) ∧
 ((Qv (Sl 1012 (n6) (n6))) ∧
 ((Qv (Pt 1013 0)) ∧
 ((Qv (vI (IntKind.wrap .i64 ((↑n6 : Int) - 1)))) ∧
 ((Qv (Sl 1012 (n6) (n6))) ∧
 ((Qv (Pt 1013 0)) ∧
 True))))))))))))) ∧
 (bcase (decide ((0 + Int.toNat (IntKind.wrap .i64 ((↑n6 : Int) - 1)) * 2) + 1 + 1 ≤ List.length (Tk n6 2 l6)))
 (((bcase (decide (0 ≤ IntKind.wrap .i64 ((↑n6 : Int) - 1)))
 (bcase (decide (IntKind.wrap .i64 ((↑n6 : Int) - 1) < (↑n6 : Int)))
 (Qv (Pt 1012 (0 + Int.toNat (IntKind.wrap .i64 ((↑n6 : Int) - 1)) * 2)))
 False)
 False) ∧
 True) ∧
 (((Qv (Value.agg [(Sl 1012 (n6) (n6)), (vI x7), (vI x8)].toArray)) ∧
 ((Qv (Value.agg [(Value.slice none 0 0), (vI x5)].toArray)) ∧
 ((Qv (Value.agg [(Value.slice none 0 0), (vI x1), (vI x2), (vI x3)].toArray)) ∧
 True))) ∧
 ((Says C 12 [(D.agg [D.nil, (dI x1), (dI x2), (dI x3)])] [(D.agg [(D.sl 0 2 []), (dI x1), (dI x2), (dI x3)])]) ∧
 (((Qv (Value.agg [(Sl 1012 (n6) (n6)), (vI x7), (vI x8)].toArray)) ∧
 ((Qv (Value.agg [(Value.slice none 0 0), (vI x5)].toArray)) ∧
 True)) ∧
 ((Says C 9 [(D.agg [D.nil, (dI x5)])] [(D.agg [(D.sl 0 1 []), (dI x5)])]) ∧
 (((Qv (Value.agg [(Sl 1012 (n6) (n6)), (vI x7), (vI x8)].toArray)) ∧
 True) ∧
 (bcase (decide (0 + n6 * 2 ≤ List.length (listSet (Tk n6 2 l6) ((0 + Int.toNat (IntKind.wrap .i64 ((↑n6 : Int) - 1)) * 2) + 1) [vI (IntKind.wrap .i64 (n11 + n1))])))
 (∃ n12 : Int,
 (∃ n13 : Int,
 ((Says C 17 [(D.agg [(D.sl 0 2 []), (dI x1), (dI x2), (dI x3)]), (D.agg [(D.sl 0 1 []), (dI x5)]), (D.agg [(D.sl (n6) 2 (List.take (n6 * 2) (List.drop 0 (listSet (Tk n6 2 l6) ((0 + Int.toNat (IntKind.wrap .i64 ((↑n6 : Int) - 1)) * 2) + 1) [vI (IntKind.wrap .i64 (n11 + n1))])))), (dI x7), (dI x8)])] [(dI n12), (dI n13)]) ∧
 (((Qv (vI n13)) ∧
 ((Qv (vI n12)) ∧
 ((Qv (Value.tuple [(vI n12), (vI n13)].toArray)) ∧
 True))) ∧
 (((Qv (vI n13)) ∧
 True) ∧
 (True ∧
 (bcase (n13 == 0)
 (bcase (n12 == 2)
 (k kT)
 (k kF))
 (k kF))))))))
 False)))))))
 False))
 False)
 False)))
 False)
 False))
 False))))
 False)
 False)))))) ∨
 ((Says C 23 [(D.agg [D.nil, (dI x1), (dI x2), (dI x3)]), (D.agg [D.nil, (dI x5)]), (D.agg [(Dw n6 2 l6), (dI x7), (dI x8)])] [(dI n9), (D.val (Value.bool false))]) ∧
 (bcase (n2 != 0)
 (k kF)
 (bcase (n1 != n8)
 (k kF)
 (bcase (n4 != 24)
 (k kF)
 (bcase (n3 != 0)
 (k kF)
 (bcase (decide (0 ≤ IntKind.wrap .i64 ((↑n6 : Int) - 1)))
 (bcase (decide (IntKind.wrap .i64 ((↑n6 : Int) - 1) < (↑n6 : Int)))
 (∃ n10 : Int,
 ((At (l6) ((0 + Int.toNat (IntKind.wrap .i64 ((↑n6 : Int) - 1)) * 2) + 1) 1 [(vI n10)]) ∧
 (bcase (decide (IntKind.wrap .i64 (n10 + n1) > 200))
 (k kT)
 (bcase (dL n6 2 l6)
 ((Says C 19 [(D.agg [(Dw n6 2 l6), (dI x7), (dI x8)])] [(D.agg [(Dw n6 2 l6), (dI x7), (dI x8)])]) ∧
 (bcase (decide (0 ≤ IntKind.wrap .i64 ((↑n6 : Int) - 1)))
 (bcase (decide (IntKind.wrap .i64 ((↑n6 : Int) - 1) < (↑n6 : Int)))
 (∃ n11 : Int,
 ((At (Tk n6 2 l6) ((0 + Int.toNat (IntKind.wrap .i64 ((↑n6 : Int) - 1)) * 2) + 1) 1 [(vI n11)]) ∧
 (bcase (decide (0 ≤ IntKind.wrap .i64 ((↑n6 : Int) - 1)))
 (bcase (decide (IntKind.wrap .i64 ((↑n6 : Int) - 1) < (↑n6 : Int)))
 (((Qv (Value.pointer (some (Addr.mk 1012 ((0 + Int.toNat (IntKind.wrap .i64 ((↑n6 : Int) - 1)) * 2) + 1) none)))) ∧
 ((bcase (decide (0 ≤ IntKind.wrap .i64 ((↑n6 : Int) - 1)))
 (bcase (decide (IntKind.wrap .i64 ((↑n6 : Int) - 1) < (↑n6 : Int)))
 (Qv (Pt 1012 (0 + Int.toNat (IntKind.wrap .i64 ((↑n6 : Int) - 1)) * 2)))
 False)
 False) ∧
 ((Qv (vI (IntKind.wrap .i64 (n11 + n1)))) ∧
 ((Qv (vI n1)) ∧
 ((∃ n12 : Int,
 ((At (Tk n6 2 l6) ((0 + Int.toNat (IntKind.wrap .i64 ((↑n6 : Int) - 1)) * 2) + 1) 1 [(vI n12)]) ∧
 ((vI n12) = (vI n11)))) ∧
 (((Value.pointer (some (Addr.mk 1012 ((0 + Int.toNat (IntKind.wrap .i64 ((↑n6 : Int) - 1)) * 2) + 1) none))) = (Value.pointer (some (Addr.mk 1012 ((0 + Int.toNat (IntKind.wrap .i64 ((↑n6 : Int) - 1)) * 2) + 1) none)))) ∧
 ((bcase (decide (0 ≤ IntKind.wrap .i64 ((↑n6 : Int) - 1)))
 (bcase (decide (IntKind.wrap .i64 ((↑n6 : Int) - 1) < (↑n6 : Int)))
 (Qv (Pt 1012 (0 + Int.toNat (IntKind.wrap .i64 ((↑n6 : Int) - 1)) * 2)))
 False)
 False) ∧
 ((Qv (vI (IntKind.wrap .i64 ((↑n6 : Int) - 1)))) ∧
 ((Qv (Sl 1012 (n6) (n6))) ∧
 ((Qv (Pt 1013 0)) ∧
 ((Qv (vI (IntKind.wrap .i64 ((↑n6 : Int) - 1)))) ∧
 ((Qv (Sl 1012 (n6) (n6))) ∧
 ((Qv (Pt 1013 0)) ∧
 True))))))))))))) ∧
 (bcase (decide ((0 + Int.toNat (IntKind.wrap .i64 ((↑n6 : Int) - 1)) * 2) + 1 + 1 ≤ List.length (Tk n6 2 l6)))
 (((bcase (decide (0 ≤ IntKind.wrap .i64 ((↑n6 : Int) - 1)))
 (bcase (decide (IntKind.wrap .i64 ((↑n6 : Int) - 1) < (↑n6 : Int)))
 (Qv (Pt 1012 (0 + Int.toNat (IntKind.wrap .i64 ((↑n6 : Int) - 1)) * 2)))
 False)
 False) ∧
 True) ∧
 (((Qv (Value.agg [(Sl 1012 (n6) (n6)), (vI x7), (vI x8)].toArray)) ∧
 ((Qv (Value.agg [(Value.slice none 0 0), (vI x5)].toArray)) ∧
 ((Qv (Value.agg [(Value.slice none 0 0), (vI x1), (vI x2), (vI x3)].toArray)) ∧
 True))) ∧
 ((Says C 12 [(D.agg [D.nil, (dI x1), (dI x2), (dI x3)])] [(D.agg [(D.sl 0 2 []), (dI x1), (dI x2), (dI x3)])]) ∧
 (((Qv (Value.agg [(Sl 1012 (n6) (n6)), (vI x7), (vI x8)].toArray)) ∧
 ((Qv (Value.agg [(Value.slice none 0 0), (vI x5)].toArray)) ∧
 True)) ∧
 ((Says C 9 [(D.agg [D.nil, (dI x5)])] [(D.agg [(D.sl 0 1 []), (dI x5)])]) ∧
 (((Qv (Value.agg [(Sl 1012 (n6) (n6)), (vI x7), (vI x8)].toArray)) ∧
 True) ∧
 (bcase (decide (0 + n6 * 2 ≤ List.length (listSet (Tk n6 2 l6) ((0 + Int.toNat (IntKind.wrap .i64 ((↑n6 : Int) - 1)) * 2) + 1) [vI (IntKind.wrap .i64 (n11 + n1))])))
 (∃ n12 : Int,
 (∃ n13 : Int,
 ((Says C 17 [(D.agg [(D.sl 0 2 []), (dI x1), (dI x2), (dI x3)]), (D.agg [(D.sl 0 1 []), (dI x5)]), (D.agg [(D.sl (n6) 2 (List.take (n6 * 2) (List.drop 0 (listSet (Tk n6 2 l6) ((0 + Int.toNat (IntKind.wrap .i64 ((↑n6 : Int) - 1)) * 2) + 1) [vI (IntKind.wrap .i64 (n11 + n1))])))), (dI x7), (dI x8)])] [(dI n12), (dI n13)]) ∧
 (((Qv (vI n13)) ∧
 ((Qv (vI n12)) ∧
 ((Qv (Value.tuple [(vI n12), (vI n13)].toArray)) ∧
 True))) ∧
 (((Qv (vI n13)) ∧
 True) ∧
 (True ∧
 (bcase (n13 == 0)
 (bcase (n12 == 2)
 (k kT)
 (k kF))
 (k kF))))))))
 False)))))))
 False))
 False)
 False)))
 False)
 False))
 False))))
 False)
 False))))))))
 False)) ∨
 ((Says C 22 [(D.agg [D.nil, (dI x1), (dI x2), (dI x3)]), (D.agg [D.nil, (dI x5)]), (D.agg [(Dw n6 2 l6), (dI x7), (dI x8)])] [(dI n8), (D.val (Value.bool false))]) ∧
 (bcase (dL n6 2 l6)
 (∃ n9 : Int,
 (((Says C 23 [(D.agg [D.nil, (dI x1), (dI x2), (dI x3)]), (D.agg [D.nil, (dI x5)]), (D.agg [(Dw n6 2 l6), (dI x7), (dI x8)])] [(dI n9), (D.val (Value.bool true))]) ∧
 (bcase (n2 != 12)
 (k kF)
 (bcase (n1 != 0)
 (k kF)
 (bcase (n4 != 0)
 (k kF)
 (bcase (n3 != n9)
 (k kF)
 (k kT)))))) ∨
 ((Says C 23 [(D.agg [D.nil, (dI x1), (dI x2), (dI x3)]), (D.agg [D.nil, (dI x5)]), (D.agg [(Dw n6 2 l6), (dI x7), (dI x8)])] [(dI n9), (D.val (Value.bool false))]) ∧
 (bcase (n2 != 12)
 (k kF)
 (bcase (n1 != 0)
 (k kF)
 (bcase (n4 != 24)
 (k kF)
 (bcase (n3 != 0)
 (k kF)
 (k kT))))))))
 False))))
 False))))
 False)
 (bcase (n5 != 0)
 (bcase (n2 == n5)
 (bcase (n4 == n5)
 (bcase (n1 == 0)
 (bcase (n3 == 0)
 (k kT)
 (k kF))
 (k kF))
 (k kF))
 (k kF))
 (bcase (dL n6 2 l6)
 (∃ n7 : Int,
 (((Says C 22 [(D.agg [D.nil, (dI x1), (dI x2), (dI x3)]), (D.agg [D.nil, (dI x5)]), (D.agg [(Dw n6 2 l6), (dI x7), (dI x8)])] [(dI n7), (D.val (Value.bool true))]) ∧
 (bcase (dL n6 2 l6)
 (∃ n8 : Int,
 (((Says C 23 [(D.agg [D.nil, (dI x1), (dI x2), (dI x3)]), (D.agg [D.nil, (dI x5)]), (D.agg [(Dw n6 2 l6), (dI x7), (dI x8)])] [(dI n8), (D.val (Value.bool true))]) ∧
 (bcase (n2 != 0)
 (k kF)
 (bcase (n1 != n7)
 (k kF)
 (bcase (n4 != 0)
 (k kF)
 (bcase (n3 != n8)
 (k kF)
 (bcase (decide (0 ≤ IntKind.wrap .i64 ((↑n6 : Int) - 1)))
 (bcase (decide (IntKind.wrap .i64 ((↑n6 : Int) - 1) < (↑n6 : Int)))
 (∃ n9 : Int,
 ((At (l6) ((0 + Int.toNat (IntKind.wrap .i64 ((↑n6 : Int) - 1)) * 2) + 1) 1 [(vI n9)]) ∧
 (bcase (decide (IntKind.wrap .i64 (n9 + n1) > 200))
 (k kT)
 (bcase (dL n6 2 l6)
 ((Says C 19 [(D.agg [(Dw n6 2 l6), (dI x7), (dI x8)])] [(D.agg [(Dw n6 2 l6), (dI x7), (dI x8)])]) ∧
 (bcase (decide (0 ≤ IntKind.wrap .i64 ((↑n6 : Int) - 1)))
 (bcase (decide (IntKind.wrap .i64 ((↑n6 : Int) - 1) < (↑n6 : Int)))
 (∃ n10 : Int,
 ((At (Tk n6 2 l6) ((0 + Int.toNat (IntKind.wrap .i64 ((↑n6 : Int) - 1)) * 2) + 1) 1 [(vI n10)]) ∧
 (bcase (decide (0 ≤ IntKind.wrap .i64 ((↑n6 : Int) - 1)))
 (bcase (decide (IntKind.wrap .i64 ((↑n6 : Int) - 1) < (↑n6 : Int)))
 (((Qv (Value.pointer (some (Addr.mk 1012 ((0 + Int.toNat (IntKind.wrap .i64 ((↑n6 : Int) - 1)) * 2) + 1) none)))) ∧
 ((bcase (decide (0 ≤ IntKind.wrap .i64 ((↑n6 : Int) - 1)))
 (bcase (decide (IntKind.wrap .i64 ((↑n6 : Int) - 1) < (↑n6 : Int)))
 (Qv (Pt 1012 (0 + Int.toNat (IntKind.wrap .i64 ((↑n6 : Int) - 1)) * 2)))
 False)
 False) ∧
 ((Qv (vI (IntKind.wrap .i64 (n10 + n1)))) ∧
 ((Qv (vI n1)) ∧
 ((∃ n11 : Int,
 ((At (Tk n6 2 l6) ((0 + Int.toNat (IntKind.wrap .i64 ((↑n6 : Int) - 1)) * 2) + 1) 1 [(vI n11)]) ∧
 ((vI n11) = (vI n10)))) ∧
 (((Value.pointer (some (Addr.mk 1012 ((0 + Int.toNat (IntKind.wrap .i64 ((↑n6 : Int) - 1)) * 2) + 1) none))) = (Value.pointer (some (Addr.mk 1012 ((0 + Int.toNat (IntKind.wrap .i64 ((↑n6 : Int) - 1)) * 2) + 1) none)))) ∧
 ((bcase (decide (0 ≤ IntKind.wrap .i64 ((↑n6 : Int) - 1)))
 (bcase (decide (IntKind.wrap .i64 ((↑n6 : Int) - 1) < (↑n6 : Int)))
 (Qv (Pt 1012 (0 + Int.toNat (IntKind.wrap .i64 ((↑n6 : Int) - 1)) * 2)))
 False)
 False) ∧
 ((Qv (vI (IntKind.wrap .i64 ((↑n6 : Int) - 1)))) ∧
 ((Qv (Sl 1012 (n6) (n6))) ∧
 ((Qv (Pt 1013 0)) ∧
 ((Qv (vI (IntKind.wrap .i64 ((↑n6 : Int) - 1)))) ∧
 ((Qv (Sl 1012 (n6) (n6))) ∧
 ((Qv (Pt 1013 0)) ∧
 True))))))))))))) ∧
 (bcase (decide ((0 + Int.toNat (IntKind.wrap .i64 ((↑n6 : Int) - 1)) * 2) + 1 + 1 ≤ List.length (Tk n6 2 l6)))
 (((bcase (decide (0 ≤ IntKind.wrap .i64 ((↑n6 : Int) - 1)))
 (bcase (decide (IntKind.wrap .i64 ((↑n6 : Int) - 1) < (↑n6 : Int)))
 (Qv (Pt 1012 (0 + Int.toNat (IntKind.wrap .i64 ((↑n6 : Int) - 1)) * 2)))
 False)
 False) ∧
 True) ∧
 (((Qv (Value.agg [(Sl 1012 (n6) (n6)), (vI x7), (vI x8)].toArray)) ∧
 ((Qv (Value.agg [(Value.slice none 0 0), (vI x5)].toArray)) ∧
 ((Qv (Value.agg [(Value.slice none 0 0), (vI x1), (vI x2), (vI x3)].toArray)) ∧
 True))) ∧
 ((Says C 12 [(D.agg [D.nil, (dI x1), (dI x2), (dI x3)])] [(D.agg [(D.sl 0 2 []), (dI x1), (dI x2), (dI x3)])]) ∧
 (((Qv (Value.agg [(Sl 1012 (n6) (n6)), (vI x7), (vI x8)].toArray)) ∧
 ((Qv (Value.agg [(Value.slice none 0 0), (vI x5)].toArray)) ∧
 True)) ∧
 ((Says C 9 [(D.agg [D.nil, (dI x5)])] [(D.agg [(D.sl 0 1 []), (dI x5)])]) ∧
 (((Qv (Value.agg [(Sl 1012 (n6) (n6)), (vI x7), (vI x8)].toArray)) ∧
 True) ∧
 (bcase (decide (0 + n6 * 2 ≤ List.length (listSet (Tk n6 2 l6) ((0 + Int.toNat (IntKind.wrap .i64 ((↑n6 : Int) - 1)) * 2) + 1) [vI (IntKind.wrap .i64 (n10 + n1))])))
 (∃ n11 : Int,
 (∃ n12 : Int,
 ((Says C 17 [(D.agg [(D.sl 0 2 []), (dI x1), (dI x2), (dI x3)]), (D.agg [(D.sl 0 1 []), (dI x5)]), (D.agg [(D.sl (n6) 2 (List.take (n6 * 2) (List.drop 0 (listSet (Tk n6 2 l6) ((0 + Int.toNat (IntKind.wrap .i64 ((↑n6 : Int) - 1)) * 2) + 1) [vI (IntKind.wrap .i64 (n10 + n1))])))), (dI x7), (dI x8)])] [(dI n11), (dI n12)]) ∧
 (((Qv (vI n12)) ∧
 ((Qv (vI n11)) ∧
 ((Qv (Value.tuple [(vI n11), (vI n12)].toArray)) ∧
 True))) ∧
 (((Qv (vI n12)) ∧
 True) ∧
 (True ∧
 (bcase (n12 == 0)
 (bcase (n11 == 2)
 (k kT)
 (k kF))
 (k kF))))))))
 False)))))))
 False))
 False)
 False)))
 False)
 False))
 False))))
 False)
 False)))))) ∨
 ((Says C 23 [(D.agg [D.nil, (dI x1), (dI x2), (dI x3)]), (D.agg [D.nil, (dI x5)]), (D.agg [(Dw n6 2 l6), (dI x7), (dI x8)])] [(dI n8), (D.val (Value.bool false))]) ∧
 (bcase (n2 != 0)
 (k kF)
 (bcase (n1 != n7)
 (k kF)
 (bcase (n4 != 24)
 (k kF)
 (bcase (n3 != 0)
 (k kF)
 (bcase (decide (0 ≤ IntKind.wrap .i64 ((↑n6 : Int) - 1)))
 (bcase (decide (IntKind.wrap .i64 ((↑n6 : Int) - 1) < (↑n6 : Int)))
 (∃ n9 : Int,
 ((At (l6) ((0 + Int.toNat (IntKind.wrap .i64 ((↑n6 : Int) - 1)) * 2) + 1) 1 [(vI n9)]) ∧
 (bcase (decide (IntKind.wrap .i64 (n9 + n1) > 200))
 (k kT)
 (bcase (dL n6 2 l6)
 ((Says C 19 [(D.agg [(Dw n6 2 l6), (dI x7), (dI x8)])] [(D.agg [(Dw n6 2 l6), (dI x7), (dI x8)])]) ∧
 (bcase (decide (0 ≤ IntKind.wrap .i64 ((↑n6 : Int) - 1)))
 (bcase (decide (IntKind.wrap .i64 ((↑n6 : Int) - 1) < (↑n6 : Int)))
 (∃ n10 : Int,
 ((At (Tk n6 2 l6) ((0 + Int.toNat (IntKind.wrap .i64 ((↑n6 : Int) - 1)) * 2) + 1) 1 [(vI n10)]) ∧
 (bcase (decide (0 ≤ IntKind.wrap .i64 ((↑n6 : Int) - 1)))
 (bcase (decide (IntKind.wrap .i64 ((↑n6 : Int) - 1) < (↑n6 : Int)))
 (((Qv (Value.pointer (some (Addr.mk 1012 ((0 + Int.toNat (IntKind.wrap .i64 ((↑n6 : Int) - 1)) * 2) + 1) none)))) ∧
 ((bcase (decide (0 ≤ IntKind.wrap .i64 ((↑n6 : Int) - 1)))
 (bcase (decide (IntKind.wrap .i64 ((↑n6 : Int) - 1) < (↑n6 : Int)))
 (Qv (Pt 1012 (0 + Int.toNat (IntKind.wrap .i64 ((↑n6 : Int) - 1)) * 2)))
 False)
 False) ∧
 ((Qv (vI (IntKind.wrap .i64 (n10 + n1)))) ∧
 ((Qv (vI n1)) ∧
 ((∃ n11 : Int,
 ((At (Tk n6 2 l6) ((0 + Int.toNat (IntKind.wrap .i64 ((↑n6 : Int) - 1)) * 2) + 1) 1 [(vI n11)]) ∧
 ((vI n11) = (vI n10)))) ∧
 (((Value.pointer (some (Addr.mk 1012 ((0 + Int.toNat (IntKind.wrap .i64 ((↑n6 : Int) - 1)) * 2) + 1) none))) = (Value.pointer (some (Addr.mk 1012 ((0 + Int.toNat (IntKind.wrap .i64 ((↑n6 : Int) - 1)) * 2) + 1) none)))) ∧
 ((bcase (decide (0 ≤ IntKind.wrap .i64 ((↑n6 : Int) - 1)))
 (bcase (decide (IntKind.wrap .i64 ((↑n6 : Int) - 1) < (↑n6 : Int)))
 (Qv (Pt 1012 (0 + Int.toNat (IntKind.wrap .i64 ((↑n6 : Int) - 1)) * 2)))
 False)
 False) ∧
 ((Qv (vI (IntKind.wrap .i64 ((↑n6 : Int) - 1)))) ∧
 ((Qv (Sl 1012 (n6) (n6))) ∧
 ((Qv (Pt 1013 0)) ∧
 ((Qv (vI (IntKind.wrap .i64 ((↑n6 : Int) - 1)))) ∧
 ((Qv (Sl 1012 (n6) (n6))) ∧
 ((Qv (Pt 1013 0)) ∧
 True))))))))))))) ∧
 (bcase (decide ((0 + Int.toNat (IntKind.wrap .i64 ((↑n6 : Int) - 1)) * 2) + 1 + 1 ≤ List.length (Tk n6 2 l6)))
 (((bcase (decide (0 ≤ IntKind.wrap .i64 ((↑n6 : Int) - 1)))
 (bcase (decide (IntKind.wrap .i64 ((↑n6 : Int) - 1) < (↑n6 : Int)))
 (Qv (Pt 1012 (0 + Int.toNat (IntKind.wrap .i64 ((↑n6 : Int) - 1)) * 2)))
 False)
 False) ∧
 True) ∧
 (((Qv (Value.agg [(Sl 1012 (n6) (n6)), (vI x7), (vI x8)].toArray)) ∧
 ((Qv (Value.agg [(Value.slice none 0 0), (vI x5)].toArray)) ∧
 ((Qv (Value.agg [(Value.slice none 0 0), (vI x1), (vI x2), (vI x3)].toArray)) ∧
 True))) ∧
 ((Says C 12 [(D.agg [D.nil, (dI x1), (dI x2), (dI x3)])] [(D.agg [(D.sl 0 2 []), (dI x1), (dI x2), (dI x3)])]) ∧
 (((Qv (Value.agg [(Sl 1012 (n6) (n6)), (vI x7), (vI x8)].toArray)) ∧
 ((Qv (Value.agg [(Value.slice none 0 0), (vI x5)].toArray)) ∧
 True)) ∧
 ((Says C 9 [(D.agg [D.nil, (dI x5)])] [(D.agg [(D.sl 0 1 []), (dI x5)])]) ∧
 (((Qv (Value.agg [(Sl 1012 (n6) (n6)), (vI x7), (vI x8)].toArray)) ∧
 True) ∧
 (bcase (decide (0 + n6 * 2 ≤ List.length (listSet (Tk n6 2 l6) ((0 + Int.toNat (IntKind.wrap .i64 ((↑n6 : Int) - 1)) * 2) + 1) [vI (IntKind.wrap .i64 (n10 + n1))])))
 (∃ n11 : Int,
 (∃ n12 : Int,
 ((Says C 17 [(D.agg [(D.sl 0 2 []), (dI x1), (dI x2), (dI x3)]), (D.agg [(D.sl 0 1 []), (dI x5)]), (D.agg [(D.sl (n6) 2 (List.take (n6 * 2) (List.drop 0 (listSet (Tk n6 2 l6) ((0 + Int.toNat (IntKind.wrap .i64 ((↑n6 : Int) - 1)) * 2) + 1) [vI (IntKind.wrap .i64 (n10 + n1))])))), (dI x7), (dI x8)])] [(dI n11), (dI n12)]) ∧
 (((Qv (vI n12)) ∧
 ((Qv (vI n11)) ∧
 ((Qv (Value.tuple [(vI n11), (vI n12)].toArray)) ∧
 True))) ∧
 (((Qv (vI n12)) ∧
 True) ∧
 (True ∧
 (bcase (n12 == 0)
 (bcase (n11 == 2)
 (k kT)
 (k kF))
 (k kF))))))))
 False)))))))
 False))
 False)
 False)))
 False)
 False))
 False))))
 False)
 False))))))))
 False)) ∨
 ((Says C 22 [(D.agg [D.nil, (dI x1), (dI x2), (dI x3)]), (D.agg [D.nil, (dI x5)]), (D.agg [(Dw n6 2 l6), (dI x7), (dI x8)])] [(dI n7), (D.val (Value.bool false))]) ∧
 (bcase (dL n6 2 l6)
 (∃ n8 : Int,
 (((Says C 23 [(D.agg [D.nil, (dI x1), (dI x2), (dI x3)]), (D.agg [D.nil, (dI x5)]), (D.agg [(Dw n6 2 l6), (dI x7), (dI x8)])] [(dI n8), (D.val (Value.bool true))]) ∧
 (bcase (n2 != 12)
 (k kF)
 (bcase (n1 != 0)
 (k kF)
 (bcase (n4 != 0)
 (k kF)
 (bcase (n3 != n8)
 (k kF)
 (k kT)))))) ∨
 ((Says C 23 [(D.agg [D.nil, (dI x1), (dI x2), (dI x3)]), (D.agg [D.nil, (dI x5)]), (D.agg [(Dw n6 2 l6), (dI x7), (dI x8)])] [(dI n8), (D.val (Value.bool false))]) ∧
 (bcase (n2 != 12)
 (k kF)
 (bcase (n1 != 0)
 (k kF)
 (bcase (n4 != 24)
 (k kF)
 (bcase (n3 != 0)
 (k kF)
 (k kT))))))))
 False))))
 False)))))))))))
 False)))
 False))))))))))))
 False)))
 False)))))))) ∨
 ((Says C 5 [] kF) ∧
 (k kF))) := by kernel_rfl
def gDnnn (C : Ct) (L : AtLoop) (x1 : Int) (x2 : Int) (x3 : Int) (x5 : Int) (x7 : Int) (x8 : Int) (k : List D → Prop) : Prop := wpFn Try.prog (hL C) L 0 4 #[.agg #[.slice none 0 0, .int .i64 x1, .int .i64 x2, .int .i64 x3], .agg #[.slice none 0 0, .int .i64 x5], .agg #[.slice none 0 0, .int .i64 x7, .int .i64 x8]] (heapOf []) (dataK k)
theorem gDnnn_text (C : Ct) (L : AtLoop) (x1 : Int) (x2 : Int) (x3 : Int) (x5 : Int) (x7 : Int) (x8 : Int) (k : List D → Prop) : gDnnn C L x1 x2 x3 x5 x7 x8 k =
 (((Says C 5 [] kT) ∧
 (((Qv (Value.agg [(Value.slice none 0 0), (vI x7), (vI x8)].toArray)) ∧
 ((Qv (Value.agg [(Value.slice none 0 0), (vI x5)].toArray)) ∧
 ((Qv (Value.agg [(Value.slice none 0 0), (vI x1), (vI x2), (vI x3)].toArray)) ∧
 True))) ∧
 ((Says C 12 [(D.agg [D.nil, (dI x1), (dI x2), (dI x3)])] [(D.agg [(D.sl 0 2 []), (dI x1), (dI x2), (dI x3)])]) ∧
 (((Qv (Value.agg [(Value.slice none 0 0), (vI x7), (vI x8)].toArray)) ∧
 ((Qv (Value.agg [(Value.slice none 0 0), (vI x5)].toArray)) ∧
 True)) ∧
 ((Says C 9 [(D.agg [D.nil, (dI x5)])] [(D.agg [(D.sl 0 1 []), (dI x5)])]) ∧
 (((Qv (Value.agg [(Value.slice none 0 0), (vI x7), (vI x8)].toArray)) ∧
 True) ∧
 ((Says C 19 [(D.agg [D.nil, (dI x7), (dI x8)])] [(D.agg [(D.sl 0 2 []), (dI x7), (dI x8)])]) ∧
 (True ∧
 (∃ n1 : Int,
 (∃ n2 : Int,
 ((Says C 18 [(D.agg [(D.sl 0 2 []), (dI x1), (dI x2), (dI x3)]), (D.agg [(D.sl 0 1 []), (dI x5)]), (D.agg [(D.sl 0 2 []), (dI x7), (dI x8)])] [(dI n1), (dI n2)]) ∧
 (((Qv (vI n2)) ∧
 ((Qv (vI n1)) ∧
 ((Qv (Value.tuple [(vI n1), (vI n2)].toArray)) ∧
 True))) ∧
 (((Qv (vI n2)) ∧
 True) ∧
 (True ∧
 (((Qv (Value.agg [(Value.slice none 0 0), (vI x7), (vI x8)].toArray)) ∧
 ((Qv (Value.agg [(Value.slice none 0 0), (vI x5)].toArray)) ∧
 ((Qv (Value.agg [(Value.slice none 0 0), (vI x1), (vI x2), (vI x3)].toArray)) ∧
 True))) ∧
 ((Says C 12 [(D.agg [D.nil, (dI x1), (dI x2), (dI x3)])] [(D.agg [(D.sl 0 2 []), (dI x1), (dI x2), (dI x3)])]) ∧
 (((Qv (Value.agg [(Value.slice none 0 0), (vI x7), (vI x8)].toArray)) ∧
 ((Qv (Value.agg [(Value.slice none 0 0), (vI x5)].toArray)) ∧
 True)) ∧
 ((Says C 9 [(D.agg [D.nil, (dI x5)])] [(D.agg [(D.sl 0 1 []), (dI x5)])]) ∧
 (((Qv (Value.agg [(Value.slice none 0 0), (vI x7), (vI x8)].toArray)) ∧
 True) ∧
 ((Says C 19 [(D.agg [D.nil, (dI x7), (dI x8)])] [(D.agg [(D.sl 0 2 []), (dI x7), (dI x8)])]) ∧
 (True ∧
 (∃ n3 : Int,
 (∃ n4 : Int,
 ((Says C 20 [(D.agg [(D.sl 0 2 []), (dI x1), (dI x2), (dI x3)]), (D.agg [(D.sl 0 1 []), (dI x5)]), (D.agg [(D.sl 0 2 []), (dI x7), (dI x8)])] [(dI n3), (dI n4)]) ∧
 (((Qv (vI n4)) ∧
 ((Qv (vI n3)) ∧
 ((Qv (Value.tuple [(vI n3), (vI n4)].toArray)) ∧
 True))) ∧
 (((Qv (vI n4)) ∧
 True) ∧
 (True ∧
 (∃ n5 : Int,
 ((Says C 7 [(D.agg [D.nil, (dI x1), (dI x2), (dI x3)]), (D.agg [D.nil, (dI x5)])] [(dI n5)]) ∧
 (bcase (n5 == 0)
 (∃ n6 : Int,
 ((Says C 21 [(D.agg [D.nil, (dI x7), (dI x8)])] [(dI n6)]) ∧
 (bcase (n6 != 0)
 (bcase (n2 == n6)
 (bcase (n4 == n6)
 (bcase (n1 == 0)
 (bcase (n3 == 0)
 (k kT)
 (k kF))
 (k kF))
 (k kF))
 (k kF))
 (∃ n7 : Int,
 (((Says C 22 [(D.agg [D.nil, (dI x1), (dI x2), (dI x3)]), (D.agg [D.nil, (dI x5)]), (D.agg [D.nil, (dI x7), (dI x8)])] [(dI n7), (D.val (Value.bool true))]) ∧
 (∃ n8 : Int,
 (((Says C 23 [(D.agg [D.nil, (dI x1), (dI x2), (dI x3)]), (D.agg [D.nil, (dI x5)]), (D.agg [D.nil, (dI x7), (dI x8)])] [(dI n8), (D.val (Value.bool true))]) ∧
 (bcase (n2 != 0)
 (k kF)
 (bcase (n1 != n7)
 (k kF)
 (bcase (n4 != 0)
 (k kF)
 (bcase (n3 != n8)
 (k kF)
 False))))) ∨
 ((Says C 23 [(D.agg [D.nil, (dI x1), (dI x2), (dI x3)]), (D.agg [D.nil, (dI x5)]), (D.agg [D.nil, (dI x7), (dI x8)])] [(dI n8), (D.val (Value.bool false))]) ∧
 (bcase (n2 != 0)
 (k kF)
 (bcase (n1 != n7)
 (k kF)
 (bcase (n4 != 24)
 (k kF)
 (bcase (n3 != 0)
 (k kF)
 False)))))))) ∨
 ((Says C 22 [(D.agg [D.nil, (dI x1), (dI x2), (dI x3)]), (D.agg [D.nil, (dI x5)]), (D.agg [D.nil, (dI x7), (dI x8)])] [(dI n7), (D.val (Value.bool false))]) ∧
 (∃ n8 : Int,
 (((Says C 23 [(D.agg [D.nil, (dI x1), (dI x2), (dI x3)]), (D.agg [D.nil, (dI x5)]), (D.agg [D.nil, (dI x7), (dI x8)])] [(dI n8), (D.val (Value.bool true))]) ∧
 (bcase (n2 != 12)
 (k kF)
 (bcase (n1 != 0)
 (k kF)
 (bcase (n4 != 0)
 (k kF)
 (bcase (n3 != n8)
 (k kF)
 (k kT)))))) ∨
 ((Says C 23 [(D.agg [D.nil, (dI x1), (dI x2), (dI x3)]), (D.agg [D.nil, (dI x5)]), (D.agg [D.nil, (dI x7), (dI x8)])] [(dI n8), (D.val (Value.bool false))]) ∧
 (bcase (n2 != 12)
 (k kF)
 (bcase (n1 != 0)
 (k kF)
 (bcase (n4 != 24)
 (k kF)
 (bcase (n3 != 0)
 (k kF)
 (k kT))))))))))))))
 (bcase (n5 != 0)
 (bcase (n2 == n5)
 (bcase (n4 == n5)
 (bcase (n1 == 0)
 (bcase (n3 == 0)
 (k kT)
 (k kF))
 (k kF))
 (k kF))
 (k kF))
 (∃ n6 : Int,
 (((Says C 22 [(D.agg [D.nil, (dI x1), (dI x2), (dI x3)]), (D.agg [D.nil, (dI x5)]), (D.agg [D.nil, (dI x7), (dI x8)])] [(dI n6), (D.val (Value.bool true))]) ∧
 (∃ n7 : Int,
 (((Says C 23 [(D.agg [D.nil, (dI x1), (dI x2), (dI x3)]), (D.agg [D.nil, (dI x5)]), (D.agg [D.nil, (dI x7), (dI x8)])] [(dI n7), (D.val (Value.bool true))]) ∧
 (bcase (n2 != 0)
 (k kF)
 (bcase (n1 != n6)
 (k kF)
 (bcase (n4 != 0)
 (k kF)
 (bcase (n3 != n7)
 (k kF)
 False))))) ∨
 ((Says C 23 [(D.agg [D.nil, (dI x1), (dI x2), (dI x3)]), (D.agg [D.nil, (dI x5)]), (D.agg [D.nil, (dI x7), (dI x8)])] [(dI n7), (D.val (Value.bool false))]) ∧
 (bcase (n2 != 0)
 (k kF)
 (bcase (n1 != n6)
 (k kF)
 (bcase (n4 != 24)
 (k kF)
 (bcase (n3 != 0)
 (k kF)
 False)))))))) ∨
 ((Says C 22 [(D.agg [D.nil, (dI x1), (dI x2), (dI x3)]), (D.agg [D.nil, (dI x5)]), (D.agg [D.nil, (dI x7), (dI x8)])] [(dI n6), (D.val (Value.bool false))]) ∧
 (∃ n7 : Int,
 (((Says C 23 [(D.agg [D.nil, (dI x1), (dI x2), (dI x3)]), (D.agg [D.nil, (dI x5)]), (D.agg [D.nil, (dI x7), (dI x8)])] [(dI n7), (D.val (Value.bool true))]) ∧
 (bcase (n2 != 12)
 (k kF)
 (bcase (n1 != 0)
 (k kF)
 (bcase (n4 != 0)
 (k kF)
 (bcase (n3 != n7)
 (k kF)
 (k kT)))))) ∨
 ((Says C 23 [(D.agg [D.nil, (dI x1), (dI x2), (dI x3)]), (D.agg [D.nil, (dI x5)]), (D.agg [D.nil, (dI x7), (dI x8)])] [(dI n7), (D.val (Value.bool false))]) ∧
 (bcase (n2 != 12)
 (k kF)
 (bcase (n1 != 0)
 (k kF)
 (bcase (n4 != 24)
 (k kF)
 (bcase (n3 != 0)
 (k kF)
 (k kT)))))))))))))))))))))))))))))))))))))))))) ∨
 ((Says C 5 [] kF) ∧
 (k kF))) := by kernel_rfl
end Go.Proofs.G5j

/- FurnaceDischarges in data. -/
namespace Go.Proofs.G5j
open Go Go.Abs Go.Proofs Go.Proofs.G2
set_option maxRecDepth 100000
theorem both_fst (a b : Int) : fst0 [a, b] = both a b := by by_cases h : a = 0 <;> simp [both, fst0_two, h]
theorem isE_b {ps : List Pt} {m lo hi : Int} {l : List Int} {bo : Int} {z : List (Int × Int)} {a b : Int} (h : both (rulE ps m lo hi) (slE l bo) ≠ 0) : isE ps m lo hi l bo z a b = both (rulE ps m lo hi) (slE l bo) := by
  unfold isE; rw [both_fst (rulE ps m lo hi) (slE l bo), fst0_two, if_neg h]
theorem isE_z {ps : List Pt} {m lo hi : Int} {l : List Int} {bo : Int} {z : List (Int × Int)} {a b : Int} (h : both (rulE ps m lo hi) (slE l bo) = 0) : isE ps m lo hi l bo z a b = goE z a b := by
  unfold isE; rw [both_fst (rulE ps m lo hi) (slE l bo), fst0_two, if_pos h]
theorem bc_n {a b : Int} {x y : Prop} (h : a ≠ b) : bcase (a != b) x y = x := by rw [show (a != b) = true by simpa using h]; rfl
/-! steps are added up -/
theorem encN_add (rd : Int → Int) (up : Bool) (mi a b ra rb bo : Int) : ∀ (n k : Nat) (l : List Int), encN rd up mi a b ra rb bo (n + k) l = encN rd up mi a b ra rb bo k (encN rd up mi a b ra rb bo n l)
  | 0, k, l => by rw [Nat.zero_add]; rfl
  | n + 1, k, l => by
    rw [show n + 1 + k = (n + k) + 1 by omega]
    exact encN_add rd up mi a b ra rb bo n k _
theorem ser_encN (rd : Int → Int) (up : Bool) (mi a b bo zs : Int) : ∀ (n : Nat) (l : List Int), ser rd up mi a b bo zs 1 n l = encN rd up mi a b (rd zs) (rd zs) bo n l
  | 0, _ => rfl
  | n + 1, l => by rw [encN_succ, ← ser_encN rd up mi a b bo zs n l]; rfl
/-- the last zone with further steps -/
def moreZ (z : List (Int × Int)) (n : Int) : List (Int × Int) := z.set (z.length - 1) ((z.getLast?.getD (0, 0)).1, (z.getLast?.getD (0, 0)).2 + n)
theorem moreZ_eq {z : List (Int × Int)} (h : z.length - 1 < z.length) (n : Int) : moreZ z n = z.take (z.length - 1) ++ [(z[z.length - 1].1, z[z.length - 1].2 + n)] := by
  unfold moreZ; rw [last_z h]
  refine List.ext_getElem (by simp; omega) fun i h1 h2 => ?_
  rw [List.getElem_set]
  by_cases e : z.length - 1 = i
  · subst e
    rw [if_pos rfl, List.getElem_append_right (by simp)]
    simp [Nat.min_eq_left (Nat.le_of_lt h)]
  · have h1' : i < z.length := by simpa using h1
    rw [if_neg e, List.getElem_append_left (by simp; omega), List.getElem_take]
theorem takeZ {z : List (Int × Int)} (h : z.length - 1 < z.length) : z = z.take (z.length - 1) ++ [z[z.length - 1]] := by
  have := List.take_succ_eq_append_getElem h
  rw [← this, show z.length - 1 + 1 = z.length by omega, List.take_length]
theorem encZ_more (rd : Int → Int) (up : Bool) (mi a b bo : Int) {z : List (Int × Int)} (h : z.length - 1 < z.length) (h0 : 0 ≤ z[z.length - 1].2) (n : Nat) (l : List Int) : encZ rd up mi a b bo (moreZ z n) l = ser rd up mi a b bo z[z.length - 1].1 1 n (encZ rd up mi a b bo z l) := by
  rw [ser_encN]
  have e : encZ rd up mi a b bo z l = encN rd up mi a b (rd z[z.length - 1].1) (rd z[z.length - 1].1) bo z[z.length - 1].2.toNat (encZ rd up mi a b bo (z.take (z.length - 1)) l) := by
    conv => lhs; rw [takeZ h]
    rw [encZ_append]; rfl
  rw [e, moreZ_eq h, encZ_append, ← encN_add]
  show encN _ _ _ _ _ _ _ _ (z[z.length - 1].2 + (n : Int)).toNat _ = _
  rw [show (z[z.length - 1].2 + (n : Int)).toNat = z[z.length - 1].2.toNat + n by omega]
theorem rtGo_zero : ∀ {z : List (Int × Int)} {i : Int}, (∀ p ∈ z, zE p = 0) → (rtGo i z).2 = 0
  | [], _, _ => rfl
  | p :: r, i, h => by rw [rtGo, if_pos (h p (List.mem_cons_self ..))]; exact rtGo_zero fun q hq => h q (List.mem_cons_of_mem _ hq)
theorem rt_all {z : List (Int × Int)} (h : rtE z = 0) : z.length ≤ 5 ∧ ∀ p ∈ z, zE p = 0 := by
  unfold rtE rtR at h
  split at h
  · exact absurd h (by decide)
  · exact ⟨by omega, rtGo_snd h⟩
theorem rt_more {z : List (Int × Int)} (hz : rtE z = 0) (h : z.length - 1 < z.length) {n : Int} (hn : 0 ≤ n) (h2 : z[z.length - 1].2 + n ≤ 200) : rtE (moreZ z n) = 0 := by
  obtain ⟨h5, ha⟩ := rt_all hz
  have hl : (moreZ z n).length = z.length := by unfold moreZ; simp
  unfold rtE rtR; rw [if_neg (by omega)]
  refine rtGo_zero fun p hp => ?_
  rw [moreZ_eq h] at hp
  rcases List.mem_append.1 hp with hp | hp
  · exact ha p (List.mem_of_mem_take hp)
  · obtain rfl := List.mem_singleton.1 hp
    have := zE0 (ha _ (List.getElem_mem h))
    unfold zE; exact if_pos (by show (0 ≤ z[z.length - 1].1 ∧ _) ∧ 0 ≤ z[z.length - 1].2 + n ∧ z[z.length - 1].2 + n ≤ 200; omega)
theorem vp_set2 : ∀ (z : List (Int × Int)) (i : Nat) (h : i < z.length) (v : Int), listSet (vp z) (0 + i * 2 + 1) [vI v] = vp (z.set i (z[i].1, v))
  | p :: r, 0, _, v => rfl
  | p :: r, i + 1, h, v => by
    have h' : i < r.length := by simpa using h
    have e := vp_set2 r i h' v
    unfold listSet at e ⊢
    show List.take (0 + (i + 1) * 2 + 1) (vI p.1 :: vI p.2 :: vp r) ++ _ ++ List.drop (0 + (i + 1) * 2 + 1 + 1) (vI p.1 :: vI p.2 :: vp r) = vI p.1 :: vI p.2 :: vp (r.set i (r[i].1, v))
    rw [← e, show 0 + (i + 1) * 2 + 1 = (0 + i * 2 + 1) + 1 + 1 by omega, show 0 + i * 2 + 1 + 1 + 1 + 1 = (0 + i * 2 + 1 + 1) + 1 + 1 by omega]
    rfl
theorem more_set {z : List (Int × Int)} (h : z.length - 1 < z.length) (n : Int) : z.set (z.length - 1) (z[z.length - 1].1, z[z.length - 1].2 + n) = moreZ z n := by unfold moreZ; rw [last_z h]
theorem lawD (ps : List Pt) (m lo hi : Int) (l : List Int) (bo : Int) (z : List (Int × Int)) (ta tb : Int) : C5 4 [dRu ps m lo hi, dSl l bo, dGo z ta tb] [.val (.bool true)] := by
  refine con_flat hokL2 mixed Try.func4 rfl (by show 3 ≤ 400; omega) rfl (by kernel_rfl) (fun caps => ?_)
  show gDsss _ _ ps.length (caps 500) (vp ps) m lo hi l.length (caps 501) (vi l) bo z.length (caps 502) (vp z) ta tb _
  rw [gDsss_text]
  refine .inl ⟨⟨conA⟩, bc_dec (fun h12 => bc_dec (fun h10 => bc_dec (fun _ => rfl) (fun h7 => ?_)) (fun _ => rfl)) (fun _ => rfl)⟩
  have cYr := conYr ps (by omega) m lo hi
  have cYs := conYs l (by omega) bo
  have cyG := conyG z (by omega) ta tb
  have cbE := conbE ps (by omega) m lo hi l (by omega) bo
  have cGE := conGE z (by omega) ta tb
  simp only [Dw, Tk, vp_whole, vi_whole, bc_t (v2le ps), bc_t (v1le l), bc_t (v2le z), Qv, eq_self, true_and, and_true]
  by_cases h0 : isE ps m lo hi l bo z ta tb = 0
  · obtain ⟨⟨e1, e2, e3⟩, V⟩ := valJ h0
    have cEa := conEaV ps (by omega) m lo hi l (by omega) bo z (by omega) ta tb h0
    have cMx := conMxV ps (by omega) m lo hi l (by omega) bo z (by omega) ta tb h0
    have crE := conrEa V ta tb
    have crM := conrMx V ta tb
    have hz1 := V.z1
    have hz5 := V.z5
    have hlast : z.length - 1 < z.length := by omega
    obtain ⟨hs, ht⟩ := V.zz z[z.length - 1] (List.getElem_mem hlast)
    have hw := w_last (n := z.length) (by omega) (by omega)
    have q0 : (0 : Int) ≤ ((z.length - 1 : Nat) : Int) := by omega
    have q1 : ((z.length - 1 : Nat) : Int) < (z.length : Int) := by omega
    have a1 : At (vp z) (0 + (z.length - 1) * 2 + 1) 1 [vI z[z.length - 1].2] := vp_snd z _ hlast
    have hB : both (rulE ps m lo hi) (slE l bo) = 0 := by unfold both; rw [if_neg (by omega)]; exact e2
    rw [hB] at cbE
    rw [e3] at cGE
    let A : Nat → Int := ansP ps m lo hi l bo z ta tb
    have isE_more : ∀ {n : Nat}, ¬ z[z.length - 1].2 + (n : Int) > 200 → A n = 2 → C5 17 [dRu ps m lo hi, dSl l bo, .agg [.sl z.length 2 (vp (moreZ z n)), dI ta, dI tb]] [dI 2, dI 0] := by
      intro n h200 hA
      have hlen : (moreZ z n).length = z.length := by unfold moreZ; simp
      have hr : rtE z = 0 := (go_ok e3).1
      have hg : goE (moreZ z n) ta tb = 0 := by
        have g := e3
        unfold goE at g ⊢
        rw [if_neg (fun q => q hr), if_neg (by omega)] at g
        rw [if_neg (fun q => q (rt_more hr hlast (by omega) (by omega))), if_neg (by omega)]; exact g
      have hI : isE ps m lo hi l bo (moreZ z n) ta tb = 0 := by rw [isE_z hB]; exact hg
      have c := conIsV ps (by omega) m lo hi l (by omega) bo (moreZ z n) (by omega) ta tb hI
      have e : rdy ta tb 2 (encP ps m lo hi bo (moreZ z n) l) = 2 := by
        show rdy ta tb 2 ((encZ _ _ _ _ _ _ (moreZ z n) l).zip (encZ _ _ _ _ _ _ (moreZ z n) l)) = 2
        rw [encZ_more _ _ _ _ _ _ hlast ht.1, encZ_more _ _ _ _ _ _ hlast ht.1]
        have hA : ansA _ _ _ _ _ (z.getLast?.getD (0, 0)).1 _ _ _ _ n = 2 := hA
        rw [last_z hlast] at hA
        exact hA
      rw [e, show dGo (moreZ z n) ta tb = .agg [.sl z.length 2 (vp (moreZ z n)), dI ta, dI tb] by rw [← hlen]] at c
      exact c
    have cEa : C5 18 [dRu ps m lo hi, dSl l bo, dGo z ta tb] (eaR A) := cEa
    have cMx : C5 20 [dRu ps m lo hi, dSl l bo, dGo z ta tb] (mxR A) := cMx
    have crE : C5 22 [dRu ps m lo hi, dSl l bo, dGo z ta tb] (reaR A) := crE
    have crM : C5 23 [dRu ps m lo hi, dSl l bo, dGo z ta tb] (rmxR A) := crM
    clear_value A
    cases hF : erl A 201 0 with
    | none =>
      have x1 : eaR A = [dI 0, dI 12] := by unfold eaR; rw [hF]
      have x2 : reaR A = [dI 0, .val (.bool false)] := by unfold reaR; rw [hF]
      rw [x1] at cEa; rw [x2] at crE
      by_cases hD : dly A 201 0 = 0
      · have x3 : mxR A = [dI 0, dI 24] := by unfold mxR; rw [if_pos hD]
        have x4 : rmxR A = [dI 0, .val (.bool false)] := by unfold rmxR; rw [if_pos hD]
        rw [x3] at cMx; rw [x4] at crM
        refine ⟨⟨cYr⟩, ⟨cYs⟩, ⟨cyG⟩, _, _, ⟨cEa⟩, ⟨cYr⟩, ⟨cYs⟩, ⟨cyG⟩, _, _, ⟨cMx⟩, _, ⟨cbE⟩, ?_⟩
        simp only [bc_qt]
        refine ⟨_, ⟨cGE⟩, ?_⟩
        simp only [bc_nf]
        refine ⟨_, .inr ⟨⟨crE⟩, _, .inr ⟨⟨crM⟩, ?_⟩⟩⟩
        simp only [bc_nf]
      · have x3 : mxR A = [dI ((dly A 201 0 : Int) - 1), dI 0] := by unfold mxR; rw [if_neg hD]
        have x4 : rmxR A = [dI ((dly A 201 0 : Int) - 1), .val (.bool true)] := by unfold rmxR; rw [if_neg hD]
        rw [x3] at cMx; rw [x4] at crM
        refine ⟨⟨cYr⟩, ⟨cYs⟩, ⟨cyG⟩, _, _, ⟨cEa⟩, ⟨cYr⟩, ⟨cYs⟩, ⟨cyG⟩, _, _, ⟨cMx⟩, _, ⟨cbE⟩, ?_⟩
        simp only [bc_qt]
        refine ⟨_, ⟨cGE⟩, ?_⟩
        simp only [bc_nf]
        refine ⟨_, .inr ⟨⟨crE⟩, _, .inl ⟨⟨crM⟩, ?_⟩⟩⟩
        simp only [bc_nf]
    | some n =>
      have x1 : eaR A = [dI (n : Int), dI 0] := by unfold eaR; rw [hF]
      have x2 : reaR A = [dI (n : Int), .val (.bool true)] := by unfold reaR; rw [hF]
      rw [x1] at cEa; rw [x2] at crE
      by_cases hD : dly A 201 0 = 0
      · have x3 : mxR A = [dI 0, dI 24] := by unfold mxR; rw [if_pos hD]
        have x4 : rmxR A = [dI 0, .val (.bool false)] := by unfold rmxR; rw [if_pos hD]
        rw [x3] at cMx; rw [x4] at crM
        refine ⟨⟨cYr⟩, ⟨cYs⟩, ⟨cyG⟩, _, _, ⟨cEa⟩, ⟨cYr⟩, ⟨cYs⟩, ⟨cyG⟩, _, _, ⟨cMx⟩, _, ⟨cbE⟩, ?_⟩
        simp only [bc_qt]
        refine ⟨_, ⟨cGE⟩, ?_⟩
        simp only [bc_nf]
        refine ⟨_, .inl ⟨⟨crE⟩, _, .inr ⟨⟨crM⟩, ?_⟩⟩⟩
        simp only [bc_nf]
        have hn0 := erl_some hF
        have w3 : IntKind.wrap .i64 (z[z.length - 1].2 + (n : Int)) = z[z.length - 1].2 + (n : Int) := w64 (by omega) (by omega)
        simp only [hw, bc_t q0, bc_t q1, Int.toNat_natCast, at1 a1, w3, Qv, eq_self, true_and, and_true]
        refine bc_dec (fun _ => by first | trivial | rfl) (fun h200 => ?_)
        have hI := isE_more h200 hn0.1
        have hset : listSet (vp z) (0 + (z.length - 1) * 2 + 1) [vI (z[z.length - 1].2 + (n : Int))] = vp (moreZ z n) := by rw [vp_set2 z _ hlast, more_set hlast]
        have hlen : (moreZ z n).length = z.length := by unfold moreZ; simp
        have y3 : 0 + (z.length - 1) * 2 + 1 + 1 ≤ (vp z).length := by rw [vp_length]; omega
        have y4 : 0 + z.length * 2 ≤ (vp (moreZ z n)).length := by rw [vp_length, hlen]; omega
        simp only [Dw, Tk, vp_whole, vi_whole, bc_t (v2le ps), bc_t (v1le l), bc_t (v2le z), hw, bc_t q0, bc_t q1, Int.toNat_natCast, at1 a1, w3, bc_t y3, hset, bc_t y4, vp_tk hlen, Qv, eq_self, true_and, and_true]
        refine ⟨⟨cyG⟩, ⟨cYr⟩, ⟨cYs⟩, _, _, ⟨hI⟩, ?_⟩
        simp only [bc_qt]
      · have x3 : mxR A = [dI ((dly A 201 0 : Int) - 1), dI 0] := by unfold mxR; rw [if_neg hD]
        have x4 : rmxR A = [dI ((dly A 201 0 : Int) - 1), .val (.bool true)] := by unfold rmxR; rw [if_neg hD]
        rw [x3] at cMx; rw [x4] at crM
        refine ⟨⟨cYr⟩, ⟨cYs⟩, ⟨cyG⟩, _, _, ⟨cEa⟩, ⟨cYr⟩, ⟨cYs⟩, ⟨cyG⟩, _, _, ⟨cMx⟩, _, ⟨cbE⟩, ?_⟩
        simp only [bc_qt]
        refine ⟨_, ⟨cGE⟩, ?_⟩
        simp only [bc_nf]
        refine ⟨_, .inl ⟨⟨crE⟩, _, .inl ⟨⟨crM⟩, ?_⟩⟩⟩
        simp only [bc_nf]
        have hn0 := erl_some hF
        have w3 : IntKind.wrap .i64 (z[z.length - 1].2 + (n : Int)) = z[z.length - 1].2 + (n : Int) := w64 (by omega) (by omega)
        simp only [hw, bc_t q0, bc_t q1, Int.toNat_natCast, at1 a1, w3, Qv, eq_self, true_and, and_true]
        refine bc_dec (fun _ => by first | trivial | rfl) (fun h200 => ?_)
        have hI := isE_more h200 hn0.1
        have hset : listSet (vp z) (0 + (z.length - 1) * 2 + 1) [vI (z[z.length - 1].2 + (n : Int))] = vp (moreZ z n) := by rw [vp_set2 z _ hlast, more_set hlast]
        have hlen : (moreZ z n).length = z.length := by unfold moreZ; simp
        have y3 : 0 + (z.length - 1) * 2 + 1 + 1 ≤ (vp z).length := by rw [vp_length]; omega
        have y4 : 0 + z.length * 2 ≤ (vp (moreZ z n)).length := by rw [vp_length, hlen]; omega
        simp only [Dw, Tk, vp_whole, vi_whole, bc_t (v2le ps), bc_t (v1le l), bc_t (v2le z), hw, bc_t q0, bc_t q1, Int.toNat_natCast, at1 a1, w3, bc_t y3, hset, bc_t y4, vp_tk hlen, Qv, eq_self, true_and, and_true]
        refine ⟨⟨cyG⟩, ⟨cYr⟩, ⟨cYs⟩, _, _, ⟨hI⟩, ?_⟩
        simp only [bc_qt]
  · have cEa := conEaE ps (by omega) m lo hi l (by omega) bo z (by omega) ta tb h0
    have cMx := conMxE ps (by omega) m lo hi l (by omega) bo z (by omega) ta tb h0
    by_cases hB : both (rulE ps m lo hi) (slE l bo) = 0
    · rw [hB] at cbE
      rw [isE_z hB] at cEa cMx h0
      refine ⟨⟨cYr⟩, ⟨cYs⟩, ⟨cyG⟩, _, _, ⟨cEa⟩, ⟨cYr⟩, ⟨cYs⟩, ⟨cyG⟩, _, _, ⟨cMx⟩, _, ⟨cbE⟩, ?_⟩
      simp only [bc_qt]
      refine ⟨_, ⟨cGE⟩, ?_⟩
      simp only [bc_n h0, bc_qt]
    · rw [isE_b hB] at cEa cMx h0
      refine ⟨⟨cYr⟩, ⟨cYs⟩, ⟨cyG⟩, _, _, ⟨cEa⟩, ⟨cYr⟩, ⟨cYs⟩, ⟨cyG⟩, _, _, ⟨cMx⟩, _, ⟨cbE⟩, ?_⟩
      simp only [bc_q h0, bc_n h0, bc_qt]
end Go.Proofs.G5j

/- FurnaceDischarges in data: shapes with a nil slice. -/
namespace Go.Proofs.G5j
open Go Go.Abs Go.Proofs Go.Proofs.G2
set_option maxRecDepth 100000
theorem both_r {a b : Int} (h : b ≠ 0) : both a b ≠ 0 := by unfold both; split <;> assumption
theorem both_l {a b : Int} (h : a ≠ 0) : both a b = a := by unfold both; rw [if_pos h]
theorem goE_nil (a b : Int) : goE [] a b = 10 := by simp [goE, rtE, rtR, rtGo]
theorem sl_nil (bo : Int) : slE [] bo = 10 := rfl
theorem rul_nil (m lo hi : Int) : rulE [] m lo hi = 10 := rfl
theorem lawDssn (ps : List Pt) (m lo hi : Int) (l : List Int) (bo : Int) (ta tb : Int) : C5 4 [dRu ps m lo hi, dSl l bo, dGn ta tb] [.val (.bool true)] := by
  refine con_flat hokL2 mixed Try.func4 rfl (by show 2 ≤ 400; omega) rfl (by kernel_rfl) (fun caps => ?_)
  show gDssn _ _ ps.length (caps 500) (vp ps) m lo hi l.length (caps 501) (vi l) bo ta tb _
  rw [gDssn_text]
  refine .inl ⟨⟨conA⟩, ?_⟩
  refine bc_dec (fun h12 => ?_) (fun _ => rfl)
  refine bc_dec (fun h10 => ?_) (fun _ => rfl)
  have cYr := conYr ps (by omega) m lo hi
  have cYs := conYs l (by omega) bo
  have cyG := conyGn ta tb
  have cbE := conbE ps (by omega) m lo hi l (by omega) bo
  have cGE := conGEn ta tb
  simp only [Dw, Tk, vp_whole, bc_t (v2le ps), vi_whole, bc_t (v1le l), Qv, eq_self, true_and, and_true]
  by_cases hB : both (rulE ps m lo hi) (slE l bo) = 0
  · have h0 : isE ps m lo hi l bo [] ta tb ≠ 0 := by rw [isE_z hB, goE_nil]; decide
    have cEa := conEaE ps (by omega) m lo hi l (by omega) bo [] (by decide) ta tb h0
    have cMx := conMxE ps (by omega) m lo hi l (by omega) bo [] (by decide) ta tb h0
    rw [isE_z hB, goE_nil] at cEa cMx
    rw [hB] at cbE
    refine ⟨⟨cYr⟩, ⟨cYs⟩, ⟨cyG⟩, _, _, ⟨cEa⟩, ⟨cYr⟩, ⟨cYs⟩, ⟨cyG⟩, _, _, ⟨cMx⟩, _, ⟨cbE⟩, ?_⟩
    simp only [bc_qt]
    refine ⟨_, ⟨cGE⟩, ?_⟩
    simp only [bc_n (show (10 : Int) ≠ 0 by decide), bc_qt]
  · have h0 : isE ps m lo hi l bo [] ta tb ≠ 0 := by rw [isE_b hB]; exact hB
    have cEa := conEaE ps (by omega) m lo hi l (by omega) bo [] (by decide) ta tb h0
    have cMx := conMxE ps (by omega) m lo hi l (by omega) bo [] (by decide) ta tb h0
    rw [isE_b hB] at cEa cMx
    refine ⟨⟨cYr⟩, ⟨cYs⟩, ⟨cyG⟩, _, _, ⟨cEa⟩, ⟨cYr⟩, ⟨cYs⟩, ⟨cyG⟩, _, _, ⟨cMx⟩, _, ⟨cbE⟩, ?_⟩
    simp only [bc_q hB, bc_n hB, bc_qt]
theorem lawDsns (ps : List Pt) (m lo hi : Int) (bo : Int) (z : List (Int × Int)) (ta tb : Int) : C5 4 [dRu ps m lo hi, dSn bo, dGo z ta tb] [.val (.bool true)] := by
  refine con_flat hokL2 mixed Try.func4 rfl (by show 2 ≤ 400; omega) rfl (by kernel_rfl) (fun caps => ?_)
  show gDsns _ _ ps.length (caps 500) (vp ps) m lo hi bo z.length (caps 501) (vp z) ta tb _
  rw [gDsns_text]
  refine .inl ⟨⟨conA⟩, ?_⟩
  refine bc_dec (fun h12 => ?_) (fun _ => rfl)
  refine bc_dec (fun _ => rfl) (fun h7 => ?_)
  have cYr := conYr ps (by omega) m lo hi
  have cYs := conYsn bo
  have cyG := conyG z (by omega) ta tb
  have cbE := conbE1 ps (by omega) m lo hi bo
  have cGE := conGE z (by omega) ta tb
  simp only [Dw, Tk, vp_whole, bc_t (v2le ps), bc_t (v2le z), Qv, eq_self, true_and, and_true]
  have hd : both (rulE ps m lo hi) (slE [] bo) ≠ 0 := both_r (by rw [sl_nil]; decide)
  have cEa := conEaE ps (by omega) m lo hi [] (by decide) bo z (by omega) ta tb (by rw [isE_b hd]; exact hd)
  have cMx := conMxE ps (by omega) m lo hi [] (by decide) bo z (by omega) ta tb (by rw [isE_b hd]; exact hd)
  rw [isE_b hd] at cEa cMx
  rw [sl_nil] at cEa cMx hd
  refine ⟨⟨cYr⟩, ⟨cYs⟩, ⟨cyG⟩, _, _, ⟨cEa⟩, ⟨cYr⟩, ⟨cYs⟩, ⟨cyG⟩, _, _, ⟨cMx⟩, _, ⟨cbE⟩, ?_⟩
  simp only [bc_q hd, bc_n hd, bc_qt]
theorem lawDsnn (ps : List Pt) (m lo hi : Int) (bo : Int) (ta tb : Int) : C5 4 [dRu ps m lo hi, dSn bo, dGn ta tb] [.val (.bool true)] := by
  refine con_flat hokL2 mixed Try.func4 rfl (by show 1 ≤ 400; omega) rfl (by kernel_rfl) (fun caps => ?_)
  show gDsnn _ _ ps.length (caps 500) (vp ps) m lo hi bo ta tb _
  rw [gDsnn_text]
  refine .inl ⟨⟨conA⟩, ?_⟩
  refine bc_dec (fun h12 => ?_) (fun _ => rfl)
  have cYr := conYr ps (by omega) m lo hi
  have cYs := conYsn bo
  have cyG := conyGn ta tb
  have cbE := conbE1 ps (by omega) m lo hi bo
  have cGE := conGEn ta tb
  simp only [Dw, Tk, vp_whole, bc_t (v2le ps), Qv, eq_self, true_and, and_true]
  have hd : both (rulE ps m lo hi) (slE [] bo) ≠ 0 := both_r (by rw [sl_nil]; decide)
  have cEa := conEaE ps (by omega) m lo hi [] (by decide) bo [] (by decide) ta tb (by rw [isE_b hd]; exact hd)
  have cMx := conMxE ps (by omega) m lo hi [] (by decide) bo [] (by decide) ta tb (by rw [isE_b hd]; exact hd)
  rw [isE_b hd] at cEa cMx
  rw [sl_nil] at cEa cMx hd
  refine ⟨⟨cYr⟩, ⟨cYs⟩, ⟨cyG⟩, _, _, ⟨cEa⟩, ⟨cYr⟩, ⟨cYs⟩, ⟨cyG⟩, _, _, ⟨cMx⟩, _, ⟨cbE⟩, ?_⟩
  simp only [bc_q hd, bc_n hd, bc_qt]
theorem lawDnss (m lo hi : Int) (l : List Int) (bo : Int) (z : List (Int × Int)) (ta tb : Int) : C5 4 [dRn m lo hi, dSl l bo, dGo z ta tb] [.val (.bool true)] := by
  refine con_flat hokL2 mixed Try.func4 rfl (by show 2 ≤ 400; omega) rfl (by kernel_rfl) (fun caps => ?_)
  show gDnss _ _ m lo hi l.length (caps 500) (vi l) bo z.length (caps 501) (vp z) ta tb _
  rw [gDnss_text]
  refine .inl ⟨⟨conA⟩, ?_⟩
  refine bc_dec (fun h10 => ?_) (fun _ => rfl)
  refine bc_dec (fun _ => rfl) (fun h7 => ?_)
  have cYr := conYrn m lo hi
  have cYs := conYs l (by omega) bo
  have cyG := conyG z (by omega) ta tb
  have cbE := conbE2 m lo hi l bo
  have cGE := conGE z (by omega) ta tb
  simp only [Dw, Tk, vi_whole, bc_t (v1le l), vp_whole, bc_t (v2le z), Qv, eq_self, true_and, and_true]
  have hd : both (rulE [] m lo hi) (slE l bo) ≠ 0 := by rw [both_l (by rw [rul_nil]; decide), rul_nil]; decide
  have cEa := conEaE [] (by decide) m lo hi l (by omega) bo z (by omega) ta tb (by rw [isE_b hd]; exact hd)
  have cMx := conMxE [] (by decide) m lo hi l (by omega) bo z (by omega) ta tb (by rw [isE_b hd]; exact hd)
  rw [isE_b hd] at cEa cMx
  rw [both_l (by rw [rul_nil]; decide), rul_nil] at cEa cMx hd
  refine ⟨⟨cYr⟩, ⟨cYs⟩, ⟨cyG⟩, _, _, ⟨cEa⟩, ⟨cYr⟩, ⟨cYs⟩, ⟨cyG⟩, _, _, ⟨cMx⟩, _, ⟨cbE⟩, ?_⟩
  simp only [bc_q hd, bc_n hd, bc_qt]
theorem lawDnsn (m lo hi : Int) (l : List Int) (bo : Int) (ta tb : Int) : C5 4 [dRn m lo hi, dSl l bo, dGn ta tb] [.val (.bool true)] := by
  refine con_flat hokL2 mixed Try.func4 rfl (by show 1 ≤ 400; omega) rfl (by kernel_rfl) (fun caps => ?_)
  show gDnsn _ _ m lo hi l.length (caps 500) (vi l) bo ta tb _
  rw [gDnsn_text]
  refine .inl ⟨⟨conA⟩, ?_⟩
  refine bc_dec (fun h10 => ?_) (fun _ => rfl)
  have cYr := conYrn m lo hi
  have cYs := conYs l (by omega) bo
  have cyG := conyGn ta tb
  have cbE := conbE2 m lo hi l bo
  have cGE := conGEn ta tb
  simp only [Dw, Tk, vi_whole, bc_t (v1le l), Qv, eq_self, true_and, and_true]
  have hd : both (rulE [] m lo hi) (slE l bo) ≠ 0 := by rw [both_l (by rw [rul_nil]; decide), rul_nil]; decide
  have cEa := conEaE [] (by decide) m lo hi l (by omega) bo [] (by decide) ta tb (by rw [isE_b hd]; exact hd)
  have cMx := conMxE [] (by decide) m lo hi l (by omega) bo [] (by decide) ta tb (by rw [isE_b hd]; exact hd)
  rw [isE_b hd] at cEa cMx
  rw [both_l (by rw [rul_nil]; decide), rul_nil] at cEa cMx hd
  refine ⟨⟨cYr⟩, ⟨cYs⟩, ⟨cyG⟩, _, _, ⟨cEa⟩, ⟨cYr⟩, ⟨cYs⟩, ⟨cyG⟩, _, _, ⟨cMx⟩, _, ⟨cbE⟩, ?_⟩
  simp only [bc_q hd, bc_n hd, bc_qt]
theorem lawDnns (m lo hi : Int) (bo : Int) (z : List (Int × Int)) (ta tb : Int) : C5 4 [dRn m lo hi, dSn bo, dGo z ta tb] [.val (.bool true)] := by
  refine con_flat hokL2 mixed Try.func4 rfl (by show 1 ≤ 400; omega) rfl (by kernel_rfl) (fun caps => ?_)
  show gDnns _ _ m lo hi bo z.length (caps 500) (vp z) ta tb _
  rw [gDnns_text]
  refine .inl ⟨⟨conA⟩, ?_⟩
  refine bc_dec (fun _ => rfl) (fun h7 => ?_)
  have cYr := conYrn m lo hi
  have cYs := conYsn bo
  have cyG := conyG z (by omega) ta tb
  have cbE := conbE3 m lo hi bo
  have cGE := conGE z (by omega) ta tb
  simp only [Dw, Tk, vp_whole, bc_t (v2le z), Qv, eq_self, true_and, and_true]
  have hd : both (rulE [] m lo hi) (slE [] bo) ≠ 0 := both_r (by rw [sl_nil]; decide)
  have cEa := conEaE [] (by decide) m lo hi [] (by decide) bo z (by omega) ta tb (by rw [isE_b hd]; exact hd)
  have cMx := conMxE [] (by decide) m lo hi [] (by decide) bo z (by omega) ta tb (by rw [isE_b hd]; exact hd)
  rw [isE_b hd] at cEa cMx
  rw [both_l (by rw [rul_nil]; decide), rul_nil] at cEa cMx hd
  refine ⟨⟨cYr⟩, ⟨cYs⟩, ⟨cyG⟩, _, _, ⟨cEa⟩, ⟨cYr⟩, ⟨cYs⟩, ⟨cyG⟩, _, _, ⟨cMx⟩, _, ⟨cbE⟩, ?_⟩
  simp only [bc_q hd, bc_n hd, bc_qt]
theorem lawDnnn (m lo hi : Int) (bo : Int) (ta tb : Int) : C5 4 [dRn m lo hi, dSn bo, dGn ta tb] [.val (.bool true)] := by
  refine con_flat hokL2 mixed Try.func4 rfl (by show 0 ≤ 400; omega) rfl (by kernel_rfl) (fun caps => ?_)
  show gDnnn _ _ m lo hi bo ta tb _
  rw [gDnnn_text]
  refine .inl ⟨⟨conA⟩, ?_⟩
  have cYr := conYrn m lo hi
  have cYs := conYsn bo
  have cyG := conyGn ta tb
  have cbE := conbE3 m lo hi bo
  have cGE := conGEn ta tb
  simp only [Dw, Tk, Qv, eq_self, true_and, and_true]
  have hd : both (rulE [] m lo hi) (slE [] bo) ≠ 0 := both_r (by rw [sl_nil]; decide)
  have cEa := conEaE [] (by decide) m lo hi [] (by decide) bo [] (by decide) ta tb (by rw [isE_b hd]; exact hd)
  have cMx := conMxE [] (by decide) m lo hi [] (by decide) bo [] (by decide) ta tb (by rw [isE_b hd]; exact hd)
  rw [isE_b hd] at cEa cMx
  rw [both_l (by rw [rul_nil]; decide), rul_nil] at cEa cMx hd
  refine ⟨⟨cYr⟩, ⟨cYs⟩, ⟨cyG⟩, _, _, ⟨cEa⟩, ⟨cYr⟩, ⟨cYs⟩, ⟨cyG⟩, _, _, ⟨cMx⟩, _, ⟨cbE⟩, ?_⟩
  simp only [bc_q hd, bc_n hd, bc_qt]
end Go.Proofs.G5j

/- FurnaceDischarges: whatever the input, it returns true, and the input reads as it did. No condition. -/
namespace Go.Proofs.Ytipfpmiljmlekaa.K
open Go Go.Abs Go.RowKit Go.ChangeShapes Go.WideShapes Go.ChangeAt Go.Proofs Go.Flat Go.Proofs.G5j
set_option maxRecDepth 100000
namespace FurnaceDischarges
abbrev shs : List Sh := [.agg [22, 3, 3, 3], .agg [29, 3], .agg [32, 3, 3]]
theorem shapes : Try.f4.params.toList.mapM (argSh Try.prog) = some shs := by kernel_rfl
theorem all (ds : List D) (h : ShDs Try.prog shs ds) : Con Try.prog 4 ds [.val (.bool true)] := by
  cases h with | cons h1 t => cases t with | cons h2 t => cases t with | cons h3 t =>
  cases t
  obtain ⟨d1, rfl, h1⟩ := h1
  obtain ⟨d2, rfl, h2⟩ := h2
  obtain ⟨d3, rfl, h3⟩ := h3
  cases h1 with | cons p1 t => cases t with | cons p2 t => cases t with | cons p3 t => cases t with | cons p4 t =>
  cases t
  cases h2 with | cons q1 t => cases t with | cons q2 t =>
  cases t
  cases h3 with | cons r0 t => cases t with | cons r1 t => cases t with | cons r2 t =>
  cases t
  obtain ⟨m, rfl, _⟩ := leaf_int Try.underlying3 p2
  obtain ⟨lo, rfl, _⟩ := leaf_int Try.underlying3 p3
  obtain ⟨hi, rfl, _⟩ := leaf_int Try.underlying3 p4
  obtain ⟨bo, rfl, _⟩ := leaf_int Try.underlying3 q2
  obtain ⟨ta, rfl, _⟩ := leaf_int Try.underlying3 r1
  obtain ⟨tb, rfl, _⟩ := leaf_int Try.underlying3 r2
  rcases leaf_prs Try.underlying22 (by kernel_rfl) p1 with rfl | ⟨ps, rfl, _⟩ <;>
  rcases leaf_ints Try.underlying29 (by kernel_rfl) q1 with rfl | ⟨l, rfl⟩ <;>
  rcases leaf_prs Try.underlying32 (by kernel_rfl) r0 with rfl | ⟨z, rfl, _⟩
  · exact lawDnnn m lo hi bo ta tb
  · exact lawDnns m lo hi bo z ta tb
  · exact lawDnsn m lo hi l bo ta tb
  · exact lawDnss m lo hi l bo z ta tb
  · exact lawDsnn ps m lo hi bo ta tb
  · exact lawDsns ps m lo hi bo z ta tb
  · exact lawDssn ps m lo hi l bo ta tb
  · exact lawD ps m lo hi l bo z ta tb
theorem lifted (os : Os) (started : os.Started) (H : Type) (enc : TypeId × Value → H) :
    ReturnsInHanded {} Try.checked os 4 .any (Rows.furnaceDischargesSpec.pre6 enc Try.prog Try.f4 Rows.furnaceDischargesRow.domain false) (Rows.furnaceDischargesSpec.post enc Try.prog Try.f4 false true false false) := by
  refine returnsInHanded_of_change (C := Try.checked) own started (by kernel_rfl) Try.func4
    (ChangeSpec.witness6 (enc := enc) (C := Try.checked) false ⟨#[], #[.agg #[.slice none 0 0, .int .i64 0, .int .i64 0, .int .i64 0], .agg #[.slice none 0 0, .int .i64 0], .agg #[.slice none 0 0, .int .i64 0, .int .i64 0]], []⟩ 8 (by kernel_rfl) (by kernel_rfl) (by kernel_rfl) (by kernel_rfl)) ?_
  intro W base args ds gs before hval hW _ _
  exact law_shapes (tb := 4) (s := Rows.furnaceDischargesSpec) shapes all laidP mapsP slicesP (tsP (by kernel_rfl)) rfl Try.underlying4 rfl (fun ds h => by
    match ds, h with
    | [_, _, _], _ => exact ⟨rfl, rfl, rfl⟩) hval hW (good0 W)
theorem holds : Rows.FurnaceDischargesSaid :=
  OpenClaim.holds_of_wide 4 Try.f4 rfl rfl rfl rfl rfl rfl rfl ⟨rfl, rfl, rfl, rfl, rfl⟩ rfl rfl rfl rfl rfl (by kernel_rfl) Try.func4 (by kernel_rfl)
    (of_decide_eq_true (by kernel_rfl)) (by unfold Func.isWrapper; first | (rw [if_pos (by decide +kernel)]; kernel_rfl) | (rw [if_neg (by decide +kernel)]; exact ⟨rfl, rfl⟩))
    (fun os started H enc _ => lifted os started H enc)
#print axioms holds
end FurnaceDischarges
end Go.Proofs.Ytipfpmiljmlekaa.K
