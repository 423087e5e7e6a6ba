/- Texts of the proof, put together: Gf7T7, Gf7U. -/
import Derived.Test.YtpjfmeijfkbfaaaP7
/- What is left to show of each function, written out; the kernel reckons it. -/
namespace Go.Proofs.G5f
open Go Go.Abs Go.Proofs
set_option maxRecDepth 100000
set_option linter.unusedVariables false
def gBo (C : Ct) (x0 : Int) (x1 : Int) (x2 : Int) (x3 : Int) (n4 : Nat) (c4 : Nat) (l4 : List Value) (k : List D → Prop) : Prop := wpFn Try.prog (hU C) (fun _ _ _ => False) 8 32 #[.agg #[.int .i64 x0, .int .i64 x1, .int .i64 x2, .int .i64 x3], .slice (some ⟨500, 0, none⟩) n4 c4] (heapOf [(500, .sym l4 false 2)]) (dataK k)
theorem gBo_text (C : Ct) (x0 : Int) (x1 : Int) (x2 : Int) (x3 : Int) (n4 : Nat) (c4 : Nat) (l4 : List Go.Value) (k : List D → Prop) : gBo C x0 x1 x2 x3 n4 c4 l4 k =
 (bcase (decide (0 + n4 * 2 ≤ List.length l4))
 (∃ n1 : Int,
 (∃ n2 : Int,
 ((Says C 82 [(D.sl (n4) 2 (List.take (n4 * 2) (List.drop 0 l4))), (D.val (Go.Value.func (Go.Fn.func 83) [].toArray [].toArray))] [(D.val (vI n1)), (D.val (vI n2))]) ∧
 (∃ n3 : Int,
 ((Says C 84 [(D.agg [(D.val (vI x0)), (D.val (vI x1)), (D.val (vI x2)), (D.val (vI x3))])] [(D.val (vI n3))]) ∧
 (∃ n5 : Int,
 ((Says C 68 [(D.val (vI ((↑n4 : Int)))), (D.val (vI (3 : Int))), (D.val (vI (9 : Int)))] [(D.val (vI n5))]) ∧
 (∃ n6 : Int,
 ((Says C 67 [(D.sl 3 1 [(vI n3), (vI n5), (vI n2)])] [(D.val (vI n6))]) ∧
 (bcase (n6 != 0)
 (k [D.nil, (D.val (vI n6))])
 ((0 < (n4)) ∧
 ((∃ l1 : List (Int × Int),
 (((l4) = (prs l1)) ∧
 (((n4) = (List.length l1)) ∧
 ((List.length l1) < 1000000000)))) ∧
 (∃ out1 : List Go.Value,
 ((Says bkC 0 [(D.val (vI x2)), (D.val (vI x3)), (D.sl (n4) 2 (l4))] [(D.sl (n4) 1 (out1))]) ∧
 (bcase (decide (0 < (↑n4 : Int)))
 (∃ n7 : Int,
 (∃ n8 : Int,
 ((At (l4) 0 2 [(vI n7), (vI n8)]) ∧
 (((∃ n9 : Int,
 (∃ n10 : Int,
 ((At (l4) 0 2 [(vI n9), (vI n10)]) ∧
 ((Go.Value.agg [(vI n9), (vI n10)].toArray) = (Go.Value.agg [(vI n7), (vI n8)].toArray))))) ∧
 ((bcase (decide (0 < (↑n4 : Int)))
 ((Go.Value.pointer (Option.some (Go.Addr.mk 500 0 Option.none))) = (Go.Value.pointer (Option.some (Go.Addr.mk 500 0 Option.none))))
 False) ∧
 (((vI (0 : Int)) = (vI (0 : Int))) ∧
 (((Go.Value.slice (Option.some (Go.Addr.mk 500 0 Option.none)) (n4) (c4)) = (Go.Value.slice (Option.some (Go.Addr.mk 500 0 Option.none)) (n4) (c4))) ∧
 (((Go.Value.agg [(vI x0), (vI x1)].toArray) = (Go.Value.agg [(vI x0), (vI x1)].toArray)) ∧
 (((Go.Value.pointer (Option.some (Go.Addr.mk 1000 0 Option.none))) = (Go.Value.pointer (Option.some (Go.Addr.mk 1000 0 Option.none)))) ∧
 (((vI (0 : Int)) = (vI (0 : Int))) ∧
 (((Go.Value.slice (Option.some (Go.Addr.mk 1003 0 Option.none)) (n4) (n4)) = (Go.Value.slice (Option.some (Go.Addr.mk 1003 0 Option.none)) (n4) (n4))) ∧
 True)))))))) ∧
 (((∃ n9 : Int,
 (∃ n10 : Int,
 ((At (l4) 0 2 [(vI n9), (vI n10)]) ∧
 ((Go.Value.agg [(vI n9), (vI n10)].toArray) = (Go.Value.agg [(vI n7), (vI n8)].toArray))))) ∧
 ((bcase (decide (0 < (↑n4 : Int)))
 ((Go.Value.pointer (Option.some (Go.Addr.mk 500 0 Option.none))) = (Go.Value.pointer (Option.some (Go.Addr.mk 500 0 Option.none))))
 False) ∧
 (((vI (0 : Int)) = (vI (0 : Int))) ∧
 (((Go.Value.slice (Option.some (Go.Addr.mk 500 0 Option.none)) (n4) (c4)) = (Go.Value.slice (Option.some (Go.Addr.mk 500 0 Option.none)) (n4) (c4))) ∧
 (((Go.Value.pointer (Option.some (Go.Addr.mk 1000 0 Option.none))) = (Go.Value.pointer (Option.some (Go.Addr.mk 1000 0 Option.none)))) ∧
 (((vI (0 : Int)) = (vI (0 : Int))) ∧
 (((Go.Value.slice (Option.some (Go.Addr.mk 1003 0 Option.none)) (n4) (n4)) = (Go.Value.slice (Option.some (Go.Addr.mk 1003 0 Option.none)) (n4) (n4))) ∧
 True))))))) ∧
 (bcase (decide (IntKind.wrap .i64 (1000000 * n7) > IntKind.wrap .i64 (x1 * n8)))
 (bcase (decide (0 < (↑n4 : Int)))
 (((bcase (decide (0 < (↑n4 : Int)))
 ((Go.Value.pointer (Option.some (Go.Addr.mk 1003 0 Option.none))) = (Go.Value.pointer (Option.some (Go.Addr.mk 1003 0 Option.none))))
 False) ∧
 ((bcase (decide (0 < (↑n4 : Int)))
 ((Go.Value.pointer (Option.some (Go.Addr.mk 500 0 Option.none))) = (Go.Value.pointer (Option.some (Go.Addr.mk 500 0 Option.none))))
 False) ∧
 (((vI (0 : Int)) = (vI (0 : Int))) ∧
 (((Go.Value.slice (Option.some (Go.Addr.mk 500 0 Option.none)) (n4) (c4)) = (Go.Value.slice (Option.some (Go.Addr.mk 500 0 Option.none)) (n4) (c4))) ∧
 (((Go.Value.pointer (Option.some (Go.Addr.mk 1000 0 Option.none))) = (Go.Value.pointer (Option.some (Go.Addr.mk 1000 0 Option.none)))) ∧
 (((vI (0 : Int)) = (vI (0 : Int))) ∧
 (((Go.Value.slice (Option.some (Go.Addr.mk 1003 0 Option.none)) (n4) (n4)) = (Go.Value.slice (Option.some (Go.Addr.mk 1003 0 Option.none)) (n4) (n4))) ∧
 True))))))) ∧
 (bcase (decide (1 ≤ List.length out1))
 (True ∧
 (bcase (decide (0 ≤ IntKind.wrap .i64 ((↑n4 : Int) - 1)))
 (bcase (decide (IntKind.wrap .i64 ((↑n4 : Int) - 1) < (↑n4 : Int)))
 (∃ n9 : Int,
 (∃ n10 : Int,
 ((At (l4) (0 + Int.toNat (IntKind.wrap .i64 ((↑n4 : Int) - 1)) * 2) 2 [(vI n9), (vI n10)]) ∧
 (((∃ n11 : Int,
 (∃ n12 : Int,
 ((At (l4) (0 + Int.toNat (IntKind.wrap .i64 ((↑n4 : Int) - 1)) * 2) 2 [(vI n11), (vI n12)]) ∧
 ((Go.Value.agg [(vI n11), (vI n12)].toArray) = (Go.Value.agg [(vI n9), (vI n10)].toArray))))) ∧
 ((bcase (decide (0 ≤ IntKind.wrap .i64 ((↑n4 : Int) - 1)))
 (bcase (decide (IntKind.wrap .i64 ((↑n4 : Int) - 1) < (↑n4 : Int)))
 ((Go.Value.pointer (Option.some (Go.Addr.mk 500 (0 + Int.toNat (IntKind.wrap .i64 ((↑n4 : Int) - 1)) * 2) Option.none))) = (Go.Value.pointer (Option.some (Go.Addr.mk 500 (0 + Int.toNat (IntKind.wrap .i64 ((↑n4 : Int) - 1)) * 2) Option.none))))
 False)
 False) ∧
 (((vI (IntKind.wrap .i64 ((↑n4 : Int) - 1))) = (vI (IntKind.wrap .i64 ((↑n4 : Int) - 1)))) ∧
 (((Go.Value.slice (Option.some (Go.Addr.mk 500 0 Option.none)) (n4) (c4)) = (Go.Value.slice (Option.some (Go.Addr.mk 500 0 Option.none)) (n4) (c4))) ∧
 (((Go.Value.agg [(vI x0), (vI x1)].toArray) = (Go.Value.agg [(vI x0), (vI x1)].toArray)) ∧
 (((Go.Value.pointer (Option.some (Go.Addr.mk 1000 0 Option.none))) = (Go.Value.pointer (Option.some (Go.Addr.mk 1000 0 Option.none)))) ∧
 (((vI (IntKind.wrap .i64 ((↑n4 : Int) - 1))) = (vI (IntKind.wrap .i64 ((↑n4 : Int) - 1)))) ∧
 (((Go.Value.slice (Option.some (Go.Addr.mk 1003 0 Option.none)) (n4) (n4)) = (Go.Value.slice (Option.some (Go.Addr.mk 1003 0 Option.none)) (n4) (n4))) ∧
 True)))))))) ∧
 (((∃ n11 : Int,
 (∃ n12 : Int,
 ((At (l4) (0 + Int.toNat (IntKind.wrap .i64 ((↑n4 : Int) - 1)) * 2) 2 [(vI n11), (vI n12)]) ∧
 ((Go.Value.agg [(vI n11), (vI n12)].toArray) = (Go.Value.agg [(vI n9), (vI n10)].toArray))))) ∧
 ((bcase (decide (0 ≤ IntKind.wrap .i64 ((↑n4 : Int) - 1)))
 (bcase (decide (IntKind.wrap .i64 ((↑n4 : Int) - 1) < (↑n4 : Int)))
 ((Go.Value.pointer (Option.some (Go.Addr.mk 500 (0 + Int.toNat (IntKind.wrap .i64 ((↑n4 : Int) - 1)) * 2) Option.none))) = (Go.Value.pointer (Option.some (Go.Addr.mk 500 (0 + Int.toNat (IntKind.wrap .i64 ((↑n4 : Int) - 1)) * 2) Option.none))))
 False)
 False) ∧
 (((vI (IntKind.wrap .i64 ((↑n4 : Int) - 1))) = (vI (IntKind.wrap .i64 ((↑n4 : Int) - 1)))) ∧
 (((Go.Value.slice (Option.some (Go.Addr.mk 500 0 Option.none)) (n4) (c4)) = (Go.Value.slice (Option.some (Go.Addr.mk 500 0 Option.none)) (n4) (c4))) ∧
 (((Go.Value.pointer (Option.some (Go.Addr.mk 1000 0 Option.none))) = (Go.Value.pointer (Option.some (Go.Addr.mk 1000 0 Option.none)))) ∧
 (((vI (IntKind.wrap .i64 ((↑n4 : Int) - 1))) = (vI (IntKind.wrap .i64 ((↑n4 : Int) - 1)))) ∧
 (((Go.Value.slice (Option.some (Go.Addr.mk 1003 0 Option.none)) (n4) (n4)) = (Go.Value.slice (Option.some (Go.Addr.mk 1003 0 Option.none)) (n4) (n4))) ∧
 True))))))) ∧
 (bcase (decide (IntKind.wrap .i64 (1000000 * n9) > IntKind.wrap .i64 (x1 * n10)))
 (bcase (decide (0 ≤ IntKind.wrap .i64 ((↑n4 : Int) - 1)))
 (bcase (decide (IntKind.wrap .i64 ((↑n4 : Int) - 1) < (↑n4 : Int)))
 (((bcase (decide (0 ≤ IntKind.wrap .i64 ((↑n4 : Int) - 1)))
 (bcase (decide (IntKind.wrap .i64 ((↑n4 : Int) - 1) < (↑n4 : Int)))
 ((Go.Value.pointer (Option.some (Go.Addr.mk 1003 (0 + Int.toNat (IntKind.wrap .i64 ((↑n4 : Int) - 1)) * 1) Option.none))) = (Go.Value.pointer (Option.some (Go.Addr.mk 1003 (0 + Int.toNat (IntKind.wrap .i64 ((↑n4 : Int) - 1)) * 1) Option.none))))
 False)
 False) ∧
 ((bcase (decide (0 ≤ IntKind.wrap .i64 ((↑n4 : Int) - 1)))
 (bcase (decide (IntKind.wrap .i64 ((↑n4 : Int) - 1) < (↑n4 : Int)))
 ((Go.Value.pointer (Option.some (Go.Addr.mk 500 (0 + Int.toNat (IntKind.wrap .i64 ((↑n4 : Int) - 1)) * 2) Option.none))) = (Go.Value.pointer (Option.some (Go.Addr.mk 500 (0 + Int.toNat (IntKind.wrap .i64 ((↑n4 : Int) - 1)) * 2) Option.none))))
 False)
 False) ∧
 (((vI (IntKind.wrap .i64 ((↑n4 : Int) - 1))) = (vI (IntKind.wrap .i64 ((↑n4 : Int) - 1)))) ∧
 (((Go.Value.slice (Option.some (Go.Addr.mk 500 0 Option.none)) (n4) (c4)) = (Go.Value.slice (Option.some (Go.Addr.mk 500 0 Option.none)) (n4) (c4))) ∧
 (((Go.Value.pointer (Option.some (Go.Addr.mk 1000 0 Option.none))) = (Go.Value.pointer (Option.some (Go.Addr.mk 1000 0 Option.none)))) ∧
 (((vI (IntKind.wrap .i64 ((↑n4 : Int) - 1))) = (vI (IntKind.wrap .i64 ((↑n4 : Int) - 1)))) ∧
 (((Go.Value.slice (Option.some (Go.Addr.mk 1003 0 Option.none)) (n4) (n4)) = (Go.Value.slice (Option.some (Go.Addr.mk 1003 0 Option.none)) (n4) (n4))) ∧
 True))))))) ∧
 (bcase (decide (0 + Int.toNat (IntKind.wrap .i64 ((↑n4 : Int) - 1)) * 1 + 1 ≤ List.length (vI 2 :: List.append._f [] PUnit.unit (List.drop 1 out1))))
 (True ∧
 ((((n4) = (n4)) ∧
 ((List.length (listSet (vI 2 :: List.append._f [] PUnit.unit (List.drop 1 out1)) (0 + Int.toNat (IntKind.wrap .i64 ((↑n4 : Int) - 1)) * 1) [vI 2])) = (n4 * 1))) ∧
 (k [(D.sl (n4) 1 (listSet ((vI (2 : Int)) :: (List.append._f [] PUnit.unit (List.drop 1 out1))) (0 + Int.toNat (IntKind.wrap .i64 ((↑n4 : Int) - 1)) * 1) [(vI (2 : Int))])), (D.val (vI (0 : Int)))])))
 False))
 False)
 False)
 (bcase (decide (IntKind.wrap .i64 (1000000 * n9) ≤ IntKind.wrap .i64 (x0 * n10)))
 (bcase (decide (0 ≤ IntKind.wrap .i64 ((↑n4 : Int) - 1)))
 (bcase (decide (IntKind.wrap .i64 ((↑n4 : Int) - 1) < (↑n4 : Int)))
 (((bcase (decide (0 ≤ IntKind.wrap .i64 ((↑n4 : Int) - 1)))
 (bcase (decide (IntKind.wrap .i64 ((↑n4 : Int) - 1) < (↑n4 : Int)))
 ((Go.Value.pointer (Option.some (Go.Addr.mk 1003 (0 + Int.toNat (IntKind.wrap .i64 ((↑n4 : Int) - 1)) * 1) Option.none))) = (Go.Value.pointer (Option.some (Go.Addr.mk 1003 (0 + Int.toNat (IntKind.wrap .i64 ((↑n4 : Int) - 1)) * 1) Option.none))))
 False)
 False) ∧
 ((bcase (decide (0 ≤ IntKind.wrap .i64 ((↑n4 : Int) - 1)))
 (bcase (decide (IntKind.wrap .i64 ((↑n4 : Int) - 1) < (↑n4 : Int)))
 ((Go.Value.pointer (Option.some (Go.Addr.mk 500 (0 + Int.toNat (IntKind.wrap .i64 ((↑n4 : Int) - 1)) * 2) Option.none))) = (Go.Value.pointer (Option.some (Go.Addr.mk 500 (0 + Int.toNat (IntKind.wrap .i64 ((↑n4 : Int) - 1)) * 2) Option.none))))
 False)
 False) ∧
 (((vI (IntKind.wrap .i64 ((↑n4 : Int) - 1))) = (vI (IntKind.wrap .i64 ((↑n4 : Int) - 1)))) ∧
 (((Go.Value.slice (Option.some (Go.Addr.mk 500 0 Option.none)) (n4) (c4)) = (Go.Value.slice (Option.some (Go.Addr.mk 500 0 Option.none)) (n4) (c4))) ∧
 (((Go.Value.pointer (Option.some (Go.Addr.mk 1000 0 Option.none))) = (Go.Value.pointer (Option.some (Go.Addr.mk 1000 0 Option.none)))) ∧
 (((vI (IntKind.wrap .i64 ((↑n4 : Int) - 1))) = (vI (IntKind.wrap .i64 ((↑n4 : Int) - 1)))) ∧
 (((Go.Value.slice (Option.some (Go.Addr.mk 1003 0 Option.none)) (n4) (n4)) = (Go.Value.slice (Option.some (Go.Addr.mk 1003 0 Option.none)) (n4) (n4))) ∧
 True))))))) ∧
 (bcase (decide (0 + Int.toNat (IntKind.wrap .i64 ((↑n4 : Int) - 1)) * 1 + 1 ≤ List.length (vI 2 :: List.append._f [] PUnit.unit (List.drop 1 out1))))
 (True ∧
 ((((n4) = (n4)) ∧
 ((List.length (listSet (vI 2 :: List.append._f [] PUnit.unit (List.drop 1 out1)) (0 + Int.toNat (IntKind.wrap .i64 ((↑n4 : Int) - 1)) * 1) [vI 0])) = (n4 * 1))) ∧
 (k [(D.sl (n4) 1 (listSet ((vI (2 : Int)) :: (List.append._f [] PUnit.unit (List.drop 1 out1))) (0 + Int.toNat (IntKind.wrap .i64 ((↑n4 : Int) - 1)) * 1) [(vI (0 : Int))])), (D.val (vI (0 : Int)))])))
 False))
 False)
 False)
 (bcase (decide (0 ≤ IntKind.wrap .i64 ((↑n4 : Int) - 1)))
 (bcase (decide (IntKind.wrap .i64 ((↑n4 : Int) - 1) < (↑n4 : Int)))
 (((bcase (decide (0 ≤ IntKind.wrap .i64 ((↑n4 : Int) - 1)))
 (bcase (decide (IntKind.wrap .i64 ((↑n4 : Int) - 1) < (↑n4 : Int)))
 ((Go.Value.pointer (Option.some (Go.Addr.mk 1003 (0 + Int.toNat (IntKind.wrap .i64 ((↑n4 : Int) - 1)) * 1) Option.none))) = (Go.Value.pointer (Option.some (Go.Addr.mk 1003 (0 + Int.toNat (IntKind.wrap .i64 ((↑n4 : Int) - 1)) * 1) Option.none))))
 False)
 False) ∧
 ((bcase (decide (0 ≤ IntKind.wrap .i64 ((↑n4 : Int) - 1)))
 (bcase (decide (IntKind.wrap .i64 ((↑n4 : Int) - 1) < (↑n4 : Int)))
 ((Go.Value.pointer (Option.some (Go.Addr.mk 500 (0 + Int.toNat (IntKind.wrap .i64 ((↑n4 : Int) - 1)) * 2) Option.none))) = (Go.Value.pointer (Option.some (Go.Addr.mk 500 (0 + Int.toNat (IntKind.wrap .i64 ((↑n4 : Int) - 1)) * 2) Option.none))))
 False)
 False) ∧
 (((vI (IntKind.wrap .i64 ((↑n4 : Int) - 1))) = (vI (IntKind.wrap .i64 ((↑n4 : Int) - 1)))) ∧
 (((Go.Value.slice (Option.some (Go.Addr.mk 500 0 Option.none)) (n4) (c4)) = (Go.Value.slice (Option.some (Go.Addr.mk 500 0 Option.none)) (n4) (c4))) ∧
 (((Go.Value.pointer (Option.some (Go.Addr.mk 1000 0 Option.none))) = (Go.Value.pointer (Option.some (Go.Addr.mk 1000 0 Option.none)))) ∧
 (((vI (IntKind.wrap .i64 ((↑n4 : Int) - 1))) = (vI (IntKind.wrap .i64 ((↑n4 : Int) - 1)))) ∧
 (((Go.Value.slice (Option.some (Go.Addr.mk 1003 0 Option.none)) (n4) (n4)) = (Go.Value.slice (Option.some (Go.Addr.mk 1003 0 Option.none)) (n4) (n4))) ∧
 True))))))) ∧
 (bcase (decide (0 + Int.toNat (IntKind.wrap .i64 ((↑n4 : Int) - 1)) * 1 + 1 ≤ List.length (vI 2 :: List.append._f [] PUnit.unit (List.drop 1 out1))))
 (True ∧
 ((((n4) = (n4)) ∧
 ((List.length (listSet (vI 2 :: List.append._f [] PUnit.unit (List.drop 1 out1)) (0 + Int.toNat (IntKind.wrap .i64 ((↑n4 : Int) - 1)) * 1) [vI 1])) = (n4 * 1))) ∧
 (k [(D.sl (n4) 1 (listSet ((vI (2 : Int)) :: (List.append._f [] PUnit.unit (List.drop 1 out1))) (0 + Int.toNat (IntKind.wrap .i64 ((↑n4 : Int) - 1)) * 1) [(vI (1 : Int))])), (D.val (vI (0 : Int)))])))
 False))
 False)
 False))))))))
 False)
 False))
 False))
 False)
 (bcase (decide (IntKind.wrap .i64 (1000000 * n7) ≤ IntKind.wrap .i64 (x0 * n8)))
 (bcase (decide (0 < (↑n4 : Int)))
 (((bcase (decide (0 < (↑n4 : Int)))
 ((Go.Value.pointer (Option.some (Go.Addr.mk 1003 0 Option.none))) = (Go.Value.pointer (Option.some (Go.Addr.mk 1003 0 Option.none))))
 False) ∧
 ((bcase (decide (0 < (↑n4 : Int)))
 ((Go.Value.pointer (Option.some (Go.Addr.mk 500 0 Option.none))) = (Go.Value.pointer (Option.some (Go.Addr.mk 500 0 Option.none))))
 False) ∧
 (((vI (0 : Int)) = (vI (0 : Int))) ∧
 (((Go.Value.slice (Option.some (Go.Addr.mk 500 0 Option.none)) (n4) (c4)) = (Go.Value.slice (Option.some (Go.Addr.mk 500 0 Option.none)) (n4) (c4))) ∧
 (((Go.Value.pointer (Option.some (Go.Addr.mk 1000 0 Option.none))) = (Go.Value.pointer (Option.some (Go.Addr.mk 1000 0 Option.none)))) ∧
 (((vI (0 : Int)) = (vI (0 : Int))) ∧
 (((Go.Value.slice (Option.some (Go.Addr.mk 1003 0 Option.none)) (n4) (n4)) = (Go.Value.slice (Option.some (Go.Addr.mk 1003 0 Option.none)) (n4) (n4))) ∧
 True))))))) ∧
 (bcase (decide (1 ≤ List.length out1))
 (True ∧
 (bcase (decide (0 ≤ IntKind.wrap .i64 ((↑n4 : Int) - 1)))
 (bcase (decide (IntKind.wrap .i64 ((↑n4 : Int) - 1) < (↑n4 : Int)))
 (∃ n9 : Int,
 (∃ n10 : Int,
 ((At (l4) (0 + Int.toNat (IntKind.wrap .i64 ((↑n4 : Int) - 1)) * 2) 2 [(vI n9), (vI n10)]) ∧
 (((∃ n11 : Int,
 (∃ n12 : Int,
 ((At (l4) (0 + Int.toNat (IntKind.wrap .i64 ((↑n4 : Int) - 1)) * 2) 2 [(vI n11), (vI n12)]) ∧
 ((Go.Value.agg [(vI n11), (vI n12)].toArray) = (Go.Value.agg [(vI n9), (vI n10)].toArray))))) ∧
 ((bcase (decide (0 ≤ IntKind.wrap .i64 ((↑n4 : Int) - 1)))
 (bcase (decide (IntKind.wrap .i64 ((↑n4 : Int) - 1) < (↑n4 : Int)))
 ((Go.Value.pointer (Option.some (Go.Addr.mk 500 (0 + Int.toNat (IntKind.wrap .i64 ((↑n4 : Int) - 1)) * 2) Option.none))) = (Go.Value.pointer (Option.some (Go.Addr.mk 500 (0 + Int.toNat (IntKind.wrap .i64 ((↑n4 : Int) - 1)) * 2) Option.none))))
 False)
 False) ∧
 (((vI (IntKind.wrap .i64 ((↑n4 : Int) - 1))) = (vI (IntKind.wrap .i64 ((↑n4 : Int) - 1)))) ∧
 (((Go.Value.slice (Option.some (Go.Addr.mk 500 0 Option.none)) (n4) (c4)) = (Go.Value.slice (Option.some (Go.Addr.mk 500 0 Option.none)) (n4) (c4))) ∧
 (((Go.Value.agg [(vI x0), (vI x1)].toArray) = (Go.Value.agg [(vI x0), (vI x1)].toArray)) ∧
 (((Go.Value.pointer (Option.some (Go.Addr.mk 1000 0 Option.none))) = (Go.Value.pointer (Option.some (Go.Addr.mk 1000 0 Option.none)))) ∧
 (((vI (IntKind.wrap .i64 ((↑n4 : Int) - 1))) = (vI (IntKind.wrap .i64 ((↑n4 : Int) - 1)))) ∧
 (((Go.Value.slice (Option.some (Go.Addr.mk 1003 0 Option.none)) (n4) (n4)) = (Go.Value.slice (Option.some (Go.Addr.mk 1003 0 Option.none)) (n4) (n4))) ∧
 True)))))))) ∧
 (((∃ n11 : Int,
 (∃ n12 : Int,
 ((At (l4) (0 + Int.toNat (IntKind.wrap .i64 ((↑n4 : Int) - 1)) * 2) 2 [(vI n11), (vI n12)]) ∧
 ((Go.Value.agg [(vI n11), (vI n12)].toArray) = (Go.Value.agg [(vI n9), (vI n10)].toArray))))) ∧
 ((bcase (decide (0 ≤ IntKind.wrap .i64 ((↑n4 : Int) - 1)))
 (bcase (decide (IntKind.wrap .i64 ((↑n4 : Int) - 1) < (↑n4 : Int)))
 ((Go.Value.pointer (Option.some (Go.Addr.mk 500 (0 + Int.toNat (IntKind.wrap .i64 ((↑n4 : Int) - 1)) * 2) Option.none))) = (Go.Value.pointer (Option.some (Go.Addr.mk 500 (0 + Int.toNat (IntKind.wrap .i64 ((↑n4 : Int) - 1)) * 2) Option.none))))
 False)
 False) ∧
 (((vI (IntKind.wrap .i64 ((↑n4 : Int) - 1))) = (vI (IntKind.wrap .i64 ((↑n4 : Int) - 1)))) ∧
 (((Go.Value.slice (Option.some (Go.Addr.mk 500 0 Option.none)) (n4) (c4)) = (Go.Value.slice (Option.some (Go.Addr.mk 500 0 Option.none)) (n4) (c4))) ∧
 (((Go.Value.pointer (Option.some (Go.Addr.mk 1000 0 Option.none))) = (Go.Value.pointer (Option.some (Go.Addr.mk 1000 0 Option.none)))) ∧
 (((vI (IntKind.wrap .i64 ((↑n4 : Int) - 1))) = (vI (IntKind.wrap .i64 ((↑n4 : Int) - 1)))) ∧
 (((Go.Value.slice (Option.some (Go.Addr.mk 1003 0 Option.none)) (n4) (n4)) = (Go.Value.slice (Option.some (Go.Addr.mk 1003 0 Option.none)) (n4) (n4))) ∧
 True))))))) ∧
 (bcase (decide (IntKind.wrap .i64 (1000000 * n9) > IntKind.wrap .i64 (x1 * n10)))
 (bcase (decide (0 ≤ IntKind.wrap .i64 ((↑n4 : Int) - 1)))
 (bcase (decide (IntKind.wrap .i64 ((↑n4 : Int) - 1) < (↑n4 : Int)))
 (((bcase (decide (0 ≤ IntKind.wrap .i64 ((↑n4 : Int) - 1)))
 (bcase (decide (IntKind.wrap .i64 ((↑n4 : Int) - 1) < (↑n4 : Int)))
 ((Go.Value.pointer (Option.some (Go.Addr.mk 1003 (0 + Int.toNat (IntKind.wrap .i64 ((↑n4 : Int) - 1)) * 1) Option.none))) = (Go.Value.pointer (Option.some (Go.Addr.mk 1003 (0 + Int.toNat (IntKind.wrap .i64 ((↑n4 : Int) - 1)) * 1) Option.none))))
 False)
 False) ∧
 ((bcase (decide (0 ≤ IntKind.wrap .i64 ((↑n4 : Int) - 1)))
 (bcase (decide (IntKind.wrap .i64 ((↑n4 : Int) - 1) < (↑n4 : Int)))
 ((Go.Value.pointer (Option.some (Go.Addr.mk 500 (0 + Int.toNat (IntKind.wrap .i64 ((↑n4 : Int) - 1)) * 2) Option.none))) = (Go.Value.pointer (Option.some (Go.Addr.mk 500 (0 + Int.toNat (IntKind.wrap .i64 ((↑n4 : Int) - 1)) * 2) Option.none))))
 False)
 False) ∧
 (((vI (IntKind.wrap .i64 ((↑n4 : Int) - 1))) = (vI (IntKind.wrap .i64 ((↑n4 : Int) - 1)))) ∧
 (((Go.Value.slice (Option.some (Go.Addr.mk 500 0 Option.none)) (n4) (c4)) = (Go.Value.slice (Option.some (Go.Addr.mk 500 0 Option.none)) (n4) (c4))) ∧
 (((Go.Value.pointer (Option.some (Go.Addr.mk 1000 0 Option.none))) = (Go.Value.pointer (Option.some (Go.Addr.mk 1000 0 Option.none)))) ∧
 (((vI (IntKind.wrap .i64 ((↑n4 : Int) - 1))) = (vI (IntKind.wrap .i64 ((↑n4 : Int) - 1)))) ∧
 (((Go.Value.slice (Option.some (Go.Addr.mk 1003 0 Option.none)) (n4) (n4)) = (Go.Value.slice (Option.some (Go.Addr.mk 1003 0 Option.none)) (n4) (n4))) ∧
 True))))))) ∧
 (bcase (decide (0 + Int.toNat (IntKind.wrap .i64 ((↑n4 : Int) - 1)) * 1 + 1 ≤ List.length (vI 0 :: List.append._f [] PUnit.unit (List.drop 1 out1))))
 (True ∧
 ((((n4) = (n4)) ∧
 ((List.length (listSet (vI 0 :: List.append._f [] PUnit.unit (List.drop 1 out1)) (0 + Int.toNat (IntKind.wrap .i64 ((↑n4 : Int) - 1)) * 1) [vI 2])) = (n4 * 1))) ∧
 (k [(D.sl (n4) 1 (listSet ((vI (0 : Int)) :: (List.append._f [] PUnit.unit (List.drop 1 out1))) (0 + Int.toNat (IntKind.wrap .i64 ((↑n4 : Int) - 1)) * 1) [(vI (2 : Int))])), (D.val (vI (0 : Int)))])))
 False))
 False)
 False)
 (bcase (decide (IntKind.wrap .i64 (1000000 * n9) ≤ IntKind.wrap .i64 (x0 * n10)))
 (bcase (decide (0 ≤ IntKind.wrap .i64 ((↑n4 : Int) - 1)))
 (bcase (decide (IntKind.wrap .i64 ((↑n4 : Int) - 1) < (↑n4 : Int)))
 (((bcase (decide (0 ≤ IntKind.wrap .i64 ((↑n4 : Int) - 1)))
 (bcase (decide (IntKind.wrap .i64 ((↑n4 : Int) - 1) < (↑n4 : Int)))
 ((Go.Value.pointer (Option.some (Go.Addr.mk 1003 (0 + Int.toNat (IntKind.wrap .i64 ((↑n4 : Int) - 1)) * 1) Option.none))) = (Go.Value.pointer (Option.some (Go.Addr.mk 1003 (0 + Int.toNat (IntKind.wrap .i64 ((↑n4 : Int) - 1)) * 1) Option.none))))
 False)
 False) ∧
 ((bcase (decide (0 ≤ IntKind.wrap .i64 ((↑n4 : Int) - 1)))
 (bcase (decide (IntKind.wrap .i64 ((↑n4 : Int) - 1) < (↑n4 : Int)))
 ((Go.Value.pointer (Option.some (Go.Addr.mk 500 (0 + Int.toNat (IntKind.wrap .i64 ((↑n4 : Int) - 1)) * 2) Option.none))) = (Go.Value.pointer (Option.some (Go.Addr.mk 500 (0 + Int.toNat (IntKind.wrap .i64 ((↑n4 : Int) - 1)) * 2) Option.none))))
 False)
 False) ∧
 (((vI (IntKind.wrap .i64 ((↑n4 : Int) - 1))) = (vI (IntKind.wrap .i64 ((↑n4 : Int) - 1)))) ∧
 (((Go.Value.slice (Option.some (Go.Addr.mk 500 0 Option.none)) (n4) (c4)) = (Go.Value.slice (Option.some (Go.Addr.mk 500 0 Option.none)) (n4) (c4))) ∧
 (((Go.Value.pointer (Option.some (Go.Addr.mk 1000 0 Option.none))) = (Go.Value.pointer (Option.some (Go.Addr.mk 1000 0 Option.none)))) ∧
 (((vI (IntKind.wrap .i64 ((↑n4 : Int) - 1))) = (vI (IntKind.wrap .i64 ((↑n4 : Int) - 1)))) ∧
 (((Go.Value.slice (Option.some (Go.Addr.mk 1003 0 Option.none)) (n4) (n4)) = (Go.Value.slice (Option.some (Go.Addr.mk 1003 0 Option.none)) (n4) (n4))) ∧
 True))))))) ∧
 (bcase (decide (0 + Int.toNat (IntKind.wrap .i64 ((↑n4 : Int) - 1)) * 1 + 1 ≤ List.length (vI 0 :: List.append._f [] PUnit.unit (List.drop 1 out1))))
 (True ∧
 ((((n4) = (n4)) ∧
 ((List.length (listSet (vI 0 :: List.append._f [] PUnit.unit (List.drop 1 out1)) (0 + Int.toNat (IntKind.wrap .i64 ((↑n4 : Int) - 1)) * 1) [vI 0])) = (n4 * 1))) ∧
 (k [(D.sl (n4) 1 (listSet ((vI (0 : Int)) :: (List.append._f [] PUnit.unit (List.drop 1 out1))) (0 + Int.toNat (IntKind.wrap .i64 ((↑n4 : Int) - 1)) * 1) [(vI (0 : Int))])), (D.val (vI (0 : Int)))])))
 False))
 False)
 False)
 (bcase (decide (0 ≤ IntKind.wrap .i64 ((↑n4 : Int) - 1)))
 (bcase (decide (IntKind.wrap .i64 ((↑n4 : Int) - 1) < (↑n4 : Int)))
 (((bcase (decide (0 ≤ IntKind.wrap .i64 ((↑n4 : Int) - 1)))
 (bcase (decide (IntKind.wrap .i64 ((↑n4 : Int) - 1) < (↑n4 : Int)))
 ((Go.Value.pointer (Option.some (Go.Addr.mk 1003 (0 + Int.toNat (IntKind.wrap .i64 ((↑n4 : Int) - 1)) * 1) Option.none))) = (Go.Value.pointer (Option.some (Go.Addr.mk 1003 (0 + Int.toNat (IntKind.wrap .i64 ((↑n4 : Int) - 1)) * 1) Option.none))))
 False)
 False) ∧
 ((bcase (decide (0 ≤ IntKind.wrap .i64 ((↑n4 : Int) - 1)))
 (bcase (decide (IntKind.wrap .i64 ((↑n4 : Int) - 1) < (↑n4 : Int)))
 ((Go.Value.pointer (Option.some (Go.Addr.mk 500 (0 + Int.toNat (IntKind.wrap .i64 ((↑n4 : Int) - 1)) * 2) Option.none))) = (Go.Value.pointer (Option.some (Go.Addr.mk 500 (0 + Int.toNat (IntKind.wrap .i64 ((↑n4 : Int) - 1)) * 2) Option.none))))
 False)
 False) ∧
 (((vI (IntKind.wrap .i64 ((↑n4 : Int) - 1))) = (vI (IntKind.wrap .i64 ((↑n4 : Int) - 1)))) ∧
 (((Go.Value.slice (Option.some (Go.Addr.mk 500 0 Option.none)) (n4) (c4)) = (Go.Value.slice (Option.some (Go.Addr.mk 500 0 Option.none)) (n4) (c4))) ∧
 (((Go.Value.pointer (Option.some (Go.Addr.mk 1000 0 Option.none))) = (Go.Value.pointer (Option.some (Go.Addr.mk 1000 0 Option.none)))) ∧
 (((vI (IntKind.wrap .i64 ((↑n4 : Int) - 1))) = (vI (IntKind.wrap .i64 ((↑n4 : Int) - 1)))) ∧
 (((Go.Value.slice (Option.some (Go.Addr.mk 1003 0 Option.none)) (n4) (n4)) = (Go.Value.slice (Option.some (Go.Addr.mk 1003 0 Option.none)) (n4) (n4))) ∧
 True))))))) ∧
 (bcase (decide (0 + Int.toNat (IntKind.wrap .i64 ((↑n4 : Int) - 1)) * 1 + 1 ≤ List.length (vI 0 :: List.append._f [] PUnit.unit (List.drop 1 out1))))
 (True ∧
 ((((n4) = (n4)) ∧
 ((List.length (listSet (vI 0 :: List.append._f [] PUnit.unit (List.drop 1 out1)) (0 + Int.toNat (IntKind.wrap .i64 ((↑n4 : Int) - 1)) * 1) [vI 1])) = (n4 * 1))) ∧
 (k [(D.sl (n4) 1 (listSet ((vI (0 : Int)) :: (List.append._f [] PUnit.unit (List.drop 1 out1))) (0 + Int.toNat (IntKind.wrap .i64 ((↑n4 : Int) - 1)) * 1) [(vI (1 : Int))])), (D.val (vI (0 : Int)))])))
 False))
 False)
 False))))))))
 False)
 False))
 False))
 False)
 (bcase (decide (0 < (↑n4 : Int)))
 (((bcase (decide (0 < (↑n4 : Int)))
 ((Go.Value.pointer (Option.some (Go.Addr.mk 1003 0 Option.none))) = (Go.Value.pointer (Option.some (Go.Addr.mk 1003 0 Option.none))))
 False) ∧
 ((bcase (decide (0 < (↑n4 : Int)))
 ((Go.Value.pointer (Option.some (Go.Addr.mk 500 0 Option.none))) = (Go.Value.pointer (Option.some (Go.Addr.mk 500 0 Option.none))))
 False) ∧
 (((vI (0 : Int)) = (vI (0 : Int))) ∧
 (((Go.Value.slice (Option.some (Go.Addr.mk 500 0 Option.none)) (n4) (c4)) = (Go.Value.slice (Option.some (Go.Addr.mk 500 0 Option.none)) (n4) (c4))) ∧
 (((Go.Value.pointer (Option.some (Go.Addr.mk 1000 0 Option.none))) = (Go.Value.pointer (Option.some (Go.Addr.mk 1000 0 Option.none)))) ∧
 (((vI (0 : Int)) = (vI (0 : Int))) ∧
 (((Go.Value.slice (Option.some (Go.Addr.mk 1003 0 Option.none)) (n4) (n4)) = (Go.Value.slice (Option.some (Go.Addr.mk 1003 0 Option.none)) (n4) (n4))) ∧
 True))))))) ∧
 (bcase (decide (1 ≤ List.length out1))
 (True ∧
 (bcase (decide (0 ≤ IntKind.wrap .i64 ((↑n4 : Int) - 1)))
 (bcase (decide (IntKind.wrap .i64 ((↑n4 : Int) - 1) < (↑n4 : Int)))
 (∃ n9 : Int,
 (∃ n10 : Int,
 ((At (l4) (0 + Int.toNat (IntKind.wrap .i64 ((↑n4 : Int) - 1)) * 2) 2 [(vI n9), (vI n10)]) ∧
 (((∃ n11 : Int,
 (∃ n12 : Int,
 ((At (l4) (0 + Int.toNat (IntKind.wrap .i64 ((↑n4 : Int) - 1)) * 2) 2 [(vI n11), (vI n12)]) ∧
 ((Go.Value.agg [(vI n11), (vI n12)].toArray) = (Go.Value.agg [(vI n9), (vI n10)].toArray))))) ∧
 ((bcase (decide (0 ≤ IntKind.wrap .i64 ((↑n4 : Int) - 1)))
 (bcase (decide (IntKind.wrap .i64 ((↑n4 : Int) - 1) < (↑n4 : Int)))
 ((Go.Value.pointer (Option.some (Go.Addr.mk 500 (0 + Int.toNat (IntKind.wrap .i64 ((↑n4 : Int) - 1)) * 2) Option.none))) = (Go.Value.pointer (Option.some (Go.Addr.mk 500 (0 + Int.toNat (IntKind.wrap .i64 ((↑n4 : Int) - 1)) * 2) Option.none))))
 False)
 False) ∧
 (((vI (IntKind.wrap .i64 ((↑n4 : Int) - 1))) = (vI (IntKind.wrap .i64 ((↑n4 : Int) - 1)))) ∧
 (((Go.Value.slice (Option.some (Go.Addr.mk 500 0 Option.none)) (n4) (c4)) = (Go.Value.slice (Option.some (Go.Addr.mk 500 0 Option.none)) (n4) (c4))) ∧
 (((Go.Value.agg [(vI x0), (vI x1)].toArray) = (Go.Value.agg [(vI x0), (vI x1)].toArray)) ∧
 (((Go.Value.pointer (Option.some (Go.Addr.mk 1000 0 Option.none))) = (Go.Value.pointer (Option.some (Go.Addr.mk 1000 0 Option.none)))) ∧
 (((vI (IntKind.wrap .i64 ((↑n4 : Int) - 1))) = (vI (IntKind.wrap .i64 ((↑n4 : Int) - 1)))) ∧
 (((Go.Value.slice (Option.some (Go.Addr.mk 1003 0 Option.none)) (n4) (n4)) = (Go.Value.slice (Option.some (Go.Addr.mk 1003 0 Option.none)) (n4) (n4))) ∧
 True)))))))) ∧
 (((∃ n11 : Int,
 (∃ n12 : Int,
 ((At (l4) (0 + Int.toNat (IntKind.wrap .i64 ((↑n4 : Int) - 1)) * 2) 2 [(vI n11), (vI n12)]) ∧
 ((Go.Value.agg [(vI n11), (vI n12)].toArray) = (Go.Value.agg [(vI n9), (vI n10)].toArray))))) ∧
 ((bcase (decide (0 ≤ IntKind.wrap .i64 ((↑n4 : Int) - 1)))
 (bcase (decide (IntKind.wrap .i64 ((↑n4 : Int) - 1) < (↑n4 : Int)))
 ((Go.Value.pointer (Option.some (Go.Addr.mk 500 (0 + Int.toNat (IntKind.wrap .i64 ((↑n4 : Int) - 1)) * 2) Option.none))) = (Go.Value.pointer (Option.some (Go.Addr.mk 500 (0 + Int.toNat (IntKind.wrap .i64 ((↑n4 : Int) - 1)) * 2) Option.none))))
 False)
 False) ∧
 (((vI (IntKind.wrap .i64 ((↑n4 : Int) - 1))) = (vI (IntKind.wrap .i64 ((↑n4 : Int) - 1)))) ∧
 (((Go.Value.slice (Option.some (Go.Addr.mk 500 0 Option.none)) (n4) (c4)) = (Go.Value.slice (Option.some (Go.Addr.mk 500 0 Option.none)) (n4) (c4))) ∧
 (((Go.Value.pointer (Option.some (Go.Addr.mk 1000 0 Option.none))) = (Go.Value.pointer (Option.some (Go.Addr.mk 1000 0 Option.none)))) ∧
 (((vI (IntKind.wrap .i64 ((↑n4 : Int) - 1))) = (vI (IntKind.wrap .i64 ((↑n4 : Int) - 1)))) ∧
 (((Go.Value.slice (Option.some (Go.Addr.mk 1003 0 Option.none)) (n4) (n4)) = (Go.Value.slice (Option.some (Go.Addr.mk 1003 0 Option.none)) (n4) (n4))) ∧
 True))))))) ∧
 (bcase (decide (IntKind.wrap .i64 (1000000 * n9) > IntKind.wrap .i64 (x1 * n10)))
 (bcase (decide (0 ≤ IntKind.wrap .i64 ((↑n4 : Int) - 1)))
 (bcase (decide (IntKind.wrap .i64 ((↑n4 : Int) - 1) < (↑n4 : Int)))
 (((bcase (decide (0 ≤ IntKind.wrap .i64 ((↑n4 : Int) - 1)))
 (bcase (decide (IntKind.wrap .i64 ((↑n4 : Int) - 1) < (↑n4 : Int)))
 ((Go.Value.pointer (Option.some (Go.Addr.mk 1003 (0 + Int.toNat (IntKind.wrap .i64 ((↑n4 : Int) - 1)) * 1) Option.none))) = (Go.Value.pointer (Option.some (Go.Addr.mk 1003 (0 + Int.toNat (IntKind.wrap .i64 ((↑n4 : Int) - 1)) * 1) Option.none))))
 False)
 False) ∧
 ((bcase (decide (0 ≤ IntKind.wrap .i64 ((↑n4 : Int) - 1)))
 (bcase (decide (IntKind.wrap .i64 ((↑n4 : Int) - 1) < (↑n4 : Int)))
 ((Go.Value.pointer (Option.some (Go.Addr.mk 500 (0 + Int.toNat (IntKind.wrap .i64 ((↑n4 : Int) - 1)) * 2) Option.none))) = (Go.Value.pointer (Option.some (Go.Addr.mk 500 (0 + Int.toNat (IntKind.wrap .i64 ((↑n4 : Int) - 1)) * 2) Option.none))))
 False)
 False) ∧
 (((vI (IntKind.wrap .i64 ((↑n4 : Int) - 1))) = (vI (IntKind.wrap .i64 ((↑n4 : Int) - 1)))) ∧
 (((Go.Value.slice (Option.some (Go.Addr.mk 500 0 Option.none)) (n4) (c4)) = (Go.Value.slice (Option.some (Go.Addr.mk 500 0 Option.none)) (n4) (c4))) ∧
 (((Go.Value.pointer (Option.some (Go.Addr.mk 1000 0 Option.none))) = (Go.Value.pointer (Option.some (Go.Addr.mk 1000 0 Option.none)))) ∧
 (((vI (IntKind.wrap .i64 ((↑n4 : Int) - 1))) = (vI (IntKind.wrap .i64 ((↑n4 : Int) - 1)))) ∧
 (((Go.Value.slice (Option.some (Go.Addr.mk 1003 0 Option.none)) (n4) (n4)) = (Go.Value.slice (Option.some (Go.Addr.mk 1003 0 Option.none)) (n4) (n4))) ∧
 True))))))) ∧
 (bcase (decide (0 + Int.toNat (IntKind.wrap .i64 ((↑n4 : Int) - 1)) * 1 + 1 ≤ List.length (vI 1 :: List.append._f [] PUnit.unit (List.drop 1 out1))))
 (True ∧
 ((((n4) = (n4)) ∧
 ((List.length (listSet (vI 1 :: List.append._f [] PUnit.unit (List.drop 1 out1)) (0 + Int.toNat (IntKind.wrap .i64 ((↑n4 : Int) - 1)) * 1) [vI 2])) = (n4 * 1))) ∧
 (k [(D.sl (n4) 1 (listSet ((vI (1 : Int)) :: (List.append._f [] PUnit.unit (List.drop 1 out1))) (0 + Int.toNat (IntKind.wrap .i64 ((↑n4 : Int) - 1)) * 1) [(vI (2 : Int))])), (D.val (vI (0 : Int)))])))
 False))
 False)
 False)
 (bcase (decide (IntKind.wrap .i64 (1000000 * n9) ≤ IntKind.wrap .i64 (x0 * n10)))
 (bcase (decide (0 ≤ IntKind.wrap .i64 ((↑n4 : Int) - 1)))
 (bcase (decide (IntKind.wrap .i64 ((↑n4 : Int) - 1) < (↑n4 : Int)))
 (((bcase (decide (0 ≤ IntKind.wrap .i64 ((↑n4 : Int) - 1)))
 (bcase (decide (IntKind.wrap .i64 ((↑n4 : Int) - 1) < (↑n4 : Int)))
 ((Go.Value.pointer (Option.some (Go.Addr.mk 1003 (0 + Int.toNat (IntKind.wrap .i64 ((↑n4 : Int) - 1)) * 1) Option.none))) = (Go.Value.pointer (Option.some (Go.Addr.mk 1003 (0 + Int.toNat (IntKind.wrap .i64 ((↑n4 : Int) - 1)) * 1) Option.none))))
 False)
 False) ∧
 ((bcase (decide (0 ≤ IntKind.wrap .i64 ((↑n4 : Int) - 1)))
 (bcase (decide (IntKind.wrap .i64 ((↑n4 : Int) - 1) < (↑n4 : Int)))
 ((Go.Value.pointer (Option.some (Go.Addr.mk 500 (0 + Int.toNat (IntKind.wrap .i64 ((↑n4 : Int) - 1)) * 2) Option.none))) = (Go.Value.pointer (Option.some (Go.Addr.mk 500 (0 + Int.toNat (IntKind.wrap .i64 ((↑n4 : Int) - 1)) * 2) Option.none))))
 False)
 False) ∧
 (((vI (IntKind.wrap .i64 ((↑n4 : Int) - 1))) = (vI (IntKind.wrap .i64 ((↑n4 : Int) - 1)))) ∧
 (((Go.Value.slice (Option.some (Go.Addr.mk 500 0 Option.none)) (n4) (c4)) = (Go.Value.slice (Option.some (Go.Addr.mk 500 0 Option.none)) (n4) (c4))) ∧
 (((Go.Value.pointer (Option.some (Go.Addr.mk 1000 0 Option.none))) = (Go.Value.pointer (Option.some (Go.Addr.mk 1000 0 Option.none)))) ∧
 (((vI (IntKind.wrap .i64 ((↑n4 : Int) - 1))) = (vI (IntKind.wrap .i64 ((↑n4 : Int) - 1)))) ∧
 (((Go.Value.slice (Option.some (Go.Addr.mk 1003 0 Option.none)) (n4) (n4)) = (Go.Value.slice (Option.some (Go.Addr.mk 1003 0 Option.none)) (n4) (n4))) ∧
 True))))))) ∧
 (bcase (decide (0 + Int.toNat (IntKind.wrap .i64 ((↑n4 : Int) - 1)) * 1 + 1 ≤ List.length (vI 1 :: List.append._f [] PUnit.unit (List.drop 1 out1))))
 (True ∧
 ((((n4) = (n4)) ∧
 ((List.length (listSet (vI 1 :: List.append._f [] PUnit.unit (List.drop 1 out1)) (0 + Int.toNat (IntKind.wrap .i64 ((↑n4 : Int) - 1)) * 1) [vI 0])) = (n4 * 1))) ∧
 (k [(D.sl (n4) 1 (listSet ((vI (1 : Int)) :: (List.append._f [] PUnit.unit (List.drop 1 out1))) (0 + Int.toNat (IntKind.wrap .i64 ((↑n4 : Int) - 1)) * 1) [(vI (0 : Int))])), (D.val (vI (0 : Int)))])))
 False))
 False)
 False)
 (bcase (decide (0 ≤ IntKind.wrap .i64 ((↑n4 : Int) - 1)))
 (bcase (decide (IntKind.wrap .i64 ((↑n4 : Int) - 1) < (↑n4 : Int)))
 (((bcase (decide (0 ≤ IntKind.wrap .i64 ((↑n4 : Int) - 1)))
 (bcase (decide (IntKind.wrap .i64 ((↑n4 : Int) - 1) < (↑n4 : Int)))
 ((Go.Value.pointer (Option.some (Go.Addr.mk 1003 (0 + Int.toNat (IntKind.wrap .i64 ((↑n4 : Int) - 1)) * 1) Option.none))) = (Go.Value.pointer (Option.some (Go.Addr.mk 1003 (0 + Int.toNat (IntKind.wrap .i64 ((↑n4 : Int) - 1)) * 1) Option.none))))
 False)
 False) ∧
 ((bcase (decide (0 ≤ IntKind.wrap .i64 ((↑n4 : Int) - 1)))
 (bcase (decide (IntKind.wrap .i64 ((↑n4 : Int) - 1) < (↑n4 : Int)))
 ((Go.Value.pointer (Option.some (Go.Addr.mk 500 (0 + Int.toNat (IntKind.wrap .i64 ((↑n4 : Int) - 1)) * 2) Option.none))) = (Go.Value.pointer (Option.some (Go.Addr.mk 500 (0 + Int.toNat (IntKind.wrap .i64 ((↑n4 : Int) - 1)) * 2) Option.none))))
 False)
 False) ∧
 (((vI (IntKind.wrap .i64 ((↑n4 : Int) - 1))) = (vI (IntKind.wrap .i64 ((↑n4 : Int) - 1)))) ∧
 (((Go.Value.slice (Option.some (Go.Addr.mk 500 0 Option.none)) (n4) (c4)) = (Go.Value.slice (Option.some (Go.Addr.mk 500 0 Option.none)) (n4) (c4))) ∧
 (((Go.Value.pointer (Option.some (Go.Addr.mk 1000 0 Option.none))) = (Go.Value.pointer (Option.some (Go.Addr.mk 1000 0 Option.none)))) ∧
 (((vI (IntKind.wrap .i64 ((↑n4 : Int) - 1))) = (vI (IntKind.wrap .i64 ((↑n4 : Int) - 1)))) ∧
 (((Go.Value.slice (Option.some (Go.Addr.mk 1003 0 Option.none)) (n4) (n4)) = (Go.Value.slice (Option.some (Go.Addr.mk 1003 0 Option.none)) (n4) (n4))) ∧
 True))))))) ∧
 (bcase (decide (0 + Int.toNat (IntKind.wrap .i64 ((↑n4 : Int) - 1)) * 1 + 1 ≤ List.length (vI 1 :: List.append._f [] PUnit.unit (List.drop 1 out1))))
 (True ∧
 ((((n4) = (n4)) ∧
 ((List.length (listSet (vI 1 :: List.append._f [] PUnit.unit (List.drop 1 out1)) (0 + Int.toNat (IntKind.wrap .i64 ((↑n4 : Int) - 1)) * 1) [vI 1])) = (n4 * 1))) ∧
 (k [(D.sl (n4) 1 (listSet ((vI (1 : Int)) :: (List.append._f [] PUnit.unit (List.drop 1 out1))) (0 + Int.toNat (IntKind.wrap .i64 ((↑n4 : Int) - 1)) * 1) [(vI (1 : Int))])), (D.val (vI (0 : Int)))])))
 False))
 False)
 False))))))))
 False)
 False))
 False))
 False))))))))
 False)))))))))))))))
 False) := by kernel_rfl
def gHA (C : Ct) (L : AtLoop) (n0 : Nat) (c0 : Nat) (l0 : List Value) (x1 : Int) (k : List D → Prop) : Prop := wpFn Try.prog (hU C) L 0 50 #[.slice (some ⟨500, 0, none⟩) n0 c0, .int .i64 x1] (heapOf [(500, .sym l0 false 2)]) (dataK k)
theorem gHA_text (C : Ct) (L : AtLoop) (n0 : Nat) (c0 : Nat) (l0 : List Go.Value) (x1 : Int) (k : List D → Prop) : gHA C L n0 c0 l0 x1 k =
 (bcase (decide (0 + n0 * 2 ≤ List.length l0))
 (∃ n1 : Int,
 (∃ n2 : Int,
 ((Says C 48 [(D.sl (n0) 2 (List.take (n0 * 2) (List.drop 0 l0)))] [(D.val (vI n1)), (D.val (vI n2))]) ∧
 (bcase (n2 != 0)
 (k [(D.agg [(D.val (vI (0 : Int))), (D.val (vI (0 : Int)))]), (D.val (vI n2))])
 (L 0 [(Prod.mk 0 (Go.Value.slice (Option.some (Go.Addr.mk 500 0 Option.none)) (n0) (c0))), (Prod.mk 1 (vI x1)), (Prod.mk 4 (Go.Value.pointer (Option.some (Go.Addr.mk 1000 0 Option.none)))), (Prod.mk 21 (vI (IntKind.wrap .i64 ((↑n0 : Int) - 1)))), (Prod.mk 22 (vI (0 : Int)))] [(Prod.mk 500 (AObj.sym (l0) false 2)), (Prod.mk 1000 (AObj.cells [(vI (0 : Int)), (vI (0 : Int))] 26 false 2))])))))
 False) := by kernel_rfl
abbrev zHA1 (n0 : Nat) (c1 : Nat) (x2 : Int) (x3 : Int) (x4 : Int) (l5 : List Value) (x6 : Int) (x7 : Int) : Slots × Blocks := ([(0, (Value.slice (some ⟨500, 0, none⟩) n0 c1)), (1, (Value.int .i64 x2)), (4, (Value.pointer (some ⟨1000, 0, none⟩))), (21, (Value.int .i64 x3)), (22, (Value.int .i64 x4))], [(500, (AObj.sym l5 false 2)), (1000, (AObj.cells [(Value.int .i64 x6), (Value.int .i64 x7)] 26 false 2))])
def rHA1 (C : Ct) (L : AtLoop) (n0 : Nat) (c1 : Nat) (x2 : Int) (x3 : Int) (x4 : Int) (l5 : List Value) (x6 : Int) (x7 : Int) (B : Bx) (X : Xx) (k : List D → Prop) : Prop := wpRound Try.prog (hU C) L 50 0 [(0, (Value.slice (some ⟨500, 0, none⟩) n0 c1)), (1, (Value.int .i64 x2)), (4, (Value.pointer (some ⟨1000, 0, none⟩))), (21, (Value.int .i64 x3)), (22, (Value.int .i64 x4))] [(500, (AObj.sym l5 false 2)), (1000, (AObj.cells [(Value.int .i64 x6), (Value.int .i64 x7)] 26 false 2))] B X (dataK k)
theorem rHA1_text (C : Ct) (L : AtLoop) (n0 : Nat) (c1 : Nat) (x2 : Int) (x3 : Int) (x4 : Int) (l5 : List Go.Value) (x6 : Int) (x7 : Int) (B : Bx) (X : Xx) (k : List D → Prop) : rHA1 C L n0 c1 x2 x3 x4 l5 x6 x7 B X k =
 (bcase (decide (x4 < x3))
 (bcase (decide (0 ≤ IntKind.wrap .i64 (x4 + 2)))
 (bcase (decide (IntKind.wrap .i64 (x4 + 2) ≤ (↑c1 : Int)))
 (bcase (decide (0 ≤ x4))
 (bcase (decide (x4 ≤ (↑(Int.toNat (IntKind.wrap .i64 (x4 + 2))) : Int)))
 (bcase (c1 == Int.toNat x4)
 (bcase (decide (2 ≤ Int.toNat (IntKind.wrap .i64 (x4 + 2)) - Int.toNat x4))
 (∃ n1 : Int,
 (∃ n2 : Int,
 (∃ n3 : Int,
 (∃ n4 : Int,
 ((At (l5) 0 4 [(vI n1), (vI n2), (vI n3), (vI n4)]) ∧
 (((Says C 99 [(D.agg [(D.val (vI n1)), (D.val (vI n2)), (D.val (vI n3)), (D.val (vI n4))]), (D.val (vI x2))] [(D.val (Value.bool true))]) ∧
 (∃ n5 : Int,
 (∃ n6 : Int,
 ((Says C 100 [(D.agg [(D.val (vI n1)), (D.val (vI n2)), (D.val (vI n3)), (D.val (vI n4))]), (D.val (vI x2))] [(D.agg [(D.val (vI n5)), (D.val (vI n6))])]) ∧
 (k [(D.agg [(D.val (vI n5)), (D.val (vI n6))]), (D.val (vI (0 : Int)))]))))) ∨
 ((Says C 99 [(D.agg [(D.val (vI n1)), (D.val (vI n2)), (D.val (vI n3)), (D.val (vI n4))]), (D.val (vI x2))] [(D.val (Value.bool false))]) ∧
 (B [(Prod.mk 0 (Go.Value.slice (Option.some (Go.Addr.mk 500 0 Option.none)) (n0) (c1))), (Prod.mk 1 (vI x2)), (Prod.mk 4 (Go.Value.pointer (Option.some (Go.Addr.mk 1000 0 Option.none)))), (Prod.mk 21 (vI x3)), (Prod.mk 22 (vI (IntKind.wrap .i64 (x4 + 1))))] [(Prod.mk 500 (AObj.sym (l5) false 2)), (Prod.mk 1000 (AObj.cells [(vI x6), (vI x7)] 26 false 2))]))))))))
 False)
 (bcase (decide (2 ≤ Int.toNat (IntKind.wrap .i64 (x4 + 2)) - Int.toNat x4))
 (∃ n1 : Int,
 (∃ n2 : Int,
 (∃ n3 : Int,
 (∃ n4 : Int,
 ((At (l5) (0 + Int.toNat x4 * 2) 4 [(vI n1), (vI n2), (vI n3), (vI n4)]) ∧
 (((Says C 99 [(D.agg [(D.val (vI n1)), (D.val (vI n2)), (D.val (vI n3)), (D.val (vI n4))]), (D.val (vI x2))] [(D.val (Value.bool true))]) ∧
 (∃ n5 : Int,
 (∃ n6 : Int,
 ((Says C 100 [(D.agg [(D.val (vI n1)), (D.val (vI n2)), (D.val (vI n3)), (D.val (vI n4))]), (D.val (vI x2))] [(D.agg [(D.val (vI n5)), (D.val (vI n6))])]) ∧
 (k [(D.agg [(D.val (vI n5)), (D.val (vI n6))]), (D.val (vI (0 : Int)))]))))) ∨
 ((Says C 99 [(D.agg [(D.val (vI n1)), (D.val (vI n2)), (D.val (vI n3)), (D.val (vI n4))]), (D.val (vI x2))] [(D.val (Value.bool false))]) ∧
 (B [(Prod.mk 0 (Go.Value.slice (Option.some (Go.Addr.mk 500 0 Option.none)) (n0) (c1))), (Prod.mk 1 (vI x2)), (Prod.mk 4 (Go.Value.pointer (Option.some (Go.Addr.mk 1000 0 Option.none)))), (Prod.mk 21 (vI x3)), (Prod.mk 22 (vI (IntKind.wrap .i64 (x4 + 1))))] [(Prod.mk 500 (AObj.sym (l5) false 2)), (Prod.mk 1000 (AObj.cells [(vI x6), (vI x7)] 26 false 2))]))))))))
 False))
 False)
 False)
 False)
 False)
 (X 0 [(Prod.mk 4 (Go.Value.pointer (Option.some (Go.Addr.mk 1000 0 Option.none))))] [(Prod.mk 1000 (AObj.cells [(vI x6), (vI x7)] 26 false 2))])) := by kernel_rfl
def nHA2 (C : Ct) (L : AtLoop) (x0 : Int) (x1 : Int) (k : List D → Prop) : Prop := wpNext Try.prog (hU C) L 50 0 .normal [(4, (Value.pointer (some ⟨1000, 0, none⟩)))] [(1000, (AObj.cells [(Value.int .i64 x0), (Value.int .i64 x1)] 26 false 2))] (dataK k)
theorem nHA2_text (C : Ct) (L : AtLoop) (x0 : Int) (x1 : Int) (k : List D → Prop) : nHA2 C L x0 x1 k =
 (k [(D.agg [(D.val (vI (0 : Int))), (D.val (vI (0 : Int)))]), (D.val (vI (21 : Int)))]) := by kernel_rfl
def gRWo (C : Ct) (L : AtLoop) (n0 : Nat) (c0 : Nat) (l0 : List Value) (n1 : Nat) (c1 : Nat) (l1 : List Value) (k : List D → Prop) : Prop := jFn Try.prog (hU C) L [] 55 #[.slice (some ⟨500, 0, none⟩) n0 c0, .slice (some ⟨501, 0, none⟩) n1 c1] (heapOf [(500, .sym l0 false 2), (501, .sym l1 false 3)]) (dataK k)
theorem gRWo_text (C : Ct) (L : AtLoop) (n0 : Nat) (c0 : Nat) (l0 : List Go.Value) (n1 : Nat) (c1 : Nat) (l1 : List Go.Value) (k : List D → Prop) : gRWo C L n0 c0 l0 n1 c1 l1 k =
 (bcase (decide ((↑n1 : Int) > 20))
 (k [D.nil, (D.val (vI (8 : Int)))])
 (bcase (decide (0 + n0 * 2 ≤ List.length l0))
 ((Says C 49 [(D.sl (n0) 2 (List.take (n0 * 2) (List.drop 0 l0)))] [(D.sl (n0) 2 (List.take (n0 * 2) (List.drop 0 l0)))]) ∧
 (L 0 [(Prod.mk 1 (Go.Value.slice (Option.some (Go.Addr.mk 501 0 Option.none)) (n1) (c1))), (Prod.mk 6 (Go.Value.slice (Option.some (Go.Addr.mk 1000 0 Option.none)) (n0) (n0))), (Prod.mk 7 (vI (0 : Int)))] [(Prod.mk 501 (AObj.sym (l1) false 3)), (Prod.mk 1000 (AObj.sym (List.take (n0 * 2) (List.drop 0 l0)) true 2))]))
 False)) := by kernel_rfl
abbrev zRWo1 (n0 : Nat) (c1 : Nat) (n2 : Nat) (x3 : Int) (l4 : List Value) (l5 : List Value) : Slots × Blocks := ([(1, (Value.slice (some ⟨501, 0, none⟩) n0 c1)), (6, (Value.slice (some ⟨1000, 0, none⟩) n2 n2)), (7, (Value.int .i64 x3))], [(501, (AObj.sym l4 false 3)), (1000, (AObj.sym l5 true 2))])
def rRWo1 (C : Ct) (L : AtLoop) (n0 : Nat) (c1 : Nat) (n2 : Nat) (x3 : Int) (l4 : List Value) (l5 : List Value) (B : Bx) (X : Xx) (k : List D → Prop) : Prop := jRound Try.prog (hU C) L [] 55 0 [(1, (Value.slice (some ⟨501, 0, none⟩) n0 c1)), (6, (Value.slice (some ⟨1000, 0, none⟩) n2 n2)), (7, (Value.int .i64 x3))] [(501, (AObj.sym l4 false 3)), (1000, (AObj.sym l5 true 2))] B X (dataK k)
theorem rRWo1_text (C : Ct) (L : AtLoop) (n0 : Nat) (c1 : Nat) (n2 : Nat) (x3 : Int) (l4 : List Go.Value) (l5 : List Go.Value) (B : Bx) (X : Xx) (k : List D → Prop) : rRWo1 C L n0 c1 n2 x3 l4 l5 B X k =
 (bcase (decide (x3 < (↑n0 : Int)))
 (bcase (decide (0 ≤ x3))
 (bcase (decide (x3 < (↑n0 : Int)))
 (∃ n1 : Int,
 (∃ n3 : Int,
 (∃ n4 : Int,
 ((At (l4) (0 + Int.toNat x3 * 3) 3 [(vI n1), (vI n3), (vI n4)]) ∧
 (((Says C 23 [(D.val (vI n1)), (D.val (vI (0 : Int))), (D.val (vI (10000 : Int)))] [(D.val (Value.bool true))]) ∧
 (((Says C 23 [(D.val (vI n3)), (D.val (vI (0 : Int))), (D.val (vI (10000 : Int)))] [(D.val (Value.bool true))]) ∧
 (bcase (decide (n1 > n3))
 (k [D.nil, (D.val (vI (9 : Int)))])
 (((Says C 23 [(D.val (vI n4)), (D.val (vI (0 : Int))), (D.val (vI (1000 : Int)))] [(D.val (Value.bool true))]) ∧
 (L 2 [(Prod.mk 1 (Go.Value.slice (Option.some (Go.Addr.mk 501 0 Option.none)) (n0) (c1))), (Prod.mk 6 (Go.Value.slice (Option.some (Go.Addr.mk 1000 0 Option.none)) (n2) (n2))), (Prod.mk 7 (vI x3)), (Prod.mk 8 (Go.Value.pointer (Option.some (Go.Addr.mk 1001 0 Option.none)))), (Prod.mk 9 (vI (0 : Int)))] [(Prod.mk 501 (AObj.sym (l4) false 3)), (Prod.mk 1000 (AObj.sym (l5) true 2)), (Prod.mk 1001 (AObj.cells [(vI n1), (vI n3), (vI n4)] 97 false 3))])) ∨
 ((Says C 23 [(D.val (vI n4)), (D.val (vI (0 : Int))), (D.val (vI (1000 : Int)))] [(D.val (Value.bool false))]) ∧
 (k [D.nil, (D.val (vI (2 : Int)))]))))) ∨
 ((Says C 23 [(D.val (vI n3)), (D.val (vI (0 : Int))), (D.val (vI (10000 : Int)))] [(D.val (Value.bool false))]) ∧
 (k [D.nil, (D.val (vI (2 : Int)))])))) ∨
 ((Says C 23 [(D.val (vI n1)), (D.val (vI (0 : Int))), (D.val (vI (10000 : Int)))] [(D.val (Value.bool false))]) ∧
 (k [D.nil, (D.val (vI (2 : Int)))])))))))
 False)
 False)
 (X 0 [(Prod.mk 6 (Go.Value.slice (Option.some (Go.Addr.mk 1000 0 Option.none)) (n2) (n2)))] [(Prod.mk 1000 (AObj.sym (l5) true 2))])) := by kernel_rfl
abbrev zRWo2 (n0 : Nat) (c1 : Nat) (n2 : Nat) (x3 : Int) (x4 : Int) (l5 : List Value) (l6 : List Value) (x7 : Int) (x8 : Int) (x9 : Int) : Slots × Blocks := ([(1, (Value.slice (some ⟨501, 0, none⟩) n0 c1)), (6, (Value.slice (some ⟨1000, 0, none⟩) n2 n2)), (7, (Value.int .i64 x3)), (8, (Value.pointer (some ⟨1001, 0, none⟩))), (9, (Value.int .i64 x4))], [(501, (AObj.sym l5 false 3)), (1000, (AObj.sym l6 true 2)), (1001, (AObj.cells [(Value.int .i64 x7), (Value.int .i64 x8), (Value.int .i64 x9)] 97 false 3))])
def rRWo2 (C : Ct) (L : AtLoop) (n0 : Nat) (c1 : Nat) (n2 : Nat) (x3 : Int) (x4 : Int) (l5 : List Value) (l6 : List Value) (x7 : Int) (x8 : Int) (x9 : Int) (B : Bx) (X : Xx) (k : List D → Prop) : Prop := jRound2 Try.prog (hU C) L [] 55 0 2 [(1, (Value.slice (some ⟨501, 0, none⟩) n0 c1)), (6, (Value.slice (some ⟨1000, 0, none⟩) n2 n2)), (7, (Value.int .i64 x3)), (8, (Value.pointer (some ⟨1001, 0, none⟩))), (9, (Value.int .i64 x4))] [(501, (AObj.sym l5 false 3)), (1000, (AObj.sym l6 true 2)), (1001, (AObj.cells [(Value.int .i64 x7), (Value.int .i64 x8), (Value.int .i64 x9)] 97 false 3))] B X (dataK k)
theorem rRWo2_text (C : Ct) (L : AtLoop) (n0 : Nat) (c1 : Nat) (n2 : Nat) (x3 : Int) (x4 : Int) (l5 : List Go.Value) (l6 : List Go.Value) (x7 : Int) (x8 : Int) (x9 : Int) (B : Bx) (X : Xx) (k : List D → Prop) : rRWo2 C L n0 c1 n2 x3 x4 l5 l6 x7 x8 x9 B X k =
 (bcase (decide (x4 < (↑n2 : Int)))
 (bcase (decide (0 ≤ x4))
 (bcase (decide (x4 < (↑n2 : Int)))
 (∃ n1 : Int,
 ((At (l6) (0 + Int.toNat x4 * 2) 1 [(vI n1)]) ∧
 ((((vI x8) = (vI x8)) ∧
 (((Go.Value.pointer (Option.some (Go.Addr.mk 1001 1 Option.none))) = (Go.Value.pointer (Option.some (Go.Addr.mk 1001 1 Option.none)))) ∧
 (((Go.Value.pointer (Option.some (Go.Addr.mk 1001 0 Option.none))) = (Go.Value.pointer (Option.some (Go.Addr.mk 1001 0 Option.none)))) ∧
 (((vI x7) = (vI x7)) ∧
 (((Go.Value.pointer (Option.some (Go.Addr.mk 1001 0 Option.none))) = (Go.Value.pointer (Option.some (Go.Addr.mk 1001 0 Option.none)))) ∧
 (((Go.Value.pointer (Option.some (Go.Addr.mk 1001 0 Option.none))) = (Go.Value.pointer (Option.some (Go.Addr.mk 1001 0 Option.none)))) ∧
 ((∃ n3 : Int,
 ((At (l6) (0 + Int.toNat x4 * 2) 1 [(vI n3)]) ∧
 ((vI n3) = (vI n1)))) ∧
 (((Go.Value.pointer (Option.some (Go.Addr.mk 1000 (0 + Int.toNat x4 * 2) Option.none))) = (Go.Value.pointer (Option.some (Go.Addr.mk 1000 (0 + Int.toNat x4 * 2) Option.none)))) ∧
 ((bcase (decide (0 ≤ x4))
 (bcase (decide (x4 < (↑n2 : Int)))
 ((Go.Value.pointer (Option.some (Go.Addr.mk 1000 (0 + Int.toNat x4 * 2) Option.none))) = (Go.Value.pointer (Option.some (Go.Addr.mk 1000 (0 + Int.toNat x4 * 2) Option.none))))
 False)
 False) ∧
 (((vI x4) = (vI x4)) ∧
 (((Go.Value.slice (Option.some (Go.Addr.mk 1000 0 Option.none)) (n2) (n2)) = (Go.Value.slice (Option.some (Go.Addr.mk 1000 0 Option.none)) (n2) (n2))) ∧
 True))))))))))) ∧
 (((Says C 23 [(D.val (vI n1)), (D.val (vI x7)), (D.val (vI x8))] [(D.val (Value.bool true))]) ∧
 ((((Go.Value.pointer (Option.some (Go.Addr.mk 1001 1 Option.none))) = (Go.Value.pointer (Option.some (Go.Addr.mk 1001 1 Option.none)))) ∧
 (((Go.Value.pointer (Option.some (Go.Addr.mk 1001 0 Option.none))) = (Go.Value.pointer (Option.some (Go.Addr.mk 1001 0 Option.none)))) ∧
 (((Go.Value.pointer (Option.some (Go.Addr.mk 1001 0 Option.none))) = (Go.Value.pointer (Option.some (Go.Addr.mk 1001 0 Option.none)))) ∧
 (((Go.Value.pointer (Option.some (Go.Addr.mk 1001 0 Option.none))) = (Go.Value.pointer (Option.some (Go.Addr.mk 1001 0 Option.none)))) ∧
 (((Go.Value.pointer (Option.some (Go.Addr.mk 1000 (0 + Int.toNat x4 * 2) Option.none))) = (Go.Value.pointer (Option.some (Go.Addr.mk 1000 (0 + Int.toNat x4 * 2) Option.none)))) ∧
 ((bcase (decide (0 ≤ x4))
 (bcase (decide (x4 < (↑n2 : Int)))
 ((Go.Value.pointer (Option.some (Go.Addr.mk 1000 (0 + Int.toNat x4 * 2) Option.none))) = (Go.Value.pointer (Option.some (Go.Addr.mk 1000 (0 + Int.toNat x4 * 2) Option.none))))
 False)
 False) ∧
 (((vI x4) = (vI x4)) ∧
 (((Go.Value.slice (Option.some (Go.Addr.mk 1000 0 Option.none)) (n2) (n2)) = (Go.Value.slice (Option.some (Go.Addr.mk 1000 0 Option.none)) (n2) (n2))) ∧
 True)))))))) ∧
 (bcase (decide (0 ≤ x4))
 (bcase (decide (x4 < (↑n2 : Int)))
 (∃ n3 : Int,
 ((At (l6) (Go.Addr.off { block := 1000, off := 0 + Int.toNat x4 * 2 } + 1) 1 [(vI n3)]) ∧
 (bcase (decide (0 ≤ x4))
 (bcase (decide (x4 < (↑n2 : Int)))
 ((((Go.Value.pointer (Option.some (Go.Addr.mk 1000 (Go.Addr.off { block := 1000, off := 0 + Int.toNat x4 * 2 } + 1) Option.none))) = (Go.Value.pointer (Option.some (Go.Addr.mk 1000 (Go.Addr.off { block := 1000, off := 0 + Int.toNat x4 * 2 } + 1) Option.none)))) ∧
 ((bcase (decide (0 ≤ x4))
 (bcase (decide (x4 < (↑n2 : Int)))
 ((Go.Value.pointer (Option.some (Go.Addr.mk 1000 (0 + Int.toNat x4 * 2) Option.none))) = (Go.Value.pointer (Option.some (Go.Addr.mk 1000 (0 + Int.toNat x4 * 2) Option.none))))
 False)
 False) ∧
 (((vI (IntKind.wrap .i64 (n3 - x9))) = (vI (IntKind.wrap .i64 (n3 - x9)))) ∧
 (((vI x9) = (vI x9)) ∧
 (((Go.Value.pointer (Option.some (Go.Addr.mk 1001 2 Option.none))) = (Go.Value.pointer (Option.some (Go.Addr.mk 1001 2 Option.none)))) ∧
 ((∃ n4 : Int,
 ((At (l6) (Go.Addr.off { block := 1000, off := 0 + Int.toNat x4 * 2 } + 1) 1 [(vI n4)]) ∧
 ((vI n4) = (vI n3)))) ∧
 (((Go.Value.pointer (Option.some (Go.Addr.mk 1000 (Go.Addr.off { block := 1000, off := 0 + Int.toNat x4 * 2 } + 1) Option.none))) = (Go.Value.pointer (Option.some (Go.Addr.mk 1000 (Go.Addr.off { block := 1000, off := 0 + Int.toNat x4 * 2 } + 1) Option.none)))) ∧
 ((bcase (decide (0 ≤ x4))
 (bcase (decide (x4 < (↑n2 : Int)))
 ((Go.Value.pointer (Option.some (Go.Addr.mk 1000 (0 + Int.toNat x4 * 2) Option.none))) = (Go.Value.pointer (Option.some (Go.Addr.mk 1000 (0 + Int.toNat x4 * 2) Option.none))))
 False)
 False) ∧
 (((vI x4) = (vI x4)) ∧
 (((Go.Value.slice (Option.some (Go.Addr.mk 1000 0 Option.none)) (n2) (n2)) = (Go.Value.slice (Option.some (Go.Addr.mk 1000 0 Option.none)) (n2) (n2))) ∧
 (((vI x4) = (vI x4)) ∧
 (((Go.Value.slice (Option.some (Go.Addr.mk 1000 0 Option.none)) (n2) (n2)) = (Go.Value.slice (Option.some (Go.Addr.mk 1000 0 Option.none)) (n2) (n2))) ∧
 True)))))))))))) ∧
 (bcase (decide (Go.Addr.off { block := 1000, off := 0 + Int.toNat x4 * 2 } + 1 + 1 ≤ List.length l6))
 (((bcase (decide (0 ≤ x4))
 (bcase (decide (x4 < (↑n2 : Int)))
 ((Go.Value.pointer (Option.some (Go.Addr.mk 1000 (0 + Int.toNat x4 * 2) Option.none))) = (Go.Value.pointer (Option.some (Go.Addr.mk 1000 (0 + Int.toNat x4 * 2) Option.none))))
 False)
 False) ∧
 True) ∧
 (B [(Prod.mk 1 (Go.Value.slice (Option.some (Go.Addr.mk 501 0 Option.none)) (n0) (c1))), (Prod.mk 6 (Go.Value.slice (Option.some (Go.Addr.mk 1000 0 Option.none)) (n2) (n2))), (Prod.mk 7 (vI x3)), (Prod.mk 8 (Go.Value.pointer (Option.some (Go.Addr.mk 1001 0 Option.none)))), (Prod.mk 9 (vI (IntKind.wrap .i64 (x4 + 1))))] [(Prod.mk 501 (AObj.sym (l5) false 3)), (Prod.mk 1000 (AObj.sym (listSet (l6) (Go.Addr.off { block := 1000, off := 0 + Int.toNat x4 * 2 } + 1) [(vI (IntKind.wrap .i64 (n3 - x9)))]) true 2)), (Prod.mk 1001 (AObj.cells [(vI x7), (vI x8), (vI x9)] 97 false 3))]))
 False))
 False)
 False)))
 False)
 False))) ∨
 ((Says C 23 [(D.val (vI n1)), (D.val (vI x7)), (D.val (vI x8))] [(D.val (Value.bool false))]) ∧
 ((((Go.Value.pointer (Option.some (Go.Addr.mk 1001 1 Option.none))) = (Go.Value.pointer (Option.some (Go.Addr.mk 1001 1 Option.none)))) ∧
 (((Go.Value.pointer (Option.some (Go.Addr.mk 1001 0 Option.none))) = (Go.Value.pointer (Option.some (Go.Addr.mk 1001 0 Option.none)))) ∧
 (((Go.Value.pointer (Option.some (Go.Addr.mk 1001 0 Option.none))) = (Go.Value.pointer (Option.some (Go.Addr.mk 1001 0 Option.none)))) ∧
 (((Go.Value.pointer (Option.some (Go.Addr.mk 1001 0 Option.none))) = (Go.Value.pointer (Option.some (Go.Addr.mk 1001 0 Option.none)))) ∧
 (((Go.Value.pointer (Option.some (Go.Addr.mk 1000 (0 + Int.toNat x4 * 2) Option.none))) = (Go.Value.pointer (Option.some (Go.Addr.mk 1000 (0 + Int.toNat x4 * 2) Option.none)))) ∧
 ((bcase (decide (0 ≤ x4))
 (bcase (decide (x4 < (↑n2 : Int)))
 ((Go.Value.pointer (Option.some (Go.Addr.mk 1000 (0 + Int.toNat x4 * 2) Option.none))) = (Go.Value.pointer (Option.some (Go.Addr.mk 1000 (0 + Int.toNat x4 * 2) Option.none))))
 False)
 False) ∧
 (((vI x4) = (vI x4)) ∧
 (((Go.Value.slice (Option.some (Go.Addr.mk 1000 0 Option.none)) (n2) (n2)) = (Go.Value.slice (Option.some (Go.Addr.mk 1000 0 Option.none)) (n2) (n2))) ∧
 True)))))))) ∧
 (B [(Prod.mk 1 (Go.Value.slice (Option.some (Go.Addr.mk 501 0 Option.none)) (n0) (c1))), (Prod.mk 6 (Go.Value.slice (Option.some (Go.Addr.mk 1000 0 Option.none)) (n2) (n2))), (Prod.mk 7 (vI x3)), (Prod.mk 8 (Go.Value.pointer (Option.some (Go.Addr.mk 1001 0 Option.none)))), (Prod.mk 9 (vI (IntKind.wrap .i64 (x4 + 1))))] [(Prod.mk 501 (AObj.sym (l5) false 3)), (Prod.mk 1000 (AObj.sym (l6) true 2)), (Prod.mk 1001 (AObj.cells [(vI x7), (vI x8), (vI x9)] 97 false 3))])))))))
 False)
 False)
 (X 2 [(Prod.mk 1 (Go.Value.slice (Option.some (Go.Addr.mk 501 0 Option.none)) (n0) (c1))), (Prod.mk 6 (Go.Value.slice (Option.some (Go.Addr.mk 1000 0 Option.none)) (n2) (n2))), (Prod.mk 7 (vI x3))] [(Prod.mk 501 (AObj.sym (l5) false 3)), (Prod.mk 1000 (AObj.sym (l6) true 2))])) := by kernel_rfl
def nRWo3 (C : Ct) (L : AtLoop) (n0 : Nat) (l1 : List Value) (k : List D → Prop) : Prop := jNext Try.prog (hU C) L [] 55 0 .normal [(6, (Value.slice (some ⟨1000, 0, none⟩) n0 n0))] [(1000, (AObj.sym l1 true 2))] (dataK k)
theorem nRWo3_text (C : Ct) (L : AtLoop) (n0 : Nat) (l1 : List Go.Value) (k : List D → Prop) : nRWo3 C L n0 l1 k =
 ((((n0) = (n0)) ∧
 ((List.length l1) = (n0 * 2))) ∧
 (k [(D.sl (n0) 2 (l1)), (D.val (vI (0 : Int)))])) := by kernel_rfl
def iRWo4 (C : Ct) (L : AtLoop) (n0 : Nat) (c1 : Nat) (n2 : Nat) (x3 : Int) (l4 : List Value) (l5 : List Value) (B : Bx) (X : Xx) (k : List D → Prop) : Prop := jIn Try.prog (hU C) L [] 55 0 2 .normal [(1, (Value.slice (some ⟨501, 0, none⟩) n0 c1)), (6, (Value.slice (some ⟨1000, 0, none⟩) n2 n2)), (7, (Value.int .i64 x3))] [(501, (AObj.sym l4 false 3)), (1000, (AObj.sym l5 true 2))] B X (dataK k)
theorem iRWo4_text (C : Ct) (L : AtLoop) (n0 : Nat) (c1 : Nat) (n2 : Nat) (x3 : Int) (l4 : List Go.Value) (l5 : List Go.Value) (B : Bx) (X : Xx) (k : List D → Prop) : iRWo4 C L n0 c1 n2 x3 l4 l5 B X k =
 (B [(Prod.mk 1 (Go.Value.slice (Option.some (Go.Addr.mk 501 0 Option.none)) (n0) (c1))), (Prod.mk 6 (Go.Value.slice (Option.some (Go.Addr.mk 1000 0 Option.none)) (n2) (n2))), (Prod.mk 7 (vI (IntKind.wrap .i64 (x3 + 1))))] [(Prod.mk 501 (AObj.sym (l4) false 3)), (Prod.mk 1000 (AObj.sym (l5) true 2))]) := by kernel_rfl
def gRLw (C : Ct) (x0 : Int) (x1 : Int) (x2 : Int) (x3 : Int) (k : List D → Prop) : Prop := wpFn Try.prog (hU C) (fun _ _ _ => False) 8 34 #[.agg #[.int .i64 x0, .int .i64 x1, .int .i64 x2, .int .i64 x3]] (heapOf []) (dataK k)
theorem gRLw_text (C : Ct) (x0 : Int) (x1 : Int) (x2 : Int) (x3 : Int) (k : List D → Prop) : gRLw C x0 x1 x2 x3 k =
 (((Says C 23 [(D.val (vI x0)), (D.val (vI (0 : Int))), (D.val (vI (10000 : Int)))] [(D.val (Value.bool true))]) ∧
 (((Says C 23 [(D.val (vI x1)), (D.val (vI (0 : Int))), (D.val (vI (10000 : Int)))] [(D.val (Value.bool true))]) ∧
 (((Says C 23 [(D.val (vI x2)), (D.val (vI (0 : Int))), (D.val (vI (10000 : Int)))] [(D.val (Value.bool true))]) ∧
 (((Says C 23 [(D.val (vI x3)), (D.val (vI (0 : Int))), (D.val (vI (10000 : Int)))] [(D.val (Value.bool true))]) ∧
 (bcase (decide (x0 > x1))
 (k [(D.val (vI (9 : Int)))])
 (bcase (decide (x2 > x3))
 (k [(D.val (vI (9 : Int)))])
 (k [(D.val (vI (0 : Int)))])))) ∨
 ((Says C 23 [(D.val (vI x3)), (D.val (vI (0 : Int))), (D.val (vI (10000 : Int)))] [(D.val (Value.bool false))]) ∧
 (k [(D.val (vI (2 : Int)))])))) ∨
 ((Says C 23 [(D.val (vI x2)), (D.val (vI (0 : Int))), (D.val (vI (10000 : Int)))] [(D.val (Value.bool false))]) ∧
 (k [(D.val (vI (2 : Int)))])))) ∨
 ((Says C 23 [(D.val (vI x1)), (D.val (vI (0 : Int))), (D.val (vI (10000 : Int)))] [(D.val (Value.bool false))]) ∧
 (k [(D.val (vI (2 : Int)))])))) ∨
 ((Says C 23 [(D.val (vI x0)), (D.val (vI (0 : Int))), (D.val (vI (10000 : Int)))] [(D.val (Value.bool false))]) ∧
 (k [(D.val (vI (2 : Int)))]))) := by kernel_rfl
def gKC (C : Ct) (L : AtLoop) (n0 : Nat) (c0 : Nat) (l0 : List Value) (k : List D → Prop) : Prop := wpFn Try.prog (hU C) L 0 48 #[.slice (some ⟨500, 0, none⟩) n0 c0] (heapOf [(500, .sym l0 false 2)]) (dataK k)
theorem gKC_text (C : Ct) (L : AtLoop) (n0 : Nat) (c0 : Nat) (l0 : List Go.Value) (k : List D → Prop) : gKC C L n0 c0 l0 k =
 (∃ n1 : Int,
 ((Says C 68 [(D.val (vI ((↑n0 : Int)))), (D.val (vI (2 : Int))), (D.val (vI (10 : Int)))] [(D.val (vI n1))]) ∧
 (bcase (n1 != 0)
 (k [(D.val (vI (0 : Int))), (D.val (vI n1))])
 ((∃ l1 : List (Int × Int),
 (((l0) = (prs l1)) ∧
 (((n0) = (List.length l1)) ∧
 ((List.length l1) < 1000000000)))) ∧
 (∃ r11 : Int,
 (∃ r21 : Int,
 (∃ r31 : Int,
 ((Says fpC 0 [(D.val (vI (-(0 + 1) : Int))), (D.sl (n0) 2 (l0))] [(D.val (vI r11)), (D.val (vI r21)), (D.val (vI r31))]) ∧
 (k [(D.val (vI r11)), (D.val (vI r21))]))))))))) := by kernel_rfl
def gKS (C : Ct) (L : AtLoop) (x0 : Int) (x1 : Int) (x2 : Int) (k : List D → Prop) : Prop := wpFn Try.prog (hU C) L 0 102 #[.agg #[.int .i64 x0, .int .i64 x1, .int .i64 x2]] (heapOf []) (dataK k)
theorem gKS_text (C : Ct) (L : AtLoop) (x0 : Int) (x1 : Int) (x2 : Int) (k : List D → Prop) : gKS C L x0 x1 x2 k =
 (((((Go.Value.slice (Option.some (Go.Addr.mk 1003 0 Option.none)) 1 1) = (Go.Value.slice (Option.some (Go.Addr.mk 1003 0 Option.none)) 1 1)) ∧
 ((Option.some (AObj.cells [(vI x2)] 3 false 1)) = (Option.some (AObj.cells [(vI x2)] 3 false 1)))) ∧
 (((vI x2) = (vI x2)) ∧
 (((Go.Value.pointer (Option.some (Go.Addr.mk 1000 2 Option.none))) = (Go.Value.pointer (Option.some (Go.Addr.mk 1000 2 Option.none)))) ∧
 ((((Go.Value.slice (Option.some (Go.Addr.mk 1002 0 Option.none)) 1 1) = (Go.Value.slice (Option.some (Go.Addr.mk 1002 0 Option.none)) 1 1)) ∧
 ((Option.some (AObj.cells [(vI x0), (vI x1)] 56 false 2)) = (Option.some (AObj.cells [(vI x0), (vI x1)] 56 false 2)))) ∧
 (((Go.Value.agg [(vI x0), (vI x1)].toArray) = (Go.Value.agg [(vI x0), (vI x1)].toArray)) ∧
 (((Go.Value.pointer (Option.some (Go.Addr.mk 1000 0 Option.none))) = (Go.Value.pointer (Option.some (Go.Addr.mk 1000 0 Option.none)))) ∧
 ((((Go.Value.slice (Option.some (Go.Addr.mk 1001 0 Option.none)) 2 2) = (Go.Value.slice (Option.some (Go.Addr.mk 1001 0 Option.none)) 2 2)) ∧
 ((Option.some (AObj.cells [(vI x0), (vI x1)] 3 false 1)) = (Option.some (AObj.cells [(vI x0), (vI x1)] 3 false 1)))) ∧
 (((vI x1) = (vI x1)) ∧
 (((Go.Value.pointer (Option.some (Go.Addr.mk 1000 1 Option.none))) = (Go.Value.pointer (Option.some (Go.Addr.mk 1000 1 Option.none)))) ∧
 (((Go.Value.pointer (Option.some (Go.Addr.mk 1000 0 Option.none))) = (Go.Value.pointer (Option.some (Go.Addr.mk 1000 0 Option.none)))) ∧
 (((vI x0) = (vI x0)) ∧
 (((Go.Value.pointer (Option.some (Go.Addr.mk 1000 0 Option.none))) = (Go.Value.pointer (Option.some (Go.Addr.mk 1000 0 Option.none)))) ∧
 (((Go.Value.pointer (Option.some (Go.Addr.mk 1000 0 Option.none))) = (Go.Value.pointer (Option.some (Go.Addr.mk 1000 0 Option.none)))) ∧
 True))))))))))))) ∧
 (((((Go.Value.slice (Option.some (Go.Addr.mk 1003 0 Option.none)) 1 1) = (Go.Value.slice (Option.some (Go.Addr.mk 1003 0 Option.none)) 1 1)) ∧
 ((Option.some (AObj.cells [(vI x2)] 3 false 1)) = (Option.some (AObj.cells [(vI x2)] 3 false 1)))) ∧
 (((vI x2) = (vI x2)) ∧
 (((Go.Value.pointer (Option.some (Go.Addr.mk 1000 2 Option.none))) = (Go.Value.pointer (Option.some (Go.Addr.mk 1000 2 Option.none)))) ∧
 ((((Go.Value.slice (Option.some (Go.Addr.mk 1002 0 Option.none)) 1 1) = (Go.Value.slice (Option.some (Go.Addr.mk 1002 0 Option.none)) 1 1)) ∧
 ((Option.some (AObj.cells [(vI x0), (vI x1)] 56 false 2)) = (Option.some (AObj.cells [(vI x0), (vI x1)] 56 false 2)))) ∧
 (((Go.Value.agg [(vI x0), (vI x1)].toArray) = (Go.Value.agg [(vI x0), (vI x1)].toArray)) ∧
 (((Go.Value.pointer (Option.some (Go.Addr.mk 1000 0 Option.none))) = (Go.Value.pointer (Option.some (Go.Addr.mk 1000 0 Option.none)))) ∧
 ((((Go.Value.slice (Option.some (Go.Addr.mk 1001 0 Option.none)) 2 2) = (Go.Value.slice (Option.some (Go.Addr.mk 1001 0 Option.none)) 2 2)) ∧
 ((Option.some (AObj.cells [(vI x0), (vI x1)] 3 false 1)) = (Option.some (AObj.cells [(vI x0), (vI x1)] 3 false 1)))) ∧
 (((vI x1) = (vI x1)) ∧
 (((Go.Value.pointer (Option.some (Go.Addr.mk 1000 1 Option.none))) = (Go.Value.pointer (Option.some (Go.Addr.mk 1000 1 Option.none)))) ∧
 (((Go.Value.pointer (Option.some (Go.Addr.mk 1000 0 Option.none))) = (Go.Value.pointer (Option.some (Go.Addr.mk 1000 0 Option.none)))) ∧
 (((vI x0) = (vI x0)) ∧
 (((Go.Value.pointer (Option.some (Go.Addr.mk 1000 0 Option.none))) = (Go.Value.pointer (Option.some (Go.Addr.mk 1000 0 Option.none)))) ∧
 (((Go.Value.pointer (Option.some (Go.Addr.mk 1000 0 Option.none))) = (Go.Value.pointer (Option.some (Go.Addr.mk 1000 0 Option.none)))) ∧
 True))))))))))))) ∧
 (∃ r1 : Int,
 ((Says witC 0 [(D.val (vI (0 : Int))), (D.val (vI (10000 : Int))), (D.val (vI (2 : Int))), (D.sl 2 1 [(vI x0), (vI x1)])] [(D.val (vI r1))]) ∧
 (((((Go.Value.slice (Option.some (Go.Addr.mk 1003 0 Option.none)) 1 1) = (Go.Value.slice (Option.some (Go.Addr.mk 1003 0 Option.none)) 1 1)) ∧
 ((Option.some (AObj.cells [(vI x2)] 3 false 1)) = (Option.some (AObj.cells [(vI x2)] 3 false 1)))) ∧
 (((vI x2) = (vI x2)) ∧
 (((Go.Value.pointer (Option.some (Go.Addr.mk 1000 2 Option.none))) = (Go.Value.pointer (Option.some (Go.Addr.mk 1000 2 Option.none)))) ∧
 ((((Go.Value.slice (Option.some (Go.Addr.mk 1002 0 Option.none)) 1 1) = (Go.Value.slice (Option.some (Go.Addr.mk 1002 0 Option.none)) 1 1)) ∧
 ((Option.some (AObj.cells [(vI x0), (vI x1)] 56 false 2)) = (Option.some (AObj.cells [(vI x0), (vI x1)] 56 false 2)))) ∧
 (((Go.Value.agg [(vI x0), (vI x1)].toArray) = (Go.Value.agg [(vI x0), (vI x1)].toArray)) ∧
 (((Go.Value.pointer (Option.some (Go.Addr.mk 1000 0 Option.none))) = (Go.Value.pointer (Option.some (Go.Addr.mk 1000 0 Option.none)))) ∧
 (((vI x1) = (vI x1)) ∧
 (((Go.Value.pointer (Option.some (Go.Addr.mk 1000 1 Option.none))) = (Go.Value.pointer (Option.some (Go.Addr.mk 1000 1 Option.none)))) ∧
 (((Go.Value.pointer (Option.some (Go.Addr.mk 1000 0 Option.none))) = (Go.Value.pointer (Option.some (Go.Addr.mk 1000 0 Option.none)))) ∧
 (((vI x0) = (vI x0)) ∧
 (((Go.Value.pointer (Option.some (Go.Addr.mk 1000 0 Option.none))) = (Go.Value.pointer (Option.some (Go.Addr.mk 1000 0 Option.none)))) ∧
 (((Go.Value.pointer (Option.some (Go.Addr.mk 1000 0 Option.none))) = (Go.Value.pointer (Option.some (Go.Addr.mk 1000 0 Option.none)))) ∧
 True)))))))))))) ∧
 (bcase (decide (x0 > x1))
 (((((Go.Value.slice (Option.some (Go.Addr.mk 1003 0 Option.none)) 1 1) = (Go.Value.slice (Option.some (Go.Addr.mk 1003 0 Option.none)) 1 1)) ∧
 ((Option.some (AObj.cells [(vI x2)] 3 false 1)) = (Option.some (AObj.cells [(vI x2)] 3 false 1)))) ∧
 (((vI x2) = (vI x2)) ∧
 (((Go.Value.pointer (Option.some (Go.Addr.mk 1000 2 Option.none))) = (Go.Value.pointer (Option.some (Go.Addr.mk 1000 2 Option.none)))) ∧
 (((Go.Value.agg [(vI x0), (vI x1)].toArray) = (Go.Value.agg [(vI x0), (vI x1)].toArray)) ∧
 (((Go.Value.pointer (Option.some (Go.Addr.mk 1000 0 Option.none))) = (Go.Value.pointer (Option.some (Go.Addr.mk 1000 0 Option.none)))) ∧
 (((vI x1) = (vI x1)) ∧
 (((Go.Value.pointer (Option.some (Go.Addr.mk 1000 1 Option.none))) = (Go.Value.pointer (Option.some (Go.Addr.mk 1000 1 Option.none)))) ∧
 (((Go.Value.pointer (Option.some (Go.Addr.mk 1000 0 Option.none))) = (Go.Value.pointer (Option.some (Go.Addr.mk 1000 0 Option.none)))) ∧
 (((vI x0) = (vI x0)) ∧
 (((Go.Value.pointer (Option.some (Go.Addr.mk 1000 0 Option.none))) = (Go.Value.pointer (Option.some (Go.Addr.mk 1000 0 Option.none)))) ∧
 (((Go.Value.pointer (Option.some (Go.Addr.mk 1000 0 Option.none))) = (Go.Value.pointer (Option.some (Go.Addr.mk 1000 0 Option.none)))) ∧
 True))))))))))) ∧
 (((((Go.Value.slice (Option.some (Go.Addr.mk 1003 0 Option.none)) 1 1) = (Go.Value.slice (Option.some (Go.Addr.mk 1003 0 Option.none)) 1 1)) ∧
 ((Option.some (AObj.cells [(vI x2)] 3 false 1)) = (Option.some (AObj.cells [(vI x2)] 3 false 1)))) ∧
 (((vI x2) = (vI x2)) ∧
 (((Go.Value.pointer (Option.some (Go.Addr.mk 1000 2 Option.none))) = (Go.Value.pointer (Option.some (Go.Addr.mk 1000 2 Option.none)))) ∧
 (((Go.Value.agg [(vI x0), (vI x1)].toArray) = (Go.Value.agg [(vI x0), (vI x1)].toArray)) ∧
 (((Go.Value.pointer (Option.some (Go.Addr.mk 1000 0 Option.none))) = (Go.Value.pointer (Option.some (Go.Addr.mk 1000 0 Option.none)))) ∧
 (((vI x1) = (vI x1)) ∧
 (((Go.Value.pointer (Option.some (Go.Addr.mk 1000 1 Option.none))) = (Go.Value.pointer (Option.some (Go.Addr.mk 1000 1 Option.none)))) ∧
 (((Go.Value.pointer (Option.some (Go.Addr.mk 1000 0 Option.none))) = (Go.Value.pointer (Option.some (Go.Addr.mk 1000 0 Option.none)))) ∧
 (((vI x0) = (vI x0)) ∧
 (((Go.Value.pointer (Option.some (Go.Addr.mk 1000 0 Option.none))) = (Go.Value.pointer (Option.some (Go.Addr.mk 1000 0 Option.none)))) ∧
 (((Go.Value.pointer (Option.some (Go.Addr.mk 1000 0 Option.none))) = (Go.Value.pointer (Option.some (Go.Addr.mk 1000 0 Option.none)))) ∧
 True))))))))))) ∧
 (∃ r2 : Int,
 ((Says witC 0 [(D.val (vI (0 : Int))), (D.val (vI (1000 : Int))), (D.val (vI (2 : Int))), (D.sl 1 1 [(vI x2)])] [(D.val (vI r2))]) ∧
 (((((Go.Value.slice (Option.some (Go.Addr.mk 1009 0 Option.none)) 3 3) = (Go.Value.slice (Option.some (Go.Addr.mk 1009 0 Option.none)) 3 3)) ∧
 ((Option.some (AObj.cells [(vI r1), (vI (9 : Int)), (vI r2)] 27 false 1)) = (Option.some (AObj.cells [(vI r1), (vI (9 : Int)), (vI r2)] 27 false 1)))) ∧
 (((vI x2) = (vI x2)) ∧
 (((Go.Value.pointer (Option.some (Go.Addr.mk 1000 2 Option.none))) = (Go.Value.pointer (Option.some (Go.Addr.mk 1000 2 Option.none)))) ∧
 (((Go.Value.agg [(vI x0), (vI x1)].toArray) = (Go.Value.agg [(vI x0), (vI x1)].toArray)) ∧
 (((Go.Value.pointer (Option.some (Go.Addr.mk 1000 0 Option.none))) = (Go.Value.pointer (Option.some (Go.Addr.mk 1000 0 Option.none)))) ∧
 (((vI x1) = (vI x1)) ∧
 (((Go.Value.pointer (Option.some (Go.Addr.mk 1000 1 Option.none))) = (Go.Value.pointer (Option.some (Go.Addr.mk 1000 1 Option.none)))) ∧
 (((Go.Value.pointer (Option.some (Go.Addr.mk 1000 0 Option.none))) = (Go.Value.pointer (Option.some (Go.Addr.mk 1000 0 Option.none)))) ∧
 (((vI x0) = (vI x0)) ∧
 (((Go.Value.pointer (Option.some (Go.Addr.mk 1000 0 Option.none))) = (Go.Value.pointer (Option.some (Go.Addr.mk 1000 0 Option.none)))) ∧
 (((Go.Value.pointer (Option.some (Go.Addr.mk 1000 0 Option.none))) = (Go.Value.pointer (Option.some (Go.Addr.mk 1000 0 Option.none)))) ∧
 True))))))))))) ∧
 (∃ n1 : Int,
 ((Says C 67 [(D.sl 3 1 [(vI r1), (vI (9 : Int)), (vI r2)])] [(D.val (vI n1))]) ∧
 ((((vI x2) = (vI x2)) ∧
 (((Go.Value.pointer (Option.some (Go.Addr.mk 1000 2 Option.none))) = (Go.Value.pointer (Option.some (Go.Addr.mk 1000 2 Option.none)))) ∧
 (((Go.Value.agg [(vI x0), (vI x1)].toArray) = (Go.Value.agg [(vI x0), (vI x1)].toArray)) ∧
 (((Go.Value.pointer (Option.some (Go.Addr.mk 1000 0 Option.none))) = (Go.Value.pointer (Option.some (Go.Addr.mk 1000 0 Option.none)))) ∧
 (((vI x1) = (vI x1)) ∧
 (((Go.Value.pointer (Option.some (Go.Addr.mk 1000 1 Option.none))) = (Go.Value.pointer (Option.some (Go.Addr.mk 1000 1 Option.none)))) ∧
 (((Go.Value.pointer (Option.some (Go.Addr.mk 1000 0 Option.none))) = (Go.Value.pointer (Option.some (Go.Addr.mk 1000 0 Option.none)))) ∧
 (((vI x0) = (vI x0)) ∧
 (((Go.Value.pointer (Option.some (Go.Addr.mk 1000 0 Option.none))) = (Go.Value.pointer (Option.some (Go.Addr.mk 1000 0 Option.none)))) ∧
 (((Go.Value.pointer (Option.some (Go.Addr.mk 1000 0 Option.none))) = (Go.Value.pointer (Option.some (Go.Addr.mk 1000 0 Option.none)))) ∧
 True)))))))))) ∧
 (True ∧
 (k [(D.val (vI n1))]))))))))))
 (((((Go.Value.slice (Option.some (Go.Addr.mk 1003 0 Option.none)) 1 1) = (Go.Value.slice (Option.some (Go.Addr.mk 1003 0 Option.none)) 1 1)) ∧
 ((Option.some (AObj.cells [(vI x2)] 3 false 1)) = (Option.some (AObj.cells [(vI x2)] 3 false 1)))) ∧
 (((vI x2) = (vI x2)) ∧
 (((Go.Value.pointer (Option.some (Go.Addr.mk 1000 2 Option.none))) = (Go.Value.pointer (Option.some (Go.Addr.mk 1000 2 Option.none)))) ∧
 (((Go.Value.agg [(vI x0), (vI x1)].toArray) = (Go.Value.agg [(vI x0), (vI x1)].toArray)) ∧
 (((Go.Value.pointer (Option.some (Go.Addr.mk 1000 0 Option.none))) = (Go.Value.pointer (Option.some (Go.Addr.mk 1000 0 Option.none)))) ∧
 (((vI x1) = (vI x1)) ∧
 (((Go.Value.pointer (Option.some (Go.Addr.mk 1000 1 Option.none))) = (Go.Value.pointer (Option.some (Go.Addr.mk 1000 1 Option.none)))) ∧
 (((Go.Value.pointer (Option.some (Go.Addr.mk 1000 0 Option.none))) = (Go.Value.pointer (Option.some (Go.Addr.mk 1000 0 Option.none)))) ∧
 (((vI x0) = (vI x0)) ∧
 (((Go.Value.pointer (Option.some (Go.Addr.mk 1000 0 Option.none))) = (Go.Value.pointer (Option.some (Go.Addr.mk 1000 0 Option.none)))) ∧
 (((Go.Value.pointer (Option.some (Go.Addr.mk 1000 0 Option.none))) = (Go.Value.pointer (Option.some (Go.Addr.mk 1000 0 Option.none)))) ∧
 True))))))))))) ∧
 (((((Go.Value.slice (Option.some (Go.Addr.mk 1003 0 Option.none)) 1 1) = (Go.Value.slice (Option.some (Go.Addr.mk 1003 0 Option.none)) 1 1)) ∧
 ((Option.some (AObj.cells [(vI x2)] 3 false 1)) = (Option.some (AObj.cells [(vI x2)] 3 false 1)))) ∧
 (((vI x2) = (vI x2)) ∧
 (((Go.Value.pointer (Option.some (Go.Addr.mk 1000 2 Option.none))) = (Go.Value.pointer (Option.some (Go.Addr.mk 1000 2 Option.none)))) ∧
 (((Go.Value.agg [(vI x0), (vI x1)].toArray) = (Go.Value.agg [(vI x0), (vI x1)].toArray)) ∧
 (((Go.Value.pointer (Option.some (Go.Addr.mk 1000 0 Option.none))) = (Go.Value.pointer (Option.some (Go.Addr.mk 1000 0 Option.none)))) ∧
 (((vI x1) = (vI x1)) ∧
 (((Go.Value.pointer (Option.some (Go.Addr.mk 1000 1 Option.none))) = (Go.Value.pointer (Option.some (Go.Addr.mk 1000 1 Option.none)))) ∧
 (((Go.Value.pointer (Option.some (Go.Addr.mk 1000 0 Option.none))) = (Go.Value.pointer (Option.some (Go.Addr.mk 1000 0 Option.none)))) ∧
 (((vI x0) = (vI x0)) ∧
 (((Go.Value.pointer (Option.some (Go.Addr.mk 1000 0 Option.none))) = (Go.Value.pointer (Option.some (Go.Addr.mk 1000 0 Option.none)))) ∧
 (((Go.Value.pointer (Option.some (Go.Addr.mk 1000 0 Option.none))) = (Go.Value.pointer (Option.some (Go.Addr.mk 1000 0 Option.none)))) ∧
 True))))))))))) ∧
 (∃ r2 : Int,
 ((Says witC 0 [(D.val (vI (0 : Int))), (D.val (vI (1000 : Int))), (D.val (vI (2 : Int))), (D.sl 1 1 [(vI x2)])] [(D.val (vI r2))]) ∧
 (((((Go.Value.slice (Option.some (Go.Addr.mk 1009 0 Option.none)) 3 3) = (Go.Value.slice (Option.some (Go.Addr.mk 1009 0 Option.none)) 3 3)) ∧
 ((Option.some (AObj.cells [(vI r1), (vI (0 : Int)), (vI r2)] 27 false 1)) = (Option.some (AObj.cells [(vI r1), (vI (0 : Int)), (vI r2)] 27 false 1)))) ∧
 (((vI x2) = (vI x2)) ∧
 (((Go.Value.pointer (Option.some (Go.Addr.mk 1000 2 Option.none))) = (Go.Value.pointer (Option.some (Go.Addr.mk 1000 2 Option.none)))) ∧
 (((Go.Value.agg [(vI x0), (vI x1)].toArray) = (Go.Value.agg [(vI x0), (vI x1)].toArray)) ∧
 (((Go.Value.pointer (Option.some (Go.Addr.mk 1000 0 Option.none))) = (Go.Value.pointer (Option.some (Go.Addr.mk 1000 0 Option.none)))) ∧
 (((vI x1) = (vI x1)) ∧
 (((Go.Value.pointer (Option.some (Go.Addr.mk 1000 1 Option.none))) = (Go.Value.pointer (Option.some (Go.Addr.mk 1000 1 Option.none)))) ∧
 (((Go.Value.pointer (Option.some (Go.Addr.mk 1000 0 Option.none))) = (Go.Value.pointer (Option.some (Go.Addr.mk 1000 0 Option.none)))) ∧
 (((vI x0) = (vI x0)) ∧
 (((Go.Value.pointer (Option.some (Go.Addr.mk 1000 0 Option.none))) = (Go.Value.pointer (Option.some (Go.Addr.mk 1000 0 Option.none)))) ∧
 (((Go.Value.pointer (Option.some (Go.Addr.mk 1000 0 Option.none))) = (Go.Value.pointer (Option.some (Go.Addr.mk 1000 0 Option.none)))) ∧
 True))))))))))) ∧
 (∃ n1 : Int,
 ((Says C 67 [(D.sl 3 1 [(vI r1), (vI (0 : Int)), (vI r2)])] [(D.val (vI n1))]) ∧
 ((((vI x2) = (vI x2)) ∧
 (((Go.Value.pointer (Option.some (Go.Addr.mk 1000 2 Option.none))) = (Go.Value.pointer (Option.some (Go.Addr.mk 1000 2 Option.none)))) ∧
 (((Go.Value.agg [(vI x0), (vI x1)].toArray) = (Go.Value.agg [(vI x0), (vI x1)].toArray)) ∧
 (((Go.Value.pointer (Option.some (Go.Addr.mk 1000 0 Option.none))) = (Go.Value.pointer (Option.some (Go.Addr.mk 1000 0 Option.none)))) ∧
 (((vI x1) = (vI x1)) ∧
 (((Go.Value.pointer (Option.some (Go.Addr.mk 1000 1 Option.none))) = (Go.Value.pointer (Option.some (Go.Addr.mk 1000 1 Option.none)))) ∧
 (((Go.Value.pointer (Option.some (Go.Addr.mk 1000 0 Option.none))) = (Go.Value.pointer (Option.some (Go.Addr.mk 1000 0 Option.none)))) ∧
 (((vI x0) = (vI x0)) ∧
 (((Go.Value.pointer (Option.some (Go.Addr.mk 1000 0 Option.none))) = (Go.Value.pointer (Option.some (Go.Addr.mk 1000 0 Option.none)))) ∧
 (((Go.Value.pointer (Option.some (Go.Addr.mk 1000 0 Option.none))) = (Go.Value.pointer (Option.some (Go.Addr.mk 1000 0 Option.none)))) ∧
 True)))))))))) ∧
 (True ∧
 (k [(D.val (vI n1))])))))))))))))))) := by kernel_rfl
def gFs (C : Ct) (L : AtLoop) (n0 : Nat) (c0 : Nat) (l0 : List Value) (k : List D → Prop) : Prop := wpFn Try.prog (hU C) L 0 101 #[.slice (some ⟨500, 0, none⟩) n0 c0, .func (.func 102) #[] #[]] (heapOf [(500, .sym l0 false 3)]) (dataK k)
theorem gFs_text (C : Ct) (L : AtLoop) (n0 : Nat) (c0 : Nat) (l0 : List Go.Value) (k : List D → Prop) : gFs C L n0 c0 l0 k =
 (L 0 [(Prod.mk 1 (Go.Value.func (Go.Fn.func 102) [].toArray [].toArray)), (Prod.mk 9 (Go.Value.slice (Option.some (Go.Addr.mk 500 0 Option.none)) (n0) (c0))), (Prod.mk 10 (vI ((↑n0 : Int)))), (Prod.mk 11 (vI (0 : Int)))] [(Prod.mk 500 (AObj.sym (l0) false 3))]) := by kernel_rfl
abbrev zFs1 (n0 : Nat) (c1 : Nat) (x2 : Int) (x3 : Int) (l4 : List Value) : Slots × Blocks := ([(1, (Value.func (.func 102) #[] #[])), (9, (Value.slice (some ⟨500, 0, none⟩) n0 c1)), (10, (Value.int .i64 x2)), (11, (Value.int .i64 x3))], [(500, (AObj.sym l4 false 3))])
def rFs1 (C : Ct) (L : AtLoop) (n0 : Nat) (c1 : Nat) (x2 : Int) (x3 : Int) (l4 : List Value) (B : Bx) (X : Xx) (k : List D → Prop) : Prop := wpRound Try.prog (hU C) L 101 0 [(1, (Value.func (.func 102) #[] #[])), (9, (Value.slice (some ⟨500, 0, none⟩) n0 c1)), (10, (Value.int .i64 x2)), (11, (Value.int .i64 x3))] [(500, (AObj.sym l4 false 3))] B X (dataK k)
theorem rFs1_text (C : Ct) (L : AtLoop) (n0 : Nat) (c1 : Nat) (x2 : Int) (x3 : Int) (l4 : List Go.Value) (B : Bx) (X : Xx) (k : List D → Prop) : rFs1 C L n0 c1 x2 x3 l4 B X k =
 (bcase (decide (x3 < x2))
 (bcase (decide (0 ≤ x3))
 (bcase (decide (x3 < (↑n0 : Int)))
 (∃ n1 : Int,
 (∃ n2 : Int,
 (∃ n3 : Int,
 ((At (l4) (0 + Int.toNat x3 * 3) 3 [(vI n1), (vI n2), (vI n3)]) ∧
 (∃ n4 : Int,
 ((Says C 102 [(D.agg [(D.val (vI n1)), (D.val (vI n2)), (D.val (vI n3))])] [(D.val (vI n4))]) ∧
 (bcase (n4 != 0)
 (k [(D.val (vI x3)), (D.val (vI n4))])
 (B [(Prod.mk 1 (Go.Value.func (Go.Fn.func 102) [].toArray [].toArray)), (Prod.mk 9 (Go.Value.slice (Option.some (Go.Addr.mk 500 0 Option.none)) (n0) (c1))), (Prod.mk 10 (vI x2)), (Prod.mk 11 (vI (IntKind.wrap .i64 (x3 + 1))))] [(Prod.mk 500 (AObj.sym (l4) false 3))]))))))))
 False)
 False)
 (X 0 [] [])) := by kernel_rfl
def nFs2 (C : Ct) (L : AtLoop) (k : List D → Prop) : Prop := wpNext Try.prog (hU C) L 101 0 .normal [] [] (dataK k)
theorem nFs2_text (C : Ct) (L : AtLoop) (k : List D → Prop) : nFs2 C L k =
 (k [(D.val (vI (0 : Int))), (D.val (vI (0 : Int)))]) := by kernel_rfl
def gPh (C : Ct) (L : AtLoop) (x0 : Int) (x1 : Int) (x2 : Int) (x3 : Int) (x4 : Int) (k : List D → Prop) : Prop := wpFn Try.prog (hU C) L 0 99 #[.agg #[.int .i64 x0, .int .i64 x1, .int .i64 x2, .int .i64 x3], .int .i64 x4] (heapOf []) (dataK k)
theorem gPh_text (C : Ct) (L : AtLoop) (x0 : Int) (x1 : Int) (x2 : Int) (x3 : Int) (x4 : Int) (k : List D → Prop) : gPh C L x0 x1 x2 x3 x4 k =
 (bcase (decide (x0 ≤ x4))
 (bcase (decide (x4 ≤ x2))
 (k [(D.val (Value.bool true))])
 (k [(D.val (Value.bool false))]))
 (k [(D.val (Value.bool false))])) := by kernel_rfl
def gPt (C : Ct) (L : AtLoop) (x0 : Int) (x1 : Int) (x2 : Int) (x3 : Int) (x4 : Int) (k : List D → Prop) : Prop := wpFn Try.prog (hU C) L 0 100 #[.agg #[.int .i64 x0, .int .i64 x1, .int .i64 x2, .int .i64 x3], .int .i64 x4] (heapOf []) (dataK k)
theorem gPt_text (C : Ct) (L : AtLoop) (x0 : Int) (x1 : Int) (x2 : Int) (x3 : Int) (x4 : Int) (k : List D → Prop) : gPt C L x0 x1 x2 x3 x4 k =
 ((((vI (IntKind.wrap .i64 (x3 - x1))) = (vI (IntKind.wrap .i64 (x3 - x1)))) ∧
 (((vI x1) = (vI x1)) ∧
 (((Go.Value.pointer (Option.some (Go.Addr.mk 1000 1 Option.none))) = (Go.Value.pointer (Option.some (Go.Addr.mk 1000 1 Option.none)))) ∧
 (((Go.Value.pointer (Option.some (Go.Addr.mk 1000 0 Option.none))) = (Go.Value.pointer (Option.some (Go.Addr.mk 1000 0 Option.none)))) ∧
 (((vI x3) = (vI x3)) ∧
 (((Go.Value.pointer (Option.some (Go.Addr.mk 1000 3 Option.none))) = (Go.Value.pointer (Option.some (Go.Addr.mk 1000 3 Option.none)))) ∧
 (((Go.Value.pointer (Option.some (Go.Addr.mk 1000 2 Option.none))) = (Go.Value.pointer (Option.some (Go.Addr.mk 1000 2 Option.none)))) ∧
 (((vI (IntKind.wrap .i64 (x2 - x0))) = (vI (IntKind.wrap .i64 (x2 - x0)))) ∧
 (((vI x0) = (vI x0)) ∧
 (((Go.Value.pointer (Option.some (Go.Addr.mk 1000 0 Option.none))) = (Go.Value.pointer (Option.some (Go.Addr.mk 1000 0 Option.none)))) ∧
 (((Go.Value.pointer (Option.some (Go.Addr.mk 1000 0 Option.none))) = (Go.Value.pointer (Option.some (Go.Addr.mk 1000 0 Option.none)))) ∧
 (((vI x2) = (vI x2)) ∧
 (((Go.Value.pointer (Option.some (Go.Addr.mk 1000 2 Option.none))) = (Go.Value.pointer (Option.some (Go.Addr.mk 1000 2 Option.none)))) ∧
 (((Go.Value.pointer (Option.some (Go.Addr.mk 1000 2 Option.none))) = (Go.Value.pointer (Option.some (Go.Addr.mk 1000 2 Option.none)))) ∧
 True)))))))))))))) ∧
 ((((vI (IntKind.wrap .i64 (x3 - x1))) = (vI (IntKind.wrap .i64 (x3 - x1)))) ∧
 (((vI x1) = (vI x1)) ∧
 (((Go.Value.pointer (Option.some (Go.Addr.mk 1000 1 Option.none))) = (Go.Value.pointer (Option.some (Go.Addr.mk 1000 1 Option.none)))) ∧
 (((Go.Value.pointer (Option.some (Go.Addr.mk 1000 0 Option.none))) = (Go.Value.pointer (Option.some (Go.Addr.mk 1000 0 Option.none)))) ∧
 (((vI x3) = (vI x3)) ∧
 (((Go.Value.pointer (Option.some (Go.Addr.mk 1000 3 Option.none))) = (Go.Value.pointer (Option.some (Go.Addr.mk 1000 3 Option.none)))) ∧
 (((Go.Value.pointer (Option.some (Go.Addr.mk 1000 2 Option.none))) = (Go.Value.pointer (Option.some (Go.Addr.mk 1000 2 Option.none)))) ∧
 True))))))) ∧
 (True ∧
 (∃ n1 : Int,
 (∃ n2 : Int,
 ((Says C 66 [(D.val (vI (IntKind.wrap .i64 (IntKind.wrap .i64 (x1 * IntKind.wrap .i64 (x2 - x0)) + IntKind.wrap .i64 (IntKind.wrap .i64 (x3 - x1) * IntKind.wrap .i64 (x4 - x0)))))), (D.val (vI (IntKind.wrap .i64 (x2 - x0))))] [(D.agg [(D.val (vI n1)), (D.val (vI n2))])]) ∧
 (k [(D.agg [(D.val (vI n1)), (D.val (vI n2))])]))))))) := by kernel_rfl
def gWo (C : Ct) (L : AtLoop) (n0 : Nat) (c0 : Nat) (l0 : List Value) (n1 : Nat) (c1 : Nat) (l1 : List Value) (k : List D → Prop) : Prop := wpFn Try.prog (hU C) L 0 51 #[.slice (some ⟨500, 0, none⟩) n0 c0, .slice (some ⟨501, 0, none⟩) n1 c1] (heapOf [(500, .sym l0 false 2), (501, .sym l1 false 3)]) (dataK k)
theorem gWo_text (C : Ct) (L : AtLoop) (n0 : Nat) (c0 : Nat) (l0 : List Go.Value) (n1 : Nat) (c1 : Nat) (l1 : List Go.Value) (k : List D → Prop) : gWo C L n0 c0 l0 n1 c1 l1 k =
 (bcase (decide (0 + n0 * 2 ≤ List.length l0))
 (∃ n2 : Int,
 (∃ n3 : Int,
 ((Says C 48 [(D.sl (n0) 2 (List.take (n0 * 2) (List.drop 0 l0)))] [(D.val (vI n2)), (D.val (vI n3))]) ∧
 (bcase (decide (0 + n1 * 3 ≤ List.length l1))
 (∃ n4 : Int,
 (∃ n5 : Int,
 ((Says C 101 [(D.sl (n1) 3 (List.take (n1 * 3) (List.drop 0 l1))), (D.val (Go.Value.func (Go.Fn.func 102) [].toArray [].toArray))] [(D.val (vI n4)), (D.val (vI n5))]) ∧
 (∃ n6 : Int,
 ((Says C 68 [(D.val (vI ((↑n1 : Int)))), (D.val (vI (0 : Int))), (D.val (vI (20 : Int)))] [(D.val (vI n6))]) ∧
 (∃ n7 : Int,
 ((Says C 67 [(D.sl 3 1 [(vI n3), (vI n6), (vI n5)])] [(D.val (vI n7))]) ∧
 (bcase (n7 != 0)
 (k [D.nil, (D.val (vI n7))])
 (bcase (decide (0 + n0 * 2 ≤ List.length l0))
 ((Says C 103 [(D.sl (n0) 2 (List.take (n0 * 2) (List.drop 0 l0)))] [(D.sl (n0) 2 (List.take (n0 * 2) (List.drop 0 l0)))]) ∧
 (L 0 [(Prod.mk 10 (Go.Value.slice (Option.some (Go.Addr.mk 1000 0 Option.none)) (n0) (n0))), (Prod.mk 35 (Go.Value.slice (Option.some (Go.Addr.mk 501 0 Option.none)) (n1) (c1))), (Prod.mk 36 (vI ((↑n1 : Int)))), (Prod.mk 37 (vI (0 : Int)))] [(Prod.mk 1000 (AObj.sym (List.take (n0 * 2) (List.drop 0 l0)) true 2)), (Prod.mk 501 (AObj.sym (l1) false 3))]))
 False)))))))))
 False))))
 False) := by kernel_rfl
abbrev zWo1 (n0 : Nat) (n1 : Nat) (c2 : Nat) (x3 : Int) (x4 : Int) (l5 : List Value) (l6 : List Value) : Slots × Blocks := ([(10, (Value.slice (some ⟨1000, 0, none⟩) n0 n0)), (35, (Value.slice (some ⟨501, 0, none⟩) n1 c2)), (36, (Value.int .i64 x3)), (37, (Value.int .i64 x4))], [(1000, (AObj.sym l5 true 2)), (501, (AObj.sym l6 false 3))])
def rWo1 (C : Ct) (L : AtLoop) (n0 : Nat) (n1 : Nat) (c2 : Nat) (x3 : Int) (x4 : Int) (l5 : List Value) (l6 : List Value) (B : Bx) (X : Xx) (k : List D → Prop) : Prop := wpRound Try.prog (hU C) L 51 0 [(10, (Value.slice (some ⟨1000, 0, none⟩) n0 n0)), (35, (Value.slice (some ⟨501, 0, none⟩) n1 c2)), (36, (Value.int .i64 x3)), (37, (Value.int .i64 x4))] [(1000, (AObj.sym l5 true 2)), (501, (AObj.sym l6 false 3))] B X (dataK k)
theorem rWo1_text (C : Ct) (L : AtLoop) (n0 : Nat) (n1 : Nat) (c2 : Nat) (x3 : Int) (x4 : Int) (l5 : List Go.Value) (l6 : List Go.Value) (B : Bx) (X : Xx) (k : List D → Prop) : rWo1 C L n0 n1 c2 x3 x4 l5 l6 B X k =
 (bcase (decide (x4 < x3))
 (bcase (decide (0 ≤ x4))
 (bcase (decide (x4 < (↑n1 : Int)))
 (∃ n2 : Int,
 (∃ n3 : Int,
 (∃ n4 : Int,
 ((At (l6) (0 + Int.toNat x4 * 3) 3 [(vI n2), (vI n3), (vI n4)]) ∧
 ((0 < (n0)) ∧
 ((∃ l1 : List (Int × Int),
 (((l5) = (prs l1)) ∧
 (((n0) = (List.length l1)) ∧
 ((List.length l1) < 1000000000)))) ∧
 (∃ out1 : List Go.Value,
 ((Says wrC 0 [(D.val (vI n2)), (D.val (vI n3)), (D.val (vI n4)), (D.sl (n0) 2 (l5))] [(D.sl (n0) 2 (out1))]) ∧
 (B [(Prod.mk 10 (Go.Value.slice (Option.some (Go.Addr.mk 1000 0 Option.none)) (n0) (n0))), (Prod.mk 35 (Go.Value.slice (Option.some (Go.Addr.mk 501 0 Option.none)) (n1) (c2))), (Prod.mk 36 (vI x3)), (Prod.mk 37 (vI (IntKind.wrap .i64 (x4 + 1))))] [(Prod.mk 1000 (AObj.sym (out1) true 2)), (Prod.mk 501 (AObj.sym (l6) false 3))])))))))))
 False)
 False)
 (X 0 [(Prod.mk 10 (Go.Value.slice (Option.some (Go.Addr.mk 1000 0 Option.none)) (n0) (n0)))] [(Prod.mk 1000 (AObj.sym (l5) true 2))])) := by kernel_rfl
def nWo2 (C : Ct) (L : AtLoop) (n0 : Nat) (l1 : List Value) (k : List D → Prop) : Prop := wpNext Try.prog (hU C) L 51 0 .normal [(10, (Value.slice (some ⟨1000, 0, none⟩) n0 n0))] [(1000, (AObj.sym l1 true 2))] (dataK k)
theorem nWo2_text (C : Ct) (L : AtLoop) (n0 : Nat) (l1 : List Go.Value) (k : List D → Prop) : nWo2 C L n0 l1 k =
 ((((n0) = (n0)) ∧
 ((List.length l1) = (n0 * 2))) ∧
 (k [(D.sl (n0) 2 (l1)), (D.val (vI (0 : Int)))])) := by kernel_rfl
def gRKC (C : Ct) (L : AtLoop) (n0 : Nat) (c0 : Nat) (l0 : List Value) (k : List D → Prop) : Prop := wpFn Try.prog (hU C) L 0 53 #[.slice (some ⟨500, 0, none⟩) n0 c0] (heapOf [(500, .sym l0 false 2)]) (dataK k)
theorem gRKC_text (C : Ct) (L : AtLoop) (n0 : Nat) (c0 : Nat) (l0 : List Go.Value) (k : List D → Prop) : gRKC C L n0 c0 l0 k =
 (bcase (decide ((↑n0 : Int) < 2))
 (k [(D.val (vI (0 : Int))), (D.val (vI (10 : Int)))])
 (bcase (decide ((↑n0 : Int) > 10))
 (k [(D.val (vI (0 : Int))), (D.val (vI (8 : Int)))])
 (L 0 [(Prod.mk 0 (Go.Value.slice (Option.some (Go.Addr.mk 500 0 Option.none)) (n0) (c0))), (Prod.mk 4 (vI (0 : Int)))] [(Prod.mk 500 (AObj.sym (l0) false 2))]))) := by kernel_rfl
abbrev zRKC1 (n0 : Nat) (c1 : Nat) (x2 : Int) (l3 : List Value) : Slots × Blocks := ([(0, (Value.slice (some ⟨500, 0, none⟩) n0 c1)), (4, (Value.int .i64 x2))], [(500, (AObj.sym l3 false 2))])
def rRKC1 (C : Ct) (L : AtLoop) (n0 : Nat) (c1 : Nat) (x2 : Int) (l3 : List Value) (B : Bx) (X : Xx) (k : List D → Prop) : Prop := wpRound Try.prog (hU C) L 53 0 [(0, (Value.slice (some ⟨500, 0, none⟩) n0 c1)), (4, (Value.int .i64 x2))] [(500, (AObj.sym l3 false 2))] B X (dataK k)
theorem rRKC1_text (C : Ct) (L : AtLoop) (n0 : Nat) (c1 : Nat) (x2 : Int) (l3 : List Go.Value) (B : Bx) (X : Xx) (k : List D → Prop) : rRKC1 C L n0 c1 x2 l3 B X k =
 (bcase (decide (x2 < (↑n0 : Int)))
 (bcase (decide (0 ≤ x2))
 (bcase (decide (x2 < (↑n0 : Int)))
 (∃ n1 : Int,
 ((At (l3) (0 + Int.toNat x2 * 2) 1 [(vI n1)]) ∧
 (((Says C 23 [(D.val (vI n1)), (D.val (vI (0 : Int))), (D.val (vI (10000 : Int)))] [(D.val (Value.bool true))]) ∧
 (bcase (decide (0 ≤ x2))
 (bcase (decide (x2 < (↑n0 : Int)))
 (∃ n2 : Int,
 ((At (l3) (Go.Addr.off { block := 500, off := 0 + Int.toNat x2 * 2 } + 1) 1 [(vI n2)]) ∧
 (((Says C 23 [(D.val (vI n2)), (D.val (vI (-(99999 + 1) : Int))), (D.val (vI (100000 : Int)))] [(D.val (Value.bool true))]) ∧
 (bcase (decide (x2 > 0))
 (bcase (decide (0 ≤ x2))
 (bcase (decide (x2 < (↑n0 : Int)))
 (∃ n3 : Int,
 ((At (l3) (0 + Int.toNat x2 * 2) 1 [(vI n3)]) ∧
 (bcase (decide (0 ≤ IntKind.wrap .i64 (x2 - 1)))
 (bcase (decide (IntKind.wrap .i64 (x2 - 1) < (↑n0 : Int)))
 (∃ n4 : Int,
 ((At (l3) (0 + Int.toNat (IntKind.wrap .i64 (x2 - 1)) * 2) 1 [(vI n4)]) ∧
 (bcase (decide (n3 ≤ n4))
 ((((Value.bool true) = (Value.bool true)) ∧
 ((bcase (decide (n3 ≤ n4))
 ((Value.bool true) = (Value.bool true))
 ((Value.bool false) = (Value.bool true))) ∧
 ((∃ n5 : Int,
 ((At (l3) (0 + Int.toNat (IntKind.wrap .i64 (x2 - 1)) * 2) 1 [(vI n5)]) ∧
 ((vI n5) = (vI n4)))) ∧
 (((Go.Value.pointer (Option.some (Go.Addr.mk 500 (0 + Int.toNat (IntKind.wrap .i64 (x2 - 1)) * 2) Option.none))) = (Go.Value.pointer (Option.some (Go.Addr.mk 500 (0 + Int.toNat (IntKind.wrap .i64 (x2 - 1)) * 2) Option.none)))) ∧
 ((bcase (decide (0 ≤ IntKind.wrap .i64 (x2 - 1)))
 (bcase (decide (IntKind.wrap .i64 (x2 - 1) < (↑n0 : Int)))
 ((Go.Value.pointer (Option.some (Go.Addr.mk 500 (0 + Int.toNat (IntKind.wrap .i64 (x2 - 1)) * 2) Option.none))) = (Go.Value.pointer (Option.some (Go.Addr.mk 500 (0 + Int.toNat (IntKind.wrap .i64 (x2 - 1)) * 2) Option.none))))
 False)
 False) ∧
 (((vI (IntKind.wrap .i64 (x2 - 1))) = (vI (IntKind.wrap .i64 (x2 - 1)))) ∧
 (((vI x2) = (vI x2)) ∧
 (((Go.Value.slice (Option.some (Go.Addr.mk 500 0 Option.none)) (n0) (c1)) = (Go.Value.slice (Option.some (Go.Addr.mk 500 0 Option.none)) (n0) (c1))) ∧
 ((∃ n5 : Int,
 ((At (l3) (0 + Int.toNat x2 * 2) 1 [(vI n5)]) ∧
 ((vI n5) = (vI n3)))) ∧
 (((Go.Value.pointer (Option.some (Go.Addr.mk 500 (0 + Int.toNat x2 * 2) Option.none))) = (Go.Value.pointer (Option.some (Go.Addr.mk 500 (0 + Int.toNat x2 * 2) Option.none)))) ∧
 ((bcase (decide (0 ≤ x2))
 (bcase (decide (x2 < (↑n0 : Int)))
 ((Go.Value.pointer (Option.some (Go.Addr.mk 500 (0 + Int.toNat x2 * 2) Option.none))) = (Go.Value.pointer (Option.some (Go.Addr.mk 500 (0 + Int.toNat x2 * 2) Option.none))))
 False)
 False) ∧
 (((vI x2) = (vI x2)) ∧
 (((Go.Value.slice (Option.some (Go.Addr.mk 500 0 Option.none)) (n0) (c1)) = (Go.Value.slice (Option.some (Go.Addr.mk 500 0 Option.none)) (n0) (c1))) ∧
 (((Value.bool true) = (Value.bool true)) ∧
 ((bcase (decide (x2 > 0))
 ((Value.bool true) = (Value.bool true))
 ((Value.bool false) = (Value.bool true))) ∧
 (((vI x2) = (vI x2)) ∧
 True)))))))))))))))) ∧
 (k [(D.val (vI x2)), (D.val (vI (9 : Int)))]))
 ((((Value.bool false) = (Value.bool false)) ∧
 ((bcase (decide (n3 ≤ n4))
 ((Value.bool true) = (Value.bool false))
 ((Value.bool false) = (Value.bool false))) ∧
 ((∃ n5 : Int,
 ((At (l3) (0 + Int.toNat (IntKind.wrap .i64 (x2 - 1)) * 2) 1 [(vI n5)]) ∧
 ((vI n5) = (vI n4)))) ∧
 (((Go.Value.pointer (Option.some (Go.Addr.mk 500 (0 + Int.toNat (IntKind.wrap .i64 (x2 - 1)) * 2) Option.none))) = (Go.Value.pointer (Option.some (Go.Addr.mk 500 (0 + Int.toNat (IntKind.wrap .i64 (x2 - 1)) * 2) Option.none)))) ∧
 ((bcase (decide (0 ≤ IntKind.wrap .i64 (x2 - 1)))
 (bcase (decide (IntKind.wrap .i64 (x2 - 1) < (↑n0 : Int)))
 ((Go.Value.pointer (Option.some (Go.Addr.mk 500 (0 + Int.toNat (IntKind.wrap .i64 (x2 - 1)) * 2) Option.none))) = (Go.Value.pointer (Option.some (Go.Addr.mk 500 (0 + Int.toNat (IntKind.wrap .i64 (x2 - 1)) * 2) Option.none))))
 False)
 False) ∧
 (((vI (IntKind.wrap .i64 (x2 - 1))) = (vI (IntKind.wrap .i64 (x2 - 1)))) ∧
 (((vI x2) = (vI x2)) ∧
 (((Go.Value.slice (Option.some (Go.Addr.mk 500 0 Option.none)) (n0) (c1)) = (Go.Value.slice (Option.some (Go.Addr.mk 500 0 Option.none)) (n0) (c1))) ∧
 ((∃ n5 : Int,
 ((At (l3) (0 + Int.toNat x2 * 2) 1 [(vI n5)]) ∧
 ((vI n5) = (vI n3)))) ∧
 (((Go.Value.pointer (Option.some (Go.Addr.mk 500 (0 + Int.toNat x2 * 2) Option.none))) = (Go.Value.pointer (Option.some (Go.Addr.mk 500 (0 + Int.toNat x2 * 2) Option.none)))) ∧
 ((bcase (decide (0 ≤ x2))
 (bcase (decide (x2 < (↑n0 : Int)))
 ((Go.Value.pointer (Option.some (Go.Addr.mk 500 (0 + Int.toNat x2 * 2) Option.none))) = (Go.Value.pointer (Option.some (Go.Addr.mk 500 (0 + Int.toNat x2 * 2) Option.none))))
 False)
 False) ∧
 (((vI x2) = (vI x2)) ∧
 (((Go.Value.slice (Option.some (Go.Addr.mk 500 0 Option.none)) (n0) (c1)) = (Go.Value.slice (Option.some (Go.Addr.mk 500 0 Option.none)) (n0) (c1))) ∧
 (((Value.bool true) = (Value.bool true)) ∧
 ((bcase (decide (x2 > 0))
 ((Value.bool true) = (Value.bool true))
 ((Value.bool false) = (Value.bool true))) ∧
 (((vI x2) = (vI x2)) ∧
 True)))))))))))))))) ∧
 (B [(Prod.mk 0 (Go.Value.slice (Option.some (Go.Addr.mk 500 0 Option.none)) (n0) (c1))), (Prod.mk 4 (vI (IntKind.wrap .i64 (x2 + 1))))] [(Prod.mk 500 (AObj.sym (l3) false 2))])))))
 False)
 False)))
 False)
 False)
 ((((Value.bool false) = (Value.bool false)) ∧
 (((Go.Value.tuple [].toArray) = (Go.Value.tuple [].toArray)) ∧
 (((Go.Value.tuple [].toArray) = (Go.Value.tuple [].toArray)) ∧
 (((Go.Value.tuple [].toArray) = (Go.Value.tuple [].toArray)) ∧
 (((Go.Value.tuple [].toArray) = (Go.Value.tuple [].toArray)) ∧
 (((Go.Value.tuple [].toArray) = (Go.Value.tuple [].toArray)) ∧
 (((Go.Value.tuple [].toArray) = (Go.Value.tuple [].toArray)) ∧
 (((Go.Value.tuple [].toArray) = (Go.Value.tuple [].toArray)) ∧
 (((Go.Value.tuple [].toArray) = (Go.Value.tuple [].toArray)) ∧
 (((Go.Value.tuple [].toArray) = (Go.Value.tuple [].toArray)) ∧
 (((Go.Value.tuple [].toArray) = (Go.Value.tuple [].toArray)) ∧
 (((Go.Value.tuple [].toArray) = (Go.Value.tuple [].toArray)) ∧
 (((Go.Value.tuple [].toArray) = (Go.Value.tuple [].toArray)) ∧
 (((Value.bool false) = (Value.bool false)) ∧
 ((bcase (decide (x2 > 0))
 ((Value.bool true) = (Value.bool false))
 ((Value.bool false) = (Value.bool false))) ∧
 (((vI x2) = (vI x2)) ∧
 True)))))))))))))))) ∧
 (B [(Prod.mk 0 (Go.Value.slice (Option.some (Go.Addr.mk 500 0 Option.none)) (n0) (c1))), (Prod.mk 4 (vI (IntKind.wrap .i64 (x2 + 1))))] [(Prod.mk 500 (AObj.sym (l3) false 2))])))) ∨
 ((Says C 23 [(D.val (vI n2)), (D.val (vI (-(99999 + 1) : Int))), (D.val (vI (100000 : Int)))] [(D.val (Value.bool false))]) ∧
 (k [(D.val (vI x2)), (D.val (vI (2 : Int)))])))))
 False)
 False)) ∨
 ((Says C 23 [(D.val (vI n1)), (D.val (vI (0 : Int))), (D.val (vI (10000 : Int)))] [(D.val (Value.bool false))]) ∧
 (k [(D.val (vI x2)), (D.val (vI (2 : Int)))])))))
 False)
 False)
 (X 0 [] [])) := by kernel_rfl
def nRKC2 (C : Ct) (L : AtLoop) (k : List D → Prop) : Prop := wpNext Try.prog (hU C) L 53 0 .normal [] [] (dataK k)
theorem nRKC2_text (C : Ct) (L : AtLoop) (k : List D → Prop) : nRKC2 C L k =
 (k [(D.val (vI (0 : Int))), (D.val (vI (0 : Int)))]) := by kernel_rfl
def gRKCn (C : Ct) (L : AtLoop) (k : List D → Prop) : Prop := wpFn Try.prog (hU C) L 0 53 #[.slice none 0 0] (heapOf []) (dataK k)
theorem gRKCn_text (C : Ct) (L : AtLoop) (k : List D → Prop) : gRKCn C L k =
 (k [(D.val (vI (0 : Int))), (D.val (vI (10 : Int)))]) := by kernel_rfl
def gRHt (C : Ct) (L : AtLoop) (n0 : Nat) (c0 : Nat) (l0 : List Value) (x1 : Int) (k : List D → Prop) : Prop := wpFn Try.prog (hU C) L 0 54 #[.slice (some ⟨500, 0, none⟩) n0 c0, .int .i64 x1] (heapOf [(500, .sym l0 false 2)]) (dataK k)
theorem gRHt_text (C : Ct) (L : AtLoop) (n0 : Nat) (c0 : Nat) (l0 : List Go.Value) (x1 : Int) (k : List D → Prop) : gRHt C L n0 c0 l0 x1 k =
 (L 0 [(Prod.mk 0 (Go.Value.slice (Option.some (Go.Addr.mk 500 0 Option.none)) (n0) (c0))), (Prod.mk 1 (vI x1)), (Prod.mk 4 (Go.Value.pointer (Option.some (Go.Addr.mk 1000 0 Option.none)))), (Prod.mk 6 (vI (1 : Int)))] [(Prod.mk 500 (AObj.sym (l0) false 2)), (Prod.mk 1000 (AObj.cells [(vI (0 : Int)), (vI (0 : Int))] 26 false 2))]) := by kernel_rfl
abbrev zRHt1 (n0 : Nat) (c1 : Nat) (x2 : Int) (x3 : Int) (l4 : List Value) (x5 : Int) (x6 : Int) : Slots × Blocks := ([(0, (Value.slice (some ⟨500, 0, none⟩) n0 c1)), (1, (Value.int .i64 x2)), (4, (Value.pointer (some ⟨1000, 0, none⟩))), (6, (Value.int .i64 x3))], [(500, (AObj.sym l4 false 2)), (1000, (AObj.cells [(Value.int .i64 x5), (Value.int .i64 x6)] 26 false 2))])
def rRHt1 (C : Ct) (L : AtLoop) (n0 : Nat) (c1 : Nat) (x2 : Int) (x3 : Int) (l4 : List Value) (x5 : Int) (x6 : Int) (B : Bx) (X : Xx) (k : List D → Prop) : Prop := wpRound Try.prog (hU C) L 54 0 [(0, (Value.slice (some ⟨500, 0, none⟩) n0 c1)), (1, (Value.int .i64 x2)), (4, (Value.pointer (some ⟨1000, 0, none⟩))), (6, (Value.int .i64 x3))] [(500, (AObj.sym l4 false 2)), (1000, (AObj.cells [(Value.int .i64 x5), (Value.int .i64 x6)] 26 false 2))] B X (dataK k)
theorem rRHt1_text (C : Ct) (L : AtLoop) (n0 : Nat) (c1 : Nat) (x2 : Int) (x3 : Int) (l4 : List Go.Value) (x5 : Int) (x6 : Int) (B : Bx) (X : Xx) (k : List D → Prop) : rRHt1 C L n0 c1 x2 x3 l4 x5 x6 B X k =
 (bcase (decide (x3 < (↑n0 : Int)))
 (bcase (decide (0 ≤ IntKind.wrap .i64 (x3 - 1)))
 (bcase (decide (IntKind.wrap .i64 (x3 - 1) < (↑n0 : Int)))
 (∃ n1 : Int,
 (∃ n2 : Int,
 ((At (l4) (0 + Int.toNat (IntKind.wrap .i64 (x3 - 1)) * 2) 2 [(vI n1), (vI n2)]) ∧
 (bcase (decide (0 ≤ x3))
 (bcase (decide (x3 < (↑n0 : Int)))
 (∃ n3 : Int,
 (∃ n4 : Int,
 ((At (l4) (0 + Int.toNat x3 * 2) 2 [(vI n3), (vI n4)]) ∧
 (((((Go.Value.pointer (Option.some (Go.Addr.mk 1002 0 Option.none))) = (Go.Value.pointer (Option.some (Go.Addr.mk 1002 0 Option.none)))) ∧
 ((Option.some (AObj.cells [(vI (0 : Int)), (vI (0 : Int))] 147 false 2)) = (Option.some (AObj.cells [(vI (0 : Int)), (vI (0 : Int))] 147 false 2)))) ∧
 ((((Go.Value.pointer (Option.some (Go.Addr.mk 1001 0 Option.none))) = (Go.Value.pointer (Option.some (Go.Addr.mk 1001 0 Option.none)))) ∧
 ((Option.some (AObj.cells [(vI (0 : Int)), (vI (0 : Int))] 147 false 2)) = (Option.some (AObj.cells [(vI (0 : Int)), (vI (0 : Int))] 147 false 2)))) ∧
 ((∃ n5 : Int,
 (∃ n6 : Int,
 ((At (l4) (0 + Int.toNat x3 * 2) 2 [(vI n5), (vI n6)]) ∧
 ((Go.Value.agg [(vI n5), (vI n6)].toArray) = (Go.Value.agg [(vI n3), (vI n4)].toArray))))) ∧
 ((bcase (decide (0 ≤ x3))
 (bcase (decide (x3 < (↑n0 : Int)))
 ((Go.Value.pointer (Option.some (Go.Addr.mk 500 (0 + Int.toNat x3 * 2) Option.none))) = (Go.Value.pointer (Option.some (Go.Addr.mk 500 (0 + Int.toNat x3 * 2) Option.none))))
 False)
 False) ∧
 (((vI x3) = (vI x3)) ∧
 (((Go.Value.slice (Option.some (Go.Addr.mk 500 0 Option.none)) (n0) (c1)) = (Go.Value.slice (Option.some (Go.Addr.mk 500 0 Option.none)) (n0) (c1))) ∧
 ((∃ n5 : Int,
 (∃ n6 : Int,
 ((At (l4) (0 + Int.toNat (IntKind.wrap .i64 (x3 - 1)) * 2) 2 [(vI n5), (vI n6)]) ∧
 ((Go.Value.agg [(vI n5), (vI n6)].toArray) = (Go.Value.agg [(vI n1), (vI n2)].toArray))))) ∧
 ((bcase (decide (0 ≤ IntKind.wrap .i64 (x3 - 1)))
 (bcase (decide (IntKind.wrap .i64 (x3 - 1) < (↑n0 : Int)))
 ((Go.Value.pointer (Option.some (Go.Addr.mk 500 (0 + Int.toNat (IntKind.wrap .i64 (x3 - 1)) * 2) Option.none))) = (Go.Value.pointer (Option.some (Go.Addr.mk 500 (0 + Int.toNat (IntKind.wrap .i64 (x3 - 1)) * 2) Option.none))))
 False)
 False) ∧
 (((vI (IntKind.wrap .i64 (x3 - 1))) = (vI (IntKind.wrap .i64 (x3 - 1)))) ∧
 (((vI x3) = (vI x3)) ∧
 (((Go.Value.slice (Option.some (Go.Addr.mk 500 0 Option.none)) (n0) (c1)) = (Go.Value.slice (Option.some (Go.Addr.mk 500 0 Option.none)) (n0) (c1))) ∧
 True))))))))))) ∧
 (((∃ n5 : Int,
 (∃ n6 : Int,
 ((At (l4) (0 + Int.toNat x3 * 2) 2 [(vI n5), (vI n6)]) ∧
 ((Go.Value.agg [(vI n5), (vI n6)].toArray) = (Go.Value.agg [(vI n3), (vI n4)].toArray))))) ∧
 ((bcase (decide (0 ≤ x3))
 (bcase (decide (x3 < (↑n0 : Int)))
 ((Go.Value.pointer (Option.some (Go.Addr.mk 500 (0 + Int.toNat x3 * 2) Option.none))) = (Go.Value.pointer (Option.some (Go.Addr.mk 500 (0 + Int.toNat x3 * 2) Option.none))))
 False)
 False) ∧
 (((vI x3) = (vI x3)) ∧
 (((Go.Value.slice (Option.some (Go.Addr.mk 500 0 Option.none)) (n0) (c1)) = (Go.Value.slice (Option.some (Go.Addr.mk 500 0 Option.none)) (n0) (c1))) ∧
 True)))) ∧
 (True ∧
 (((Says C 23 [(D.val (vI x2)), (D.val (vI n1)), (D.val (vI n3))] [(D.val (Value.bool true))]) ∧
 (∃ n5 : Int,
 (∃ n6 : Int,
 ((Says C 70 [(D.val (vI (IntKind.wrap .i64 (IntKind.wrap .i64 (n2 * IntKind.wrap .i64 (n3 - x2)) + IntKind.wrap .i64 (n4 * IntKind.wrap .i64 (x2 - n1)))))), (D.val (vI (IntKind.wrap .i64 (n3 - n1))))] [(D.agg [(D.val (vI n5)), (D.val (vI n6))])]) ∧
 (k [(D.agg [(D.val (vI n5)), (D.val (vI n6))]), (D.val (vI (0 : Int)))]))))) ∨
 ((Says C 23 [(D.val (vI x2)), (D.val (vI n1)), (D.val (vI n3))] [(D.val (Value.bool false))]) ∧
 (B [(Prod.mk 0 (Go.Value.slice (Option.some (Go.Addr.mk 500 0 Option.none)) (n0) (c1))), (Prod.mk 1 (vI x2)), (Prod.mk 4 (Go.Value.pointer (Option.some (Go.Addr.mk 1000 0 Option.none)))), (Prod.mk 6 (vI (IntKind.wrap .i64 (x3 + 1))))] [(Prod.mk 500 (AObj.sym (l4) false 2)), (Prod.mk 1000 (AObj.cells [(vI x5), (vI x6)] 26 false 2))])))))))))
 False)
 False))))
 False)
 False)
 (X 0 [(Prod.mk 4 (Go.Value.pointer (Option.some (Go.Addr.mk 1000 0 Option.none))))] [(Prod.mk 1000 (AObj.cells [(vI x5), (vI x6)] 26 false 2))])) := by kernel_rfl
def nRHt2 (C : Ct) (L : AtLoop) (x0 : Int) (x1 : Int) (k : List D → Prop) : Prop := wpNext Try.prog (hU C) L 54 0 .normal [(4, (Value.pointer (some ⟨1000, 0, none⟩)))] [(1000, (AObj.cells [(Value.int .i64 x0), (Value.int .i64 x1)] 26 false 2))] (dataK k)
theorem nRHt2_text (C : Ct) (L : AtLoop) (x0 : Int) (x1 : Int) (k : List D → Prop) : nRHt2 C L x0 x1 k =
 (k [(D.agg [(D.val (vI (0 : Int))), (D.val (vI (0 : Int)))]), (D.val (vI (21 : Int)))]) := by kernel_rfl
def gRWon (C : Ct) (L : AtLoop) (n0 : Nat) (c0 : Nat) (l0 : List Value) (k : List D → Prop) : Prop := jFn Try.prog (hU C) L [] 55 #[.slice (some ⟨500, 0, none⟩) n0 c0, .slice none 0 0] (heapOf [(500, .sym l0 false 2)]) (dataK k)
theorem gRWon_text (C : Ct) (L : AtLoop) (n0 : Nat) (c0 : Nat) (l0 : List Go.Value) (k : List D → Prop) : gRWon C L n0 c0 l0 k =
 (bcase (decide (0 + n0 * 2 ≤ List.length l0))
 ((Says C 49 [(D.sl (n0) 2 (List.take (n0 * 2) (List.drop 0 l0)))] [(D.sl (n0) 2 (List.take (n0 * 2) (List.drop 0 l0)))]) ∧
 (L 0 [(Prod.mk 1 (Go.Value.slice Option.none 0 0)), (Prod.mk 6 (Go.Value.slice (Option.some (Go.Addr.mk 1000 0 Option.none)) (n0) (n0))), (Prod.mk 7 (vI (0 : Int)))] [(Prod.mk 1000 (AObj.sym (List.take (n0 * 2) (List.drop 0 l0)) true 2))]))
 False) := by kernel_rfl
abbrev zRWon1 (n0 : Nat) (x1 : Int) (l2 : List Value) : Slots × Blocks := ([(1, (Value.slice none 0 0)), (6, (Value.slice (some ⟨1000, 0, none⟩) n0 n0)), (7, (Value.int .i64 x1))], [(1000, (AObj.sym l2 true 2))])
def rRWon1 (C : Ct) (L : AtLoop) (n0 : Nat) (x1 : Int) (l2 : List Value) (B : Bx) (X : Xx) (k : List D → Prop) : Prop := jRound Try.prog (hU C) L [] 55 0 [(1, (Value.slice none 0 0)), (6, (Value.slice (some ⟨1000, 0, none⟩) n0 n0)), (7, (Value.int .i64 x1))] [(1000, (AObj.sym l2 true 2))] B X (dataK k)
theorem rRWon1_text (C : Ct) (L : AtLoop) (n0 : Nat) (x1 : Int) (l2 : List Go.Value) (B : Bx) (X : Xx) (k : List D → Prop) : rRWon1 C L n0 x1 l2 B X k =
 (bcase (decide (x1 < (↑0 : Int)))
 False
 (X 0 [(Prod.mk 6 (Go.Value.slice (Option.some (Go.Addr.mk 1000 0 Option.none)) (n0) (n0)))] [(Prod.mk 1000 (AObj.sym (l2) true 2))])) := by kernel_rfl
def nRWon2 (C : Ct) (L : AtLoop) (n0 : Nat) (l1 : List Value) (k : List D → Prop) : Prop := jNext Try.prog (hU C) L [] 55 0 .normal [(6, (Value.slice (some ⟨1000, 0, none⟩) n0 n0))] [(1000, (AObj.sym l1 true 2))] (dataK k)
theorem nRWon2_text (C : Ct) (L : AtLoop) (n0 : Nat) (l1 : List Go.Value) (k : List D → Prop) : nRWon2 C L n0 l1 k =
 ((((n0) = (n0)) ∧
 ((List.length l1) = (n0 * 2))) ∧
 (k [(D.sl (n0) 2 (l1)), (D.val (vI (0 : Int)))])) := by kernel_rfl
def gSC (C : Ct) (L : AtLoop) (n0 : Nat) (c0 : Nat) (l0 : List Value) (n1 : Nat) (c1 : Nat) (l1 : List Value) (k : List D → Prop) : Prop := wpFn Try.prog (hU C) L 0 56 #[.slice (some ⟨500, 0, none⟩) n0 c0, .slice (some ⟨501, 0, none⟩) n1 c1] (heapOf [(500, .sym l0 false 2), (501, .sym l1 false 2)]) (dataK k)
theorem gSC_text (C : Ct) (L : AtLoop) (n0 : Nat) (c0 : Nat) (l0 : List Go.Value) (n1 : Nat) (c1 : Nat) (l1 : List Go.Value) (k : List D → Prop) : gSC C L n0 c0 l0 n1 c1 l1 k =
 (bcase ((↑n0 : Int) != (↑n1 : Int))
 (k [(D.val (Value.bool false))])
 (L 0 [(Prod.mk 0 (Go.Value.slice (Option.some (Go.Addr.mk 500 0 Option.none)) (n0) (c0))), (Prod.mk 1 (Go.Value.slice (Option.some (Go.Addr.mk 501 0 Option.none)) (n1) (c1))), (Prod.mk 5 (vI (0 : Int)))] [(Prod.mk 500 (AObj.sym (l0) false 2)), (Prod.mk 501 (AObj.sym (l1) false 2))])) := by kernel_rfl
abbrev zSC1 (n0 : Nat) (c1 : Nat) (n2 : Nat) (c3 : Nat) (x4 : Int) (l5 : List Value) (l6 : List Value) : Slots × Blocks := ([(0, (Value.slice (some ⟨500, 0, none⟩) n0 c1)), (1, (Value.slice (some ⟨501, 0, none⟩) n2 c3)), (5, (Value.int .i64 x4))], [(500, (AObj.sym l5 false 2)), (501, (AObj.sym l6 false 2))])
def rSC1 (C : Ct) (L : AtLoop) (n0 : Nat) (c1 : Nat) (n2 : Nat) (c3 : Nat) (x4 : Int) (l5 : List Value) (l6 : List Value) (B : Bx) (X : Xx) (k : List D → Prop) : Prop := wpRound Try.prog (hU C) L 56 0 [(0, (Value.slice (some ⟨500, 0, none⟩) n0 c1)), (1, (Value.slice (some ⟨501, 0, none⟩) n2 c3)), (5, (Value.int .i64 x4))] [(500, (AObj.sym l5 false 2)), (501, (AObj.sym l6 false 2))] B X (dataK k)
theorem rSC1_text (C : Ct) (L : AtLoop) (n0 : Nat) (c1 : Nat) (n2 : Nat) (c3 : Nat) (x4 : Int) (l5 : List Go.Value) (l6 : List Go.Value) (B : Bx) (X : Xx) (k : List D → Prop) : rSC1 C L n0 c1 n2 c3 x4 l5 l6 B X k =
 (bcase (decide (x4 < (↑n0 : Int)))
 (bcase (decide (0 ≤ x4))
 (bcase (decide (x4 < (↑n0 : Int)))
 (∃ n1 : Int,
 (∃ n3 : Int,
 ((At (l5) (0 + Int.toNat x4 * 2) 2 [(vI n1), (vI n3)]) ∧
 (bcase (decide (0 ≤ x4))
 (bcase (decide (x4 < (↑n2 : Int)))
 (∃ n4 : Int,
 (∃ n5 : Int,
 ((At (l6) (0 + Int.toNat x4 * 2) 2 [(vI n4), (vI n5)]) ∧
 (bcase (if Bool.true = Bool.true then !(n1 == n4 && (n3 == n5 && Bool.true)) else n1 == n4 && (n3 == n5 && Bool.true))
 (((bcase (if Bool.true = Bool.true then !(n1 == n4 && (n3 == n5 && Bool.true)) else n1 == n4 && (n3 == n5 && Bool.true))
 ((Value.bool true) = (Value.bool true))
 ((Value.bool false) = (Value.bool true))) ∧
 ((∃ n6 : Int,
 (∃ n7 : Int,
 ((At (l6) (0 + Int.toNat x4 * 2) 2 [(vI n6), (vI n7)]) ∧
 ((Go.Value.agg [(vI n6), (vI n7)].toArray) = (Go.Value.agg [(vI n4), (vI n5)].toArray))))) ∧
 ((bcase (decide (0 ≤ x4))
 (bcase (decide (x4 < (↑n2 : Int)))
 ((Go.Value.pointer (Option.some (Go.Addr.mk 501 (0 + Int.toNat x4 * 2) Option.none))) = (Go.Value.pointer (Option.some (Go.Addr.mk 501 (0 + Int.toNat x4 * 2) Option.none))))
 False)
 False) ∧
 (((vI x4) = (vI x4)) ∧
 (((Go.Value.slice (Option.some (Go.Addr.mk 501 0 Option.none)) (n2) (c3)) = (Go.Value.slice (Option.some (Go.Addr.mk 501 0 Option.none)) (n2) (c3))) ∧
 ((∃ n6 : Int,
 (∃ n7 : Int,
 ((At (l5) (0 + Int.toNat x4 * 2) 2 [(vI n6), (vI n7)]) ∧
 ((Go.Value.agg [(vI n6), (vI n7)].toArray) = (Go.Value.agg [(vI n1), (vI n3)].toArray))))) ∧
 ((bcase (decide (0 ≤ x4))
 (bcase (decide (x4 < (↑n0 : Int)))
 ((Go.Value.pointer (Option.some (Go.Addr.mk 500 (0 + Int.toNat x4 * 2) Option.none))) = (Go.Value.pointer (Option.some (Go.Addr.mk 500 (0 + Int.toNat x4 * 2) Option.none))))
 False)
 False) ∧
 (((vI x4) = (vI x4)) ∧
 (((Go.Value.slice (Option.some (Go.Addr.mk 500 0 Option.none)) (n0) (c1)) = (Go.Value.slice (Option.some (Go.Addr.mk 500 0 Option.none)) (n0) (c1))) ∧
 True))))))))) ∧
 (k [(D.val (Value.bool false))]))
 (((bcase (if Bool.true = Bool.true then !(n1 == n4 && (n3 == n5 && Bool.true)) else n1 == n4 && (n3 == n5 && Bool.true))
 ((Value.bool true) = (Value.bool false))
 ((Value.bool false) = (Value.bool false))) ∧
 ((∃ n6 : Int,
 (∃ n7 : Int,
 ((At (l6) (0 + Int.toNat x4 * 2) 2 [(vI n6), (vI n7)]) ∧
 ((Go.Value.agg [(vI n6), (vI n7)].toArray) = (Go.Value.agg [(vI n4), (vI n5)].toArray))))) ∧
 ((bcase (decide (0 ≤ x4))
 (bcase (decide (x4 < (↑n2 : Int)))
 ((Go.Value.pointer (Option.some (Go.Addr.mk 501 (0 + Int.toNat x4 * 2) Option.none))) = (Go.Value.pointer (Option.some (Go.Addr.mk 501 (0 + Int.toNat x4 * 2) Option.none))))
 False)
 False) ∧
 (((vI x4) = (vI x4)) ∧
 (((Go.Value.slice (Option.some (Go.Addr.mk 501 0 Option.none)) (n2) (c3)) = (Go.Value.slice (Option.some (Go.Addr.mk 501 0 Option.none)) (n2) (c3))) ∧
 ((∃ n6 : Int,
 (∃ n7 : Int,
 ((At (l5) (0 + Int.toNat x4 * 2) 2 [(vI n6), (vI n7)]) ∧
 ((Go.Value.agg [(vI n6), (vI n7)].toArray) = (Go.Value.agg [(vI n1), (vI n3)].toArray))))) ∧
 ((bcase (decide (0 ≤ x4))
 (bcase (decide (x4 < (↑n0 : Int)))
 ((Go.Value.pointer (Option.some (Go.Addr.mk 500 (0 + Int.toNat x4 * 2) Option.none))) = (Go.Value.pointer (Option.some (Go.Addr.mk 500 (0 + Int.toNat x4 * 2) Option.none))))
 False)
 False) ∧
 (((vI x4) = (vI x4)) ∧
 (((Go.Value.slice (Option.some (Go.Addr.mk 500 0 Option.none)) (n0) (c1)) = (Go.Value.slice (Option.some (Go.Addr.mk 500 0 Option.none)) (n0) (c1))) ∧
 True))))))))) ∧
 (B [(Prod.mk 0 (Go.Value.slice (Option.some (Go.Addr.mk 500 0 Option.none)) (n0) (c1))), (Prod.mk 1 (Go.Value.slice (Option.some (Go.Addr.mk 501 0 Option.none)) (n2) (c3))), (Prod.mk 5 (vI (IntKind.wrap .i64 (x4 + 1))))] [(Prod.mk 500 (AObj.sym (l5) false 2)), (Prod.mk 501 (AObj.sym (l6) false 2))]))))))
 False)
 False))))
 False)
 False)
 (X 0 [] [])) := by kernel_rfl
def nSC2 (C : Ct) (L : AtLoop) (k : List D → Prop) : Prop := wpNext Try.prog (hU C) L 56 0 .normal [] [] (dataK k)
theorem nSC2_text (C : Ct) (L : AtLoop) (k : List D → Prop) : nSC2 C L k =
 (k [(D.val (Value.bool true))]) := by kernel_rfl
def gSCn (C : Ct) (L : AtLoop) (k : List D → Prop) : Prop := wpFn Try.prog (hU C) L 0 56 #[.slice none 0 0, .slice none 0 0] (heapOf []) (dataK k)
theorem gSCn_text (C : Ct) (L : AtLoop) (k : List D → Prop) : gSCn C L k =
 (L 0 [(Prod.mk 0 (Go.Value.slice Option.none 0 0)), (Prod.mk 1 (Go.Value.slice Option.none 0 0)), (Prod.mk 5 (vI (0 : Int)))] []) := by kernel_rfl
abbrev zSCn1 (x0 : Int) : Slots × Blocks := ([(0, (Value.slice none 0 0)), (1, (Value.slice none 0 0)), (5, (Value.int .i64 x0))], [])
def rSCn1 (C : Ct) (L : AtLoop) (x0 : Int) (B : Bx) (X : Xx) (k : List D → Prop) : Prop := wpRound Try.prog (hU C) L 56 0 [(0, (Value.slice none 0 0)), (1, (Value.slice none 0 0)), (5, (Value.int .i64 x0))] [] B X (dataK k)
theorem rSCn1_text (C : Ct) (L : AtLoop) (x0 : Int) (B : Bx) (X : Xx) (k : List D → Prop) : rSCn1 C L x0 B X k =
 (bcase (decide (x0 < (↑0 : Int)))
 False
 (X 0 [] [])) := by kernel_rfl
def nSCn2 (C : Ct) (L : AtLoop) (k : List D → Prop) : Prop := wpNext Try.prog (hU C) L 56 0 .normal [] [] (dataK k)
theorem nSCn2_text (C : Ct) (L : AtLoop) (k : List D → Prop) : nSCn2 C L k =
 (k [(D.val (Value.bool true))]) := by kernel_rfl
def gCoC (C : Ct) (L : AtLoop) (n0 : Nat) (c0 : Nat) (l0 : List Value) (k : List D → Prop) : Prop := wpFn Try.prog (hE C) L 0 49 #[.slice (some ⟨500, 0, none⟩) n0 c0] (heapOf [(500, .sym l0 false 2)]) (dataK k)
theorem gCoC_text (C : Ct) (L : AtLoop) (n0 : Nat) (c0 : Nat) (l0 : List Go.Value) (k : List D → Prop) : gCoC C L n0 c0 l0 k =
 (bcase (decide (0 + n0 * 2 ≤ List.length l0))
 (bcase (n0 == 0)
 (((0 = 0) ∧
 (0 = 0)) ∧
 (k [(D.sl 0 2 [])]))
 (bcase (decide (0 < 0 + n0))
 (bcase (decide ((2 * (0 + n0) + 768) * 16 ≤ 281474976710656))
 (bcase (decide (0 + n0 ≤ 1099511627776))
 ((((0 + n0) = (0 + n0)) ∧
 ((List.length (List.take 0 (List.drop 0 []) ++ List.take (n0 * 2) (List.drop 0 l0))) = ((0 + n0) * 2))) ∧
 (k [(D.sl (0 + n0) 2 ([] ++ (List.take (n0 * 2) (List.drop 0 l0))))]))
 False)
 False)
 False))
 False) := by kernel_rfl
def gCoCn (C : Ct) (L : AtLoop) (k : List D → Prop) : Prop := wpFn Try.prog (hE C) L 0 49 #[.slice none 0 0] (heapOf []) (dataK k)
theorem gCoCn_text (C : Ct) (L : AtLoop) (k : List D → Prop) : gCoCn C L k =
 (((0 = 0) ∧
 (0 = 0)) ∧
 (k [(D.sl 0 2 [])])) := by kernel_rfl
def gCoS (C : Ct) (L : AtLoop) (n0 : Nat) (c0 : Nat) (l0 : List Value) (k : List D → Prop) : Prop := wpFn Try.prog (hE C) L 0 52 #[.slice (some ⟨500, 0, none⟩) n0 c0] (heapOf [(500, .sym l0 false 3)]) (dataK k)
theorem gCoS_text (C : Ct) (L : AtLoop) (n0 : Nat) (c0 : Nat) (l0 : List Go.Value) (k : List D → Prop) : gCoS C L n0 c0 l0 k =
 (bcase (decide (0 + n0 * 3 ≤ List.length l0))
 (bcase (n0 == 0)
 (((0 = 0) ∧
 (0 = 0)) ∧
 (k [(D.sl 0 3 [])]))
 (bcase (decide (0 < 0 + n0))
 (bcase (decide ((2 * (0 + n0) + 768) * 24 ≤ 281474976710656))
 (bcase (decide (0 + n0 ≤ 1099511627776))
 ((((0 + n0) = (0 + n0)) ∧
 ((List.length (List.take 0 (List.drop 0 []) ++ List.take (n0 * 3) (List.drop 0 l0))) = ((0 + n0) * 3))) ∧
 (k [(D.sl (0 + n0) 3 ([] ++ (List.take (n0 * 3) (List.drop 0 l0))))]))
 False)
 False)
 False))
 False) := by kernel_rfl
def gCoSn (C : Ct) (L : AtLoop) (k : List D → Prop) : Prop := wpFn Try.prog (hE C) L 0 52 #[.slice none 0 0] (heapOf []) (dataK k)
theorem gCoSn_text (C : Ct) (L : AtLoop) (k : List D → Prop) : gCoSn C L k =
 (((0 = 0) ∧
 (0 = 0)) ∧
 (k [(D.sl 0 3 [])])) := by kernel_rfl
def gCoP (C : Ct) (L : AtLoop) (n0 : Nat) (c0 : Nat) (l0 : List Value) (k : List D → Prop) : Prop := wpFn Try.prog (hE C) L 0 103 #[.slice (some ⟨500, 0, none⟩) n0 c0] (heapOf [(500, .sym l0 false 2)]) (dataK k)
theorem gCoP_text (C : Ct) (L : AtLoop) (n0 : Nat) (c0 : Nat) (l0 : List Go.Value) (k : List D → Prop) : gCoP C L n0 c0 l0 k =
 (bcase (decide (0 + n0 * 2 ≤ List.length l0))
 (bcase (n0 == 0)
 (((0 = 0) ∧
 (0 = 0)) ∧
 (k [(D.sl 0 2 [])]))
 (bcase (decide (0 < 0 + n0))
 (bcase (decide ((2 * (0 + n0) + 768) * 16 ≤ 281474976710656))
 (bcase (decide (0 + n0 ≤ 1099511627776))
 ((((0 + n0) = (0 + n0)) ∧
 ((List.length (List.take 0 (List.drop 0 []) ++ List.take (n0 * 2) (List.drop 0 l0))) = ((0 + n0) * 2))) ∧
 (k [(D.sl (0 + n0) 2 ([] ++ (List.take (n0 * 2) (List.drop 0 l0))))]))
 False)
 False)
 False))
 False) := by kernel_rfl
def gLk (C : Ct) (L : AtLoop) (x0 : Int) (x1 : Int) (x2 : Int) (x3 : Int) (n4 : Nat) (c4 : Nat) (l4 : List Value) (k : List D → Prop) : Prop := wpFn Try.prog (hU C) L 0 6 #[.agg #[.int .i64 x0, .int .i64 x1, .int .i64 x2, .int .i64 x3], .slice (some ⟨500, 0, none⟩) n4 c4] (heapOf [(500, .sym l4 false 2)]) (dataK k)
theorem gLk_text (C : Ct) (L : AtLoop) (x0 : Int) (x1 : Int) (x2 : Int) (x3 : Int) (n4 : Nat) (c4 : Nat) (l4 : List Go.Value) (k : List D → Prop) : gLk C L x0 x1 x2 x3 n4 c4 l4 k =
 (((Says C 12 [] [(D.val (Value.bool true))]) ∧
 (bcase (decide ((↑n4 : Int) > 12))
 (k [(D.val (Value.bool true))])
 ((((Go.Value.slice (Option.some (Go.Addr.mk 500 0 Option.none)) (n4) (c4)) = (Go.Value.slice (Option.some (Go.Addr.mk 500 0 Option.none)) (n4) (c4))) ∧
 (((Go.Value.agg [(vI x0), (vI x1), (vI x2), (vI x3)].toArray) = (Go.Value.agg [(vI x0), (vI x1), (vI x2), (vI x3)].toArray)) ∧
 True)) ∧
 (bcase (decide (0 + n4 * 2 ≤ List.length l4))
 ((Says C 33 [(D.sl (n4) 2 (List.take (n4 * 2) (List.drop 0 l4)))] [(D.sl (n4) 2 (List.take (n4 * 2) (List.drop 0 l4)))]) ∧
 ((((Go.Value.agg [(vI x0), (vI x1), (vI x2), (vI x3)].toArray) = (Go.Value.agg [(vI x0), (vI x1), (vI x2), (vI x3)].toArray)) ∧
 True) ∧
 (bcase (decide (0 + n4 * 2 ≤ List.length (List.take (n4 * 2) (List.drop 0 l4))))
 ((∃ n1 : Int,
 ((Says C 32 [(D.agg [(D.val (vI x0)), (D.val (vI x1)), (D.val (vI x2)), (D.val (vI x3))]), (D.sl (n4) 2 (List.take (n4 * 2) (List.drop 0 (List.take (n4 * 2) (List.drop 0 l4)))))] [D.nil, (D.val (vI n1))]) ∧
 ((((vI n1) = (vI n1)) ∧
 (((Go.Value.slice Option.none 0 0) = (Go.Value.slice Option.none 0 0)) ∧
 (((Go.Value.tuple [(Go.Value.slice Option.none 0 0), (vI n1)].toArray) = (Go.Value.tuple [(Go.Value.slice Option.none 0 0), (vI n1)].toArray)) ∧
 True))) ∧
 ((((vI n1) = (vI n1)) ∧
 True) ∧
 (True ∧
 (∃ n2 : Int,
 ((Says C 34 [(D.agg [(D.val (vI x0)), (D.val (vI x1)), (D.val (vI x2)), (D.val (vI x3))])] [(D.val (vI n2))]) ∧
 (bcase (n2 == 0)
 (bcase (decide (0 + n4 * 2 ≤ List.length l4))
 (∃ n3 : Int,
 ((Says C 35 [(D.sl (n4) 2 (List.take (n4 * 2) (List.drop 0 l4)))] [(D.val (vI n3))]) ∧
 (bcase (n3 != 0)
 (bcase (n1 == n3)
 (k [(D.val (Value.bool true))])
 (k [(D.val (Value.bool false))]))
 (bcase (n1 != 0)
 (k [(D.val (Value.bool false))])
 (bcase (decide (0 + n4 * 2 ≤ List.length l4))
 (((Says C 37 [(D.agg [(D.val (vI x0)), (D.val (vI x1)), (D.val (vI x2)), (D.val (vI x3))]), (D.sl (n4) 2 (List.take (n4 * 2) (List.drop 0 l4)))] [D.nil]) ∧
 (((Says C 36 [D.nil, D.nil] [(D.val (Value.bool true))]) ∧
 ((((Go.Value.slice (Option.some (Go.Addr.mk 500 0 Option.none)) (n4) (c4)) = (Go.Value.slice (Option.some (Go.Addr.mk 500 0 Option.none)) (n4) (c4))) ∧
 (((Go.Value.agg [(vI (IntKind.wrap .i64 (Int.tdiv x0 2))), (vI (10000 : Int)), (vI (0 : Int)), (vI x3)].toArray) = (Go.Value.agg [(vI (IntKind.wrap .i64 (Int.tdiv x0 2))), (vI (10000 : Int)), (vI (0 : Int)), (vI x3)].toArray)) ∧
 True)) ∧
 (bcase (decide (0 + n4 * 2 ≤ List.length l4))
 ((Says C 33 [(D.sl (n4) 2 (List.take (n4 * 2) (List.drop 0 l4)))] [(D.sl (n4) 2 (List.take (n4 * 2) (List.drop 0 l4)))]) ∧
 ((((Go.Value.agg [(vI (IntKind.wrap .i64 (Int.tdiv x0 2))), (vI (10000 : Int)), (vI (0 : Int)), (vI x3)].toArray) = (Go.Value.agg [(vI (IntKind.wrap .i64 (Int.tdiv x0 2))), (vI (10000 : Int)), (vI (0 : Int)), (vI x3)].toArray)) ∧
 True) ∧
 (bcase (decide (0 + n4 * 2 ≤ List.length (List.take (n4 * 2) (List.drop 0 l4))))
 ((∃ n5 : Int,
 ((Says C 32 [(D.agg [(D.val (vI (IntKind.wrap .i64 (Int.tdiv x0 2)))), (D.val (vI (10000 : Int))), (D.val (vI (0 : Int))), (D.val (vI x3))]), (D.sl (n4) 2 (List.take (n4 * 2) (List.drop 0 (List.take (n4 * 2) (List.drop 0 l4)))))] [D.nil, (D.val (vI n5))]) ∧
 ((((vI n5) = (vI n5)) ∧
 (((Go.Value.slice Option.none 0 0) = (Go.Value.slice Option.none 0 0)) ∧
 (((Go.Value.tuple [(Go.Value.slice Option.none 0 0), (vI n5)].toArray) = (Go.Value.tuple [(Go.Value.slice Option.none 0 0), (vI n5)].toArray)) ∧
 True))) ∧
 ((((vI n5) = (vI n5)) ∧
 True) ∧
 (True ∧
 (bcase (n5 != 0)
 (k [(D.val (Value.bool false))])
 (L 0 [(Prod.mk 5 (Go.Value.slice Option.none 0 0)), (Prod.mk 9 (Go.Value.slice Option.none 0 0)), (Prod.mk 11 (vI (0 : Int)))] []))))))) ∨
 (∃ n5 : Nat,
 (∃ cs1 : List Go.Value,
 (∃ n6 : Int,
 ((Says C 32 [(D.agg [(D.val (vI (IntKind.wrap .i64 (Int.tdiv x0 2)))), (D.val (vI (10000 : Int))), (D.val (vI (0 : Int))), (D.val (vI x3))]), (D.sl (n4) 2 (List.take (n4 * 2) (List.drop 0 (List.take (n4 * 2) (List.drop 0 l4)))))] [(D.sl (n5) 1 (cs1)), (D.val (vI n6))]) ∧
 ((((vI n6) = (vI n6)) ∧
 (((Go.Value.slice (Option.some (Go.Addr.mk 1004 0 Option.none)) (n5) (n5)) = (Go.Value.slice (Option.some (Go.Addr.mk 1004 0 Option.none)) (n5) (n5))) ∧
 (((Go.Value.tuple [(Go.Value.slice (Option.some (Go.Addr.mk 1004 0 Option.none)) (n5) (n5)), (vI n6)].toArray) = (Go.Value.tuple [(Go.Value.slice (Option.some (Go.Addr.mk 1004 0 Option.none)) (n5) (n5)), (vI n6)].toArray)) ∧
 True))) ∧
 ((((vI n6) = (vI n6)) ∧
 True) ∧
 (True ∧
 (bcase (n6 != 0)
 (k [(D.val (Value.bool false))])
 (bcase ((↑n5 : Int) != (↑0 : Int))
 (k [(D.val (Value.bool false))])
 (L 0 [(Prod.mk 5 (Go.Value.slice Option.none 0 0)), (Prod.mk 9 (Go.Value.slice (Option.some (Go.Addr.mk 1000 0 Option.none)) (n5) (n5))), (Prod.mk 11 (vI (0 : Int)))] [(Prod.mk 1000 (AObj.sym (cs1) true 1))])))))))))))
 False)))
 False))) ∨
 ((Says C 36 [D.nil, D.nil] [(D.val (Value.bool false))]) ∧
 (k [(D.val (Value.bool false))])))) ∨
 (∃ n5 : Nat,
 (∃ cs1 : List Go.Value,
 ((Says C 37 [(D.agg [(D.val (vI x0)), (D.val (vI x1)), (D.val (vI x2)), (D.val (vI x3))]), (D.sl (n4) 2 (List.take (n4 * 2) (List.drop 0 l4)))] [(D.sl (n5) 1 (cs1))]) ∧
 (bcase (decide (0 + n5 * 1 ≤ List.length cs1))
 (((Says C 36 [D.nil, (D.sl (n5) 1 (List.take (n5 * 1) (List.drop 0 cs1)))] [(D.val (Value.bool true))]) ∧
 ((((Go.Value.slice (Option.some (Go.Addr.mk 500 0 Option.none)) (n4) (c4)) = (Go.Value.slice (Option.some (Go.Addr.mk 500 0 Option.none)) (n4) (c4))) ∧
 (((Go.Value.agg [(vI (IntKind.wrap .i64 (Int.tdiv x0 2))), (vI (10000 : Int)), (vI (0 : Int)), (vI x3)].toArray) = (Go.Value.agg [(vI (IntKind.wrap .i64 (Int.tdiv x0 2))), (vI (10000 : Int)), (vI (0 : Int)), (vI x3)].toArray)) ∧
 True)) ∧
 (bcase (decide (0 + n4 * 2 ≤ List.length l4))
 ((Says C 33 [(D.sl (n4) 2 (List.take (n4 * 2) (List.drop 0 l4)))] [(D.sl (n4) 2 (List.take (n4 * 2) (List.drop 0 l4)))]) ∧
 ((((Go.Value.agg [(vI (IntKind.wrap .i64 (Int.tdiv x0 2))), (vI (10000 : Int)), (vI (0 : Int)), (vI x3)].toArray) = (Go.Value.agg [(vI (IntKind.wrap .i64 (Int.tdiv x0 2))), (vI (10000 : Int)), (vI (0 : Int)), (vI x3)].toArray)) ∧
 True) ∧
 (bcase (decide (0 + n4 * 2 ≤ List.length (List.take (n4 * 2) (List.drop 0 l4))))
 ((∃ n6 : Int,
 ((Says C 32 [(D.agg [(D.val (vI (IntKind.wrap .i64 (Int.tdiv x0 2)))), (D.val (vI (10000 : Int))), (D.val (vI (0 : Int))), (D.val (vI x3))]), (D.sl (n4) 2 (List.take (n4 * 2) (List.drop 0 (List.take (n4 * 2) (List.drop 0 l4)))))] [D.nil, (D.val (vI n6))]) ∧
 ((((vI n6) = (vI n6)) ∧
 (((Go.Value.slice Option.none 0 0) = (Go.Value.slice Option.none 0 0)) ∧
 (((Go.Value.tuple [(Go.Value.slice Option.none 0 0), (vI n6)].toArray) = (Go.Value.tuple [(Go.Value.slice Option.none 0 0), (vI n6)].toArray)) ∧
 True))) ∧
 ((((vI n6) = (vI n6)) ∧
 True) ∧
 (True ∧
 (bcase (n6 != 0)
 (k [(D.val (Value.bool false))])
 (L 0 [(Prod.mk 5 (Go.Value.slice Option.none 0 0)), (Prod.mk 9 (Go.Value.slice Option.none 0 0)), (Prod.mk 11 (vI (0 : Int)))] []))))))) ∨
 (∃ n6 : Nat,
 (∃ cs2 : List Go.Value,
 (∃ n7 : Int,
 ((Says C 32 [(D.agg [(D.val (vI (IntKind.wrap .i64 (Int.tdiv x0 2)))), (D.val (vI (10000 : Int))), (D.val (vI (0 : Int))), (D.val (vI x3))]), (D.sl (n4) 2 (List.take (n4 * 2) (List.drop 0 (List.take (n4 * 2) (List.drop 0 l4)))))] [(D.sl (n6) 1 (cs2)), (D.val (vI n7))]) ∧
 ((((vI n7) = (vI n7)) ∧
 (((Go.Value.slice (Option.some (Go.Addr.mk 1005 0 Option.none)) (n6) (n6)) = (Go.Value.slice (Option.some (Go.Addr.mk 1005 0 Option.none)) (n6) (n6))) ∧
 (((Go.Value.tuple [(Go.Value.slice (Option.some (Go.Addr.mk 1005 0 Option.none)) (n6) (n6)), (vI n7)].toArray) = (Go.Value.tuple [(Go.Value.slice (Option.some (Go.Addr.mk 1005 0 Option.none)) (n6) (n6)), (vI n7)].toArray)) ∧
 True))) ∧
 ((((vI n7) = (vI n7)) ∧
 True) ∧
 (True ∧
 (bcase (n7 != 0)
 (k [(D.val (Value.bool false))])
 (bcase ((↑n6 : Int) != (↑0 : Int))
 (k [(D.val (Value.bool false))])
 (L 0 [(Prod.mk 5 (Go.Value.slice Option.none 0 0)), (Prod.mk 9 (Go.Value.slice (Option.some (Go.Addr.mk 1000 0 Option.none)) (n6) (n6))), (Prod.mk 11 (vI (0 : Int)))] [(Prod.mk 1000 (AObj.sym (cs2) true 1))])))))))))))
 False)))
 False))) ∨
 ((Says C 36 [D.nil, (D.sl (n5) 1 (List.take (n5 * 1) (List.drop 0 cs1)))] [(D.val (Value.bool false))]) ∧
 (k [(D.val (Value.bool false))])))
 False)))))
 False)))))
 False)
 (bcase (n2 != 0)
 (bcase (n1 == n2)
 (k [(D.val (Value.bool true))])
 (k [(D.val (Value.bool false))]))
 (bcase (n1 != 0)
 (k [(D.val (Value.bool false))])
 (bcase (decide (0 + n4 * 2 ≤ List.length l4))
 (((Says C 37 [(D.agg [(D.val (vI x0)), (D.val (vI x1)), (D.val (vI x2)), (D.val (vI x3))]), (D.sl (n4) 2 (List.take (n4 * 2) (List.drop 0 l4)))] [D.nil]) ∧
 (((Says C 36 [D.nil, D.nil] [(D.val (Value.bool true))]) ∧
 ((((Go.Value.slice (Option.some (Go.Addr.mk 500 0 Option.none)) (n4) (c4)) = (Go.Value.slice (Option.some (Go.Addr.mk 500 0 Option.none)) (n4) (c4))) ∧
 (((Go.Value.agg [(vI (IntKind.wrap .i64 (Int.tdiv x0 2))), (vI (10000 : Int)), (vI (0 : Int)), (vI x3)].toArray) = (Go.Value.agg [(vI (IntKind.wrap .i64 (Int.tdiv x0 2))), (vI (10000 : Int)), (vI (0 : Int)), (vI x3)].toArray)) ∧
 True)) ∧
 (bcase (decide (0 + n4 * 2 ≤ List.length l4))
 ((Says C 33 [(D.sl (n4) 2 (List.take (n4 * 2) (List.drop 0 l4)))] [(D.sl (n4) 2 (List.take (n4 * 2) (List.drop 0 l4)))]) ∧
 ((((Go.Value.agg [(vI (IntKind.wrap .i64 (Int.tdiv x0 2))), (vI (10000 : Int)), (vI (0 : Int)), (vI x3)].toArray) = (Go.Value.agg [(vI (IntKind.wrap .i64 (Int.tdiv x0 2))), (vI (10000 : Int)), (vI (0 : Int)), (vI x3)].toArray)) ∧
 True) ∧
 (bcase (decide (0 + n4 * 2 ≤ List.length (List.take (n4 * 2) (List.drop 0 l4))))
 ((∃ n3 : Int,
 ((Says C 32 [(D.agg [(D.val (vI (IntKind.wrap .i64 (Int.tdiv x0 2)))), (D.val (vI (10000 : Int))), (D.val (vI (0 : Int))), (D.val (vI x3))]), (D.sl (n4) 2 (List.take (n4 * 2) (List.drop 0 (List.take (n4 * 2) (List.drop 0 l4)))))] [D.nil, (D.val (vI n3))]) ∧
 ((((vI n3) = (vI n3)) ∧
 (((Go.Value.slice Option.none 0 0) = (Go.Value.slice Option.none 0 0)) ∧
 (((Go.Value.tuple [(Go.Value.slice Option.none 0 0), (vI n3)].toArray) = (Go.Value.tuple [(Go.Value.slice Option.none 0 0), (vI n3)].toArray)) ∧
 True))) ∧
 ((((vI n3) = (vI n3)) ∧
 True) ∧
 (True ∧
 (bcase (n3 != 0)
 (k [(D.val (Value.bool false))])
 (L 0 [(Prod.mk 5 (Go.Value.slice Option.none 0 0)), (Prod.mk 9 (Go.Value.slice Option.none 0 0)), (Prod.mk 11 (vI (0 : Int)))] []))))))) ∨
 (∃ n3 : Nat,
 (∃ cs1 : List Go.Value,
 (∃ n5 : Int,
 ((Says C 32 [(D.agg [(D.val (vI (IntKind.wrap .i64 (Int.tdiv x0 2)))), (D.val (vI (10000 : Int))), (D.val (vI (0 : Int))), (D.val (vI x3))]), (D.sl (n4) 2 (List.take (n4 * 2) (List.drop 0 (List.take (n4 * 2) (List.drop 0 l4)))))] [(D.sl (n3) 1 (cs1)), (D.val (vI n5))]) ∧
 ((((vI n5) = (vI n5)) ∧
 (((Go.Value.slice (Option.some (Go.Addr.mk 1004 0 Option.none)) (n3) (n3)) = (Go.Value.slice (Option.some (Go.Addr.mk 1004 0 Option.none)) (n3) (n3))) ∧
 (((Go.Value.tuple [(Go.Value.slice (Option.some (Go.Addr.mk 1004 0 Option.none)) (n3) (n3)), (vI n5)].toArray) = (Go.Value.tuple [(Go.Value.slice (Option.some (Go.Addr.mk 1004 0 Option.none)) (n3) (n3)), (vI n5)].toArray)) ∧
 True))) ∧
 ((((vI n5) = (vI n5)) ∧
 True) ∧
 (True ∧
 (bcase (n5 != 0)
 (k [(D.val (Value.bool false))])
 (bcase ((↑n3 : Int) != (↑0 : Int))
 (k [(D.val (Value.bool false))])
 (L 0 [(Prod.mk 5 (Go.Value.slice Option.none 0 0)), (Prod.mk 9 (Go.Value.slice (Option.some (Go.Addr.mk 1000 0 Option.none)) (n3) (n3))), (Prod.mk 11 (vI (0 : Int)))] [(Prod.mk 1000 (AObj.sym (cs1) true 1))])))))))))))
 False)))
 False))) ∨
 ((Says C 36 [D.nil, D.nil] [(D.val (Value.bool false))]) ∧
 (k [(D.val (Value.bool false))])))) ∨
 (∃ n3 : Nat,
 (∃ cs1 : List Go.Value,
 ((Says C 37 [(D.agg [(D.val (vI x0)), (D.val (vI x1)), (D.val (vI x2)), (D.val (vI x3))]), (D.sl (n4) 2 (List.take (n4 * 2) (List.drop 0 l4)))] [(D.sl (n3) 1 (cs1))]) ∧
 (bcase (decide (0 + n3 * 1 ≤ List.length cs1))
 (((Says C 36 [D.nil, (D.sl (n3) 1 (List.take (n3 * 1) (List.drop 0 cs1)))] [(D.val (Value.bool true))]) ∧
 ((((Go.Value.slice (Option.some (Go.Addr.mk 500 0 Option.none)) (n4) (c4)) = (Go.Value.slice (Option.some (Go.Addr.mk 500 0 Option.none)) (n4) (c4))) ∧
 (((Go.Value.agg [(vI (IntKind.wrap .i64 (Int.tdiv x0 2))), (vI (10000 : Int)), (vI (0 : Int)), (vI x3)].toArray) = (Go.Value.agg [(vI (IntKind.wrap .i64 (Int.tdiv x0 2))), (vI (10000 : Int)), (vI (0 : Int)), (vI x3)].toArray)) ∧
 True)) ∧
 (bcase (decide (0 + n4 * 2 ≤ List.length l4))
 ((Says C 33 [(D.sl (n4) 2 (List.take (n4 * 2) (List.drop 0 l4)))] [(D.sl (n4) 2 (List.take (n4 * 2) (List.drop 0 l4)))]) ∧
 ((((Go.Value.agg [(vI (IntKind.wrap .i64 (Int.tdiv x0 2))), (vI (10000 : Int)), (vI (0 : Int)), (vI x3)].toArray) = (Go.Value.agg [(vI (IntKind.wrap .i64 (Int.tdiv x0 2))), (vI (10000 : Int)), (vI (0 : Int)), (vI x3)].toArray)) ∧
 True) ∧
 (bcase (decide (0 + n4 * 2 ≤ List.length (List.take (n4 * 2) (List.drop 0 l4))))
 ((∃ n5 : Int,
 ((Says C 32 [(D.agg [(D.val (vI (IntKind.wrap .i64 (Int.tdiv x0 2)))), (D.val (vI (10000 : Int))), (D.val (vI (0 : Int))), (D.val (vI x3))]), (D.sl (n4) 2 (List.take (n4 * 2) (List.drop 0 (List.take (n4 * 2) (List.drop 0 l4)))))] [D.nil, (D.val (vI n5))]) ∧
 ((((vI n5) = (vI n5)) ∧
 (((Go.Value.slice Option.none 0 0) = (Go.Value.slice Option.none 0 0)) ∧
 (((Go.Value.tuple [(Go.Value.slice Option.none 0 0), (vI n5)].toArray) = (Go.Value.tuple [(Go.Value.slice Option.none 0 0), (vI n5)].toArray)) ∧
 True))) ∧
 ((((vI n5) = (vI n5)) ∧
 True) ∧
 (True ∧
 (bcase (n5 != 0)
 (k [(D.val (Value.bool false))])
 (L 0 [(Prod.mk 5 (Go.Value.slice Option.none 0 0)), (Prod.mk 9 (Go.Value.slice Option.none 0 0)), (Prod.mk 11 (vI (0 : Int)))] []))))))) ∨
 (∃ n5 : Nat,
 (∃ cs2 : List Go.Value,
 (∃ n6 : Int,
 ((Says C 32 [(D.agg [(D.val (vI (IntKind.wrap .i64 (Int.tdiv x0 2)))), (D.val (vI (10000 : Int))), (D.val (vI (0 : Int))), (D.val (vI x3))]), (D.sl (n4) 2 (List.take (n4 * 2) (List.drop 0 (List.take (n4 * 2) (List.drop 0 l4)))))] [(D.sl (n5) 1 (cs2)), (D.val (vI n6))]) ∧
 ((((vI n6) = (vI n6)) ∧
 (((Go.Value.slice (Option.some (Go.Addr.mk 1005 0 Option.none)) (n5) (n5)) = (Go.Value.slice (Option.some (Go.Addr.mk 1005 0 Option.none)) (n5) (n5))) ∧
 (((Go.Value.tuple [(Go.Value.slice (Option.some (Go.Addr.mk 1005 0 Option.none)) (n5) (n5)), (vI n6)].toArray) = (Go.Value.tuple [(Go.Value.slice (Option.some (Go.Addr.mk 1005 0 Option.none)) (n5) (n5)), (vI n6)].toArray)) ∧
 True))) ∧
 ((((vI n6) = (vI n6)) ∧
 True) ∧
 (True ∧
 (bcase (n6 != 0)
 (k [(D.val (Value.bool false))])
 (bcase ((↑n5 : Int) != (↑0 : Int))
 (k [(D.val (Value.bool false))])
 (L 0 [(Prod.mk 5 (Go.Value.slice Option.none 0 0)), (Prod.mk 9 (Go.Value.slice (Option.some (Go.Addr.mk 1000 0 Option.none)) (n5) (n5))), (Prod.mk 11 (vI (0 : Int)))] [(Prod.mk 1000 (AObj.sym (cs2) true 1))])))))))))))
 False)))
 False))) ∨
 ((Says C 36 [D.nil, (D.sl (n3) 1 (List.take (n3 * 1) (List.drop 0 cs1)))] [(D.val (Value.bool false))]) ∧
 (k [(D.val (Value.bool false))])))
 False)))))
 False))))))))))) ∨
 (∃ n1 : Nat,
 (∃ cs1 : List Go.Value,
 (∃ n2 : Int,
 ((Says C 32 [(D.agg [(D.val (vI x0)), (D.val (vI x1)), (D.val (vI x2)), (D.val (vI x3))]), (D.sl (n4) 2 (List.take (n4 * 2) (List.drop 0 (List.take (n4 * 2) (List.drop 0 l4)))))] [(D.sl (n1) 1 (cs1)), (D.val (vI n2))]) ∧
 ((((vI n2) = (vI n2)) ∧
 (((Go.Value.slice (Option.some (Go.Addr.mk 1002 0 Option.none)) (n1) (n1)) = (Go.Value.slice (Option.some (Go.Addr.mk 1002 0 Option.none)) (n1) (n1))) ∧
 (((Go.Value.tuple [(Go.Value.slice (Option.some (Go.Addr.mk 1002 0 Option.none)) (n1) (n1)), (vI n2)].toArray) = (Go.Value.tuple [(Go.Value.slice (Option.some (Go.Addr.mk 1002 0 Option.none)) (n1) (n1)), (vI n2)].toArray)) ∧
 True))) ∧
 ((((vI n2) = (vI n2)) ∧
 True) ∧
 (True ∧
 (∃ n3 : Int,
 ((Says C 34 [(D.agg [(D.val (vI x0)), (D.val (vI x1)), (D.val (vI x2)), (D.val (vI x3))])] [(D.val (vI n3))]) ∧
 (bcase (n3 == 0)
 (bcase (decide (0 + n4 * 2 ≤ List.length l4))
 (∃ n5 : Int,
 ((Says C 35 [(D.sl (n4) 2 (List.take (n4 * 2) (List.drop 0 l4)))] [(D.val (vI n5))]) ∧
 (bcase (n5 != 0)
 (bcase (n2 == n5)
 (bcase ((↑n1 : Int) == 0)
 (k [(D.val (Value.bool true))])
 (k [(D.val (Value.bool false))]))
 (k [(D.val (Value.bool false))]))
 (bcase (n2 != 0)
 (k [(D.val (Value.bool false))])
 (bcase (decide (0 + n4 * 2 ≤ List.length l4))
 (((Says C 37 [(D.agg [(D.val (vI x0)), (D.val (vI x1)), (D.val (vI x2)), (D.val (vI x3))]), (D.sl (n4) 2 (List.take (n4 * 2) (List.drop 0 l4)))] [D.nil]) ∧
 (bcase (decide (0 + n1 * 1 ≤ List.length cs1))
 (((Says C 36 [(D.sl (n1) 1 (List.take (n1 * 1) (List.drop 0 cs1))), D.nil] [(D.val (Value.bool true))]) ∧
 ((((Go.Value.slice (Option.some (Go.Addr.mk 500 0 Option.none)) (n4) (c4)) = (Go.Value.slice (Option.some (Go.Addr.mk 500 0 Option.none)) (n4) (c4))) ∧
 (((Go.Value.agg [(vI (IntKind.wrap .i64 (Int.tdiv x0 2))), (vI (10000 : Int)), (vI (0 : Int)), (vI x3)].toArray) = (Go.Value.agg [(vI (IntKind.wrap .i64 (Int.tdiv x0 2))), (vI (10000 : Int)), (vI (0 : Int)), (vI x3)].toArray)) ∧
 True)) ∧
 (bcase (decide (0 + n4 * 2 ≤ List.length l4))
 ((Says C 33 [(D.sl (n4) 2 (List.take (n4 * 2) (List.drop 0 l4)))] [(D.sl (n4) 2 (List.take (n4 * 2) (List.drop 0 l4)))]) ∧
 ((((Go.Value.agg [(vI (IntKind.wrap .i64 (Int.tdiv x0 2))), (vI (10000 : Int)), (vI (0 : Int)), (vI x3)].toArray) = (Go.Value.agg [(vI (IntKind.wrap .i64 (Int.tdiv x0 2))), (vI (10000 : Int)), (vI (0 : Int)), (vI x3)].toArray)) ∧
 True) ∧
 (bcase (decide (0 + n4 * 2 ≤ List.length (List.take (n4 * 2) (List.drop 0 l4))))
 ((∃ n6 : Int,
 ((Says C 32 [(D.agg [(D.val (vI (IntKind.wrap .i64 (Int.tdiv x0 2)))), (D.val (vI (10000 : Int))), (D.val (vI (0 : Int))), (D.val (vI x3))]), (D.sl (n4) 2 (List.take (n4 * 2) (List.drop 0 (List.take (n4 * 2) (List.drop 0 l4)))))] [D.nil, (D.val (vI n6))]) ∧
 ((((vI n6) = (vI n6)) ∧
 (((Go.Value.slice Option.none 0 0) = (Go.Value.slice Option.none 0 0)) ∧
 (((Go.Value.tuple [(Go.Value.slice Option.none 0 0), (vI n6)].toArray) = (Go.Value.tuple [(Go.Value.slice Option.none 0 0), (vI n6)].toArray)) ∧
 True))) ∧
 ((((vI n6) = (vI n6)) ∧
 True) ∧
 (True ∧
 (bcase (n6 != 0)
 (k [(D.val (Value.bool false))])
 (bcase ((↑0 : Int) != (↑n1 : Int))
 (k [(D.val (Value.bool false))])
 (L 0 [(Prod.mk 5 (Go.Value.slice (Option.some (Go.Addr.mk 1000 0 Option.none)) (n1) (n1))), (Prod.mk 9 (Go.Value.slice Option.none 0 0)), (Prod.mk 11 (vI (0 : Int)))] [(Prod.mk 1000 (AObj.sym (cs1) true 1))])))))))) ∨
 (∃ n6 : Nat,
 (∃ cs2 : List Go.Value,
 (∃ n7 : Int,
 ((Says C 32 [(D.agg [(D.val (vI (IntKind.wrap .i64 (Int.tdiv x0 2)))), (D.val (vI (10000 : Int))), (D.val (vI (0 : Int))), (D.val (vI x3))]), (D.sl (n4) 2 (List.take (n4 * 2) (List.drop 0 (List.take (n4 * 2) (List.drop 0 l4)))))] [(D.sl (n6) 1 (cs2)), (D.val (vI n7))]) ∧
 ((((vI n7) = (vI n7)) ∧
 (((Go.Value.slice (Option.some (Go.Addr.mk 1005 0 Option.none)) (n6) (n6)) = (Go.Value.slice (Option.some (Go.Addr.mk 1005 0 Option.none)) (n6) (n6))) ∧
 (((Go.Value.tuple [(Go.Value.slice (Option.some (Go.Addr.mk 1005 0 Option.none)) (n6) (n6)), (vI n7)].toArray) = (Go.Value.tuple [(Go.Value.slice (Option.some (Go.Addr.mk 1005 0 Option.none)) (n6) (n6)), (vI n7)].toArray)) ∧
 True))) ∧
 ((((vI n7) = (vI n7)) ∧
 True) ∧
 (True ∧
 (bcase (n7 != 0)
 (k [(D.val (Value.bool false))])
 (bcase ((↑n6 : Int) != (↑n1 : Int))
 (k [(D.val (Value.bool false))])
 (L 0 [(Prod.mk 5 (Go.Value.slice (Option.some (Go.Addr.mk 1000 0 Option.none)) (n1) (n1))), (Prod.mk 9 (Go.Value.slice (Option.some (Go.Addr.mk 1001 0 Option.none)) (n6) (n6))), (Prod.mk 11 (vI (0 : Int)))] [(Prod.mk 1000 (AObj.sym (cs1) true 1)), (Prod.mk 1001 (AObj.sym (cs2) true 1))])))))))))))
 False)))
 False))) ∨
 ((Says C 36 [(D.sl (n1) 1 (List.take (n1 * 1) (List.drop 0 cs1))), D.nil] [(D.val (Value.bool false))]) ∧
 (k [(D.val (Value.bool false))])))
 False)) ∨
 (∃ n6 : Nat,
 (∃ cs2 : List Go.Value,
 ((Says C 37 [(D.agg [(D.val (vI x0)), (D.val (vI x1)), (D.val (vI x2)), (D.val (vI x3))]), (D.sl (n4) 2 (List.take (n4 * 2) (List.drop 0 l4)))] [(D.sl (n6) 1 (cs2))]) ∧
 (bcase (decide (0 + n1 * 1 ≤ List.length cs1))
 (bcase (decide (0 + n6 * 1 ≤ List.length cs2))
 (((Says C 36 [(D.sl (n1) 1 (List.take (n1 * 1) (List.drop 0 cs1))), (D.sl (n6) 1 (List.take (n6 * 1) (List.drop 0 cs2)))] [(D.val (Value.bool true))]) ∧
 ((((Go.Value.slice (Option.some (Go.Addr.mk 500 0 Option.none)) (n4) (c4)) = (Go.Value.slice (Option.some (Go.Addr.mk 500 0 Option.none)) (n4) (c4))) ∧
 (((Go.Value.agg [(vI (IntKind.wrap .i64 (Int.tdiv x0 2))), (vI (10000 : Int)), (vI (0 : Int)), (vI x3)].toArray) = (Go.Value.agg [(vI (IntKind.wrap .i64 (Int.tdiv x0 2))), (vI (10000 : Int)), (vI (0 : Int)), (vI x3)].toArray)) ∧
 True)) ∧
 (bcase (decide (0 + n4 * 2 ≤ List.length l4))
 ((Says C 33 [(D.sl (n4) 2 (List.take (n4 * 2) (List.drop 0 l4)))] [(D.sl (n4) 2 (List.take (n4 * 2) (List.drop 0 l4)))]) ∧
 ((((Go.Value.agg [(vI (IntKind.wrap .i64 (Int.tdiv x0 2))), (vI (10000 : Int)), (vI (0 : Int)), (vI x3)].toArray) = (Go.Value.agg [(vI (IntKind.wrap .i64 (Int.tdiv x0 2))), (vI (10000 : Int)), (vI (0 : Int)), (vI x3)].toArray)) ∧
 True) ∧
 (bcase (decide (0 + n4 * 2 ≤ List.length (List.take (n4 * 2) (List.drop 0 l4))))
 ((∃ n7 : Int,
 ((Says C 32 [(D.agg [(D.val (vI (IntKind.wrap .i64 (Int.tdiv x0 2)))), (D.val (vI (10000 : Int))), (D.val (vI (0 : Int))), (D.val (vI x3))]), (D.sl (n4) 2 (List.take (n4 * 2) (List.drop 0 (List.take (n4 * 2) (List.drop 0 l4)))))] [D.nil, (D.val (vI n7))]) ∧
 ((((vI n7) = (vI n7)) ∧
 (((Go.Value.slice Option.none 0 0) = (Go.Value.slice Option.none 0 0)) ∧
 (((Go.Value.tuple [(Go.Value.slice Option.none 0 0), (vI n7)].toArray) = (Go.Value.tuple [(Go.Value.slice Option.none 0 0), (vI n7)].toArray)) ∧
 True))) ∧
 ((((vI n7) = (vI n7)) ∧
 True) ∧
 (True ∧
 (bcase (n7 != 0)
 (k [(D.val (Value.bool false))])
 (bcase ((↑0 : Int) != (↑n1 : Int))
 (k [(D.val (Value.bool false))])
 (L 0 [(Prod.mk 5 (Go.Value.slice (Option.some (Go.Addr.mk 1000 0 Option.none)) (n1) (n1))), (Prod.mk 9 (Go.Value.slice Option.none 0 0)), (Prod.mk 11 (vI (0 : Int)))] [(Prod.mk 1000 (AObj.sym (cs1) true 1))])))))))) ∨
 (∃ n7 : Nat,
 (∃ cs3 : List Go.Value,
 (∃ n8 : Int,
 ((Says C 32 [(D.agg [(D.val (vI (IntKind.wrap .i64 (Int.tdiv x0 2)))), (D.val (vI (10000 : Int))), (D.val (vI (0 : Int))), (D.val (vI x3))]), (D.sl (n4) 2 (List.take (n4 * 2) (List.drop 0 (List.take (n4 * 2) (List.drop 0 l4)))))] [(D.sl (n7) 1 (cs3)), (D.val (vI n8))]) ∧
 ((((vI n8) = (vI n8)) ∧
 (((Go.Value.slice (Option.some (Go.Addr.mk 1006 0 Option.none)) (n7) (n7)) = (Go.Value.slice (Option.some (Go.Addr.mk 1006 0 Option.none)) (n7) (n7))) ∧
 (((Go.Value.tuple [(Go.Value.slice (Option.some (Go.Addr.mk 1006 0 Option.none)) (n7) (n7)), (vI n8)].toArray) = (Go.Value.tuple [(Go.Value.slice (Option.some (Go.Addr.mk 1006 0 Option.none)) (n7) (n7)), (vI n8)].toArray)) ∧
 True))) ∧
 ((((vI n8) = (vI n8)) ∧
 True) ∧
 (True ∧
 (bcase (n8 != 0)
 (k [(D.val (Value.bool false))])
 (bcase ((↑n7 : Int) != (↑n1 : Int))
 (k [(D.val (Value.bool false))])
 (L 0 [(Prod.mk 5 (Go.Value.slice (Option.some (Go.Addr.mk 1000 0 Option.none)) (n1) (n1))), (Prod.mk 9 (Go.Value.slice (Option.some (Go.Addr.mk 1001 0 Option.none)) (n7) (n7))), (Prod.mk 11 (vI (0 : Int)))] [(Prod.mk 1000 (AObj.sym (cs1) true 1)), (Prod.mk 1001 (AObj.sym (cs3) true 1))])))))))))))
 False)))
 False))) ∨
 ((Says C 36 [(D.sl (n1) 1 (List.take (n1 * 1) (List.drop 0 cs1))), (D.sl (n6) 1 (List.take (n6 * 1) (List.drop 0 cs2)))] [(D.val (Value.bool false))]) ∧
 (k [(D.val (Value.bool false))])))
 False)
 False)))))
 False)))))
 False)
 (bcase (n3 != 0)
 (bcase (n2 == n3)
 (bcase ((↑n1 : Int) == 0)
 (k [(D.val (Value.bool true))])
 (k [(D.val (Value.bool false))]))
 (k [(D.val (Value.bool false))]))
 (bcase (n2 != 0)
 (k [(D.val (Value.bool false))])
 (bcase (decide (0 + n4 * 2 ≤ List.length l4))
 (((Says C 37 [(D.agg [(D.val (vI x0)), (D.val (vI x1)), (D.val (vI x2)), (D.val (vI x3))]), (D.sl (n4) 2 (List.take (n4 * 2) (List.drop 0 l4)))] [D.nil]) ∧
 (bcase (decide (0 + n1 * 1 ≤ List.length cs1))
 (((Says C 36 [(D.sl (n1) 1 (List.take (n1 * 1) (List.drop 0 cs1))), D.nil] [(D.val (Value.bool true))]) ∧
 ((((Go.Value.slice (Option.some (Go.Addr.mk 500 0 Option.none)) (n4) (c4)) = (Go.Value.slice (Option.some (Go.Addr.mk 500 0 Option.none)) (n4) (c4))) ∧
 (((Go.Value.agg [(vI (IntKind.wrap .i64 (Int.tdiv x0 2))), (vI (10000 : Int)), (vI (0 : Int)), (vI x3)].toArray) = (Go.Value.agg [(vI (IntKind.wrap .i64 (Int.tdiv x0 2))), (vI (10000 : Int)), (vI (0 : Int)), (vI x3)].toArray)) ∧
 True)) ∧
 (bcase (decide (0 + n4 * 2 ≤ List.length l4))
 ((Says C 33 [(D.sl (n4) 2 (List.take (n4 * 2) (List.drop 0 l4)))] [(D.sl (n4) 2 (List.take (n4 * 2) (List.drop 0 l4)))]) ∧
 ((((Go.Value.agg [(vI (IntKind.wrap .i64 (Int.tdiv x0 2))), (vI (10000 : Int)), (vI (0 : Int)), (vI x3)].toArray) = (Go.Value.agg [(vI (IntKind.wrap .i64 (Int.tdiv x0 2))), (vI (10000 : Int)), (vI (0 : Int)), (vI x3)].toArray)) ∧
 True) ∧
 (bcase (decide (0 + n4 * 2 ≤ List.length (List.take (n4 * 2) (List.drop 0 l4))))
 ((∃ n5 : Int,
 ((Says C 32 [(D.agg [(D.val (vI (IntKind.wrap .i64 (Int.tdiv x0 2)))), (D.val (vI (10000 : Int))), (D.val (vI (0 : Int))), (D.val (vI x3))]), (D.sl (n4) 2 (List.take (n4 * 2) (List.drop 0 (List.take (n4 * 2) (List.drop 0 l4)))))] [D.nil, (D.val (vI n5))]) ∧
 ((((vI n5) = (vI n5)) ∧
 (((Go.Value.slice Option.none 0 0) = (Go.Value.slice Option.none 0 0)) ∧
 (((Go.Value.tuple [(Go.Value.slice Option.none 0 0), (vI n5)].toArray) = (Go.Value.tuple [(Go.Value.slice Option.none 0 0), (vI n5)].toArray)) ∧
 True))) ∧
 ((((vI n5) = (vI n5)) ∧
 True) ∧
 (True ∧
 (bcase (n5 != 0)
 (k [(D.val (Value.bool false))])
 (bcase ((↑0 : Int) != (↑n1 : Int))
 (k [(D.val (Value.bool false))])
 (L 0 [(Prod.mk 5 (Go.Value.slice (Option.some (Go.Addr.mk 1000 0 Option.none)) (n1) (n1))), (Prod.mk 9 (Go.Value.slice Option.none 0 0)), (Prod.mk 11 (vI (0 : Int)))] [(Prod.mk 1000 (AObj.sym (cs1) true 1))])))))))) ∨
 (∃ n5 : Nat,
 (∃ cs2 : List Go.Value,
 (∃ n6 : Int,
 ((Says C 32 [(D.agg [(D.val (vI (IntKind.wrap .i64 (Int.tdiv x0 2)))), (D.val (vI (10000 : Int))), (D.val (vI (0 : Int))), (D.val (vI x3))]), (D.sl (n4) 2 (List.take (n4 * 2) (List.drop 0 (List.take (n4 * 2) (List.drop 0 l4)))))] [(D.sl (n5) 1 (cs2)), (D.val (vI n6))]) ∧
 ((((vI n6) = (vI n6)) ∧
 (((Go.Value.slice (Option.some (Go.Addr.mk 1005 0 Option.none)) (n5) (n5)) = (Go.Value.slice (Option.some (Go.Addr.mk 1005 0 Option.none)) (n5) (n5))) ∧
 (((Go.Value.tuple [(Go.Value.slice (Option.some (Go.Addr.mk 1005 0 Option.none)) (n5) (n5)), (vI n6)].toArray) = (Go.Value.tuple [(Go.Value.slice (Option.some (Go.Addr.mk 1005 0 Option.none)) (n5) (n5)), (vI n6)].toArray)) ∧
 True))) ∧
 ((((vI n6) = (vI n6)) ∧
 True) ∧
 (True ∧
 (bcase (n6 != 0)
 (k [(D.val (Value.bool false))])
 (bcase ((↑n5 : Int) != (↑n1 : Int))
 (k [(D.val (Value.bool false))])
 (L 0 [(Prod.mk 5 (Go.Value.slice (Option.some (Go.Addr.mk 1000 0 Option.none)) (n1) (n1))), (Prod.mk 9 (Go.Value.slice (Option.some (Go.Addr.mk 1001 0 Option.none)) (n5) (n5))), (Prod.mk 11 (vI (0 : Int)))] [(Prod.mk 1000 (AObj.sym (cs1) true 1)), (Prod.mk 1001 (AObj.sym (cs2) true 1))])))))))))))
 False)))
 False))) ∨
 ((Says C 36 [(D.sl (n1) 1 (List.take (n1 * 1) (List.drop 0 cs1))), D.nil] [(D.val (Value.bool false))]) ∧
 (k [(D.val (Value.bool false))])))
 False)) ∨
 (∃ n5 : Nat,
 (∃ cs2 : List Go.Value,
 ((Says C 37 [(D.agg [(D.val (vI x0)), (D.val (vI x1)), (D.val (vI x2)), (D.val (vI x3))]), (D.sl (n4) 2 (List.take (n4 * 2) (List.drop 0 l4)))] [(D.sl (n5) 1 (cs2))]) ∧
 (bcase (decide (0 + n1 * 1 ≤ List.length cs1))
 (bcase (decide (0 + n5 * 1 ≤ List.length cs2))
 (((Says C 36 [(D.sl (n1) 1 (List.take (n1 * 1) (List.drop 0 cs1))), (D.sl (n5) 1 (List.take (n5 * 1) (List.drop 0 cs2)))] [(D.val (Value.bool true))]) ∧
 ((((Go.Value.slice (Option.some (Go.Addr.mk 500 0 Option.none)) (n4) (c4)) = (Go.Value.slice (Option.some (Go.Addr.mk 500 0 Option.none)) (n4) (c4))) ∧
 (((Go.Value.agg [(vI (IntKind.wrap .i64 (Int.tdiv x0 2))), (vI (10000 : Int)), (vI (0 : Int)), (vI x3)].toArray) = (Go.Value.agg [(vI (IntKind.wrap .i64 (Int.tdiv x0 2))), (vI (10000 : Int)), (vI (0 : Int)), (vI x3)].toArray)) ∧
 True)) ∧
 (bcase (decide (0 + n4 * 2 ≤ List.length l4))
 ((Says C 33 [(D.sl (n4) 2 (List.take (n4 * 2) (List.drop 0 l4)))] [(D.sl (n4) 2 (List.take (n4 * 2) (List.drop 0 l4)))]) ∧
 ((((Go.Value.agg [(vI (IntKind.wrap .i64 (Int.tdiv x0 2))), (vI (10000 : Int)), (vI (0 : Int)), (vI x3)].toArray) = (Go.Value.agg [(vI (IntKind.wrap .i64 (Int.tdiv x0 2))), (vI (10000 : Int)), (vI (0 : Int)), (vI x3)].toArray)) ∧
 True) ∧
 (bcase (decide (0 + n4 * 2 ≤ List.length (List.take (n4 * 2) (List.drop 0 l4))))
 ((∃ n6 : Int,
 ((Says C 32 [(D.agg [(D.val (vI (IntKind.wrap .i64 (Int.tdiv x0 2)))), (D.val (vI (10000 : Int))), (D.val (vI (0 : Int))), (D.val (vI x3))]), (D.sl (n4) 2 (List.take (n4 * 2) (List.drop 0 (List.take (n4 * 2) (List.drop 0 l4)))))] [D.nil, (D.val (vI n6))]) ∧
 ((((vI n6) = (vI n6)) ∧
 (((Go.Value.slice Option.none 0 0) = (Go.Value.slice Option.none 0 0)) ∧
 (((Go.Value.tuple [(Go.Value.slice Option.none 0 0), (vI n6)].toArray) = (Go.Value.tuple [(Go.Value.slice Option.none 0 0), (vI n6)].toArray)) ∧
 True))) ∧
 ((((vI n6) = (vI n6)) ∧
 True) ∧
 (True ∧
 (bcase (n6 != 0)
 (k [(D.val (Value.bool false))])
 (bcase ((↑0 : Int) != (↑n1 : Int))
 (k [(D.val (Value.bool false))])
 (L 0 [(Prod.mk 5 (Go.Value.slice (Option.some (Go.Addr.mk 1000 0 Option.none)) (n1) (n1))), (Prod.mk 9 (Go.Value.slice Option.none 0 0)), (Prod.mk 11 (vI (0 : Int)))] [(Prod.mk 1000 (AObj.sym (cs1) true 1))])))))))) ∨
 (∃ n6 : Nat,
 (∃ cs3 : List Go.Value,
 (∃ n7 : Int,
 ((Says C 32 [(D.agg [(D.val (vI (IntKind.wrap .i64 (Int.tdiv x0 2)))), (D.val (vI (10000 : Int))), (D.val (vI (0 : Int))), (D.val (vI x3))]), (D.sl (n4) 2 (List.take (n4 * 2) (List.drop 0 (List.take (n4 * 2) (List.drop 0 l4)))))] [(D.sl (n6) 1 (cs3)), (D.val (vI n7))]) ∧
 ((((vI n7) = (vI n7)) ∧
 (((Go.Value.slice (Option.some (Go.Addr.mk 1006 0 Option.none)) (n6) (n6)) = (Go.Value.slice (Option.some (Go.Addr.mk 1006 0 Option.none)) (n6) (n6))) ∧
 (((Go.Value.tuple [(Go.Value.slice (Option.some (Go.Addr.mk 1006 0 Option.none)) (n6) (n6)), (vI n7)].toArray) = (Go.Value.tuple [(Go.Value.slice (Option.some (Go.Addr.mk 1006 0 Option.none)) (n6) (n6)), (vI n7)].toArray)) ∧
 True))) ∧
 ((((vI n7) = (vI n7)) ∧
 True) ∧
 (True ∧
 (bcase (n7 != 0)
 (k [(D.val (Value.bool false))])
 (bcase ((↑n6 : Int) != (↑n1 : Int))
 (k [(D.val (Value.bool false))])
 (L 0 [(Prod.mk 5 (Go.Value.slice (Option.some (Go.Addr.mk 1000 0 Option.none)) (n1) (n1))), (Prod.mk 9 (Go.Value.slice (Option.some (Go.Addr.mk 1001 0 Option.none)) (n6) (n6))), (Prod.mk 11 (vI (0 : Int)))] [(Prod.mk 1000 (AObj.sym (cs1) true 1)), (Prod.mk 1001 (AObj.sym (cs3) true 1))])))))))))))
 False)))
 False))) ∨
 ((Says C 36 [(D.sl (n1) 1 (List.take (n1 * 1) (List.drop 0 cs1))), (D.sl (n5) 1 (List.take (n5 * 1) (List.drop 0 cs2)))] [(D.val (Value.bool false))]) ∧
 (k [(D.val (Value.bool false))])))
 False)
 False)))))
 False))))))))))))))
 False)))
 False)))) ∨
 ((Says C 12 [] [(D.val (Value.bool false))]) ∧
 (k [(D.val (Value.bool false))]))) := by kernel_rfl
abbrev zLk4 (n0 : Nat) (n1 : Nat) (x2 : Int) (l3 : List Value) (l4 : List Value) : Slots × Blocks := ([(5, (Value.slice (some ⟨1000, 0, none⟩) n0 n0)), (9, (Value.slice (some ⟨1001, 0, none⟩) n1 n1)), (11, (Value.int .i64 x2))], [(1000, (AObj.sym l3 true 1)), (1001, (AObj.sym l4 true 1))])
def rLk4 (C : Ct) (L : AtLoop) (n0 : Nat) (n1 : Nat) (x2 : Int) (l3 : List Value) (l4 : List Value) (B : Bx) (X : Xx) (k : List D → Prop) : Prop := wpRound Try.prog (hU C) L 6 0 [(5, (Value.slice (some ⟨1000, 0, none⟩) n0 n0)), (9, (Value.slice (some ⟨1001, 0, none⟩) n1 n1)), (11, (Value.int .i64 x2))] [(1000, (AObj.sym l3 true 1)), (1001, (AObj.sym l4 true 1))] B X (dataK k)
theorem rLk4_text (C : Ct) (L : AtLoop) (n0 : Nat) (n1 : Nat) (x2 : Int) (l3 : List Go.Value) (l4 : List Go.Value) (B : Bx) (X : Xx) (k : List D → Prop) : rLk4 C L n0 n1 x2 l3 l4 B X k =
 (bcase (decide (x2 < (↑n0 : Int)))
 (bcase (decide (0 ≤ x2))
 (bcase (decide (x2 < (↑n1 : Int)))
 (∃ n2 : Int,
 ((At (l4) (0 + Int.toNat x2 * 1) 1 [(vI n2)]) ∧
 (bcase (decide (0 ≤ x2))
 (bcase (decide (x2 < (↑n0 : Int)))
 (∃ n3 : Int,
 ((At (l3) (0 + Int.toNat x2 * 1) 1 [(vI n3)]) ∧
 (bcase (n2 != n3)
 (bcase (decide (0 ≤ x2))
 (bcase (decide (x2 < (↑n1 : Int)))
 (∃ n4 : Int,
 ((At (l4) (0 + Int.toNat x2 * 1) 1 [(vI n4)]) ∧
 (bcase (n4 != 1)
 ((((Value.bool true) = (Value.bool true)) ∧
 ((bcase (n4 != 1)
 ((Value.bool true) = (Value.bool true))
 ((Value.bool false) = (Value.bool true))) ∧
 ((∃ n5 : Int,
 ((At (l4) (0 + Int.toNat x2 * 1) 1 [(vI n5)]) ∧
 ((vI n5) = (vI n4)))) ∧
 ((bcase (decide (0 ≤ x2))
 (bcase (decide (x2 < (↑n1 : Int)))
 ((Go.Value.pointer (Option.some (Go.Addr.mk 1001 (0 + Int.toNat x2 * 1) Option.none))) = (Go.Value.pointer (Option.some (Go.Addr.mk 1001 (0 + Int.toNat x2 * 1) Option.none))))
 False)
 False) ∧
 (((vI x2) = (vI x2)) ∧
 (((Go.Value.slice (Option.some (Go.Addr.mk 1001 0 Option.none)) (n1) (n1)) = (Go.Value.slice (Option.some (Go.Addr.mk 1001 0 Option.none)) (n1) (n1))) ∧
 (((Value.bool true) = (Value.bool true)) ∧
 ((bcase (n2 != n3)
 ((Value.bool true) = (Value.bool true))
 ((Value.bool false) = (Value.bool true))) ∧
 ((∃ n5 : Int,
 ((At (l3) (0 + Int.toNat x2 * 1) 1 [(vI n5)]) ∧
 ((vI n5) = (vI n3)))) ∧
 ((bcase (decide (0 ≤ x2))
 (bcase (decide (x2 < (↑n0 : Int)))
 ((Go.Value.pointer (Option.some (Go.Addr.mk 1000 (0 + Int.toNat x2 * 1) Option.none))) = (Go.Value.pointer (Option.some (Go.Addr.mk 1000 (0 + Int.toNat x2 * 1) Option.none))))
 False)
 False) ∧
 (((vI x2) = (vI x2)) ∧
 (((Go.Value.slice (Option.some (Go.Addr.mk 1000 0 Option.none)) (n0) (n0)) = (Go.Value.slice (Option.some (Go.Addr.mk 1000 0 Option.none)) (n0) (n0))) ∧
 ((∃ n5 : Int,
 ((At (l4) (0 + Int.toNat x2 * 1) 1 [(vI n5)]) ∧
 ((vI n5) = (vI n2)))) ∧
 ((bcase (decide (0 ≤ x2))
 (bcase (decide (x2 < (↑n1 : Int)))
 ((Go.Value.pointer (Option.some (Go.Addr.mk 1001 (0 + Int.toNat x2 * 1) Option.none))) = (Go.Value.pointer (Option.some (Go.Addr.mk 1001 (0 + Int.toNat x2 * 1) Option.none))))
 False)
 False) ∧
 (((vI x2) = (vI x2)) ∧
 (((Go.Value.slice (Option.some (Go.Addr.mk 1001 0 Option.none)) (n1) (n1)) = (Go.Value.slice (Option.some (Go.Addr.mk 1001 0 Option.none)) (n1) (n1))) ∧
 True)))))))))))))))) ∧
 (k [(D.val (Value.bool false))]))
 ((((Value.bool false) = (Value.bool false)) ∧
 ((bcase (n4 != 1)
 ((Value.bool true) = (Value.bool false))
 ((Value.bool false) = (Value.bool false))) ∧
 ((∃ n5 : Int,
 ((At (l4) (0 + Int.toNat x2 * 1) 1 [(vI n5)]) ∧
 ((vI n5) = (vI n4)))) ∧
 ((bcase (decide (0 ≤ x2))
 (bcase (decide (x2 < (↑n1 : Int)))
 ((Go.Value.pointer (Option.some (Go.Addr.mk 1001 (0 + Int.toNat x2 * 1) Option.none))) = (Go.Value.pointer (Option.some (Go.Addr.mk 1001 (0 + Int.toNat x2 * 1) Option.none))))
 False)
 False) ∧
 (((vI x2) = (vI x2)) ∧
 (((Go.Value.slice (Option.some (Go.Addr.mk 1001 0 Option.none)) (n1) (n1)) = (Go.Value.slice (Option.some (Go.Addr.mk 1001 0 Option.none)) (n1) (n1))) ∧
 (((Value.bool true) = (Value.bool true)) ∧
 ((bcase (n2 != n3)
 ((Value.bool true) = (Value.bool true))
 ((Value.bool false) = (Value.bool true))) ∧
 ((∃ n5 : Int,
 ((At (l3) (0 + Int.toNat x2 * 1) 1 [(vI n5)]) ∧
 ((vI n5) = (vI n3)))) ∧
 ((bcase (decide (0 ≤ x2))
 (bcase (decide (x2 < (↑n0 : Int)))
 ((Go.Value.pointer (Option.some (Go.Addr.mk 1000 (0 + Int.toNat x2 * 1) Option.none))) = (Go.Value.pointer (Option.some (Go.Addr.mk 1000 (0 + Int.toNat x2 * 1) Option.none))))
 False)
 False) ∧
 (((vI x2) = (vI x2)) ∧
 (((Go.Value.slice (Option.some (Go.Addr.mk 1000 0 Option.none)) (n0) (n0)) = (Go.Value.slice (Option.some (Go.Addr.mk 1000 0 Option.none)) (n0) (n0))) ∧
 ((∃ n5 : Int,
 ((At (l4) (0 + Int.toNat x2 * 1) 1 [(vI n5)]) ∧
 ((vI n5) = (vI n2)))) ∧
 ((bcase (decide (0 ≤ x2))
 (bcase (decide (x2 < (↑n1 : Int)))
 ((Go.Value.pointer (Option.some (Go.Addr.mk 1001 (0 + Int.toNat x2 * 1) Option.none))) = (Go.Value.pointer (Option.some (Go.Addr.mk 1001 (0 + Int.toNat x2 * 1) Option.none))))
 False)
 False) ∧
 (((vI x2) = (vI x2)) ∧
 (((Go.Value.slice (Option.some (Go.Addr.mk 1001 0 Option.none)) (n1) (n1)) = (Go.Value.slice (Option.some (Go.Addr.mk 1001 0 Option.none)) (n1) (n1))) ∧
 True)))))))))))))))) ∧
 (B [(Prod.mk 5 (Go.Value.slice (Option.some (Go.Addr.mk 1000 0 Option.none)) (n0) (n0))), (Prod.mk 9 (Go.Value.slice (Option.some (Go.Addr.mk 1001 0 Option.none)) (n1) (n1))), (Prod.mk 11 (vI (IntKind.wrap .i64 (x2 + 1))))] [(Prod.mk 1000 (AObj.sym (l3) true 1)), (Prod.mk 1001 (AObj.sym (l4) true 1))])))))
 False)
 False)
 ((((Value.bool false) = (Value.bool false)) ∧
 (((Go.Value.tuple [].toArray) = (Go.Value.tuple [].toArray)) ∧
 (((Go.Value.tuple [].toArray) = (Go.Value.tuple [].toArray)) ∧
 (((Go.Value.tuple [].toArray) = (Go.Value.tuple [].toArray)) ∧
 (((Go.Value.tuple [].toArray) = (Go.Value.tuple [].toArray)) ∧
 (((Go.Value.tuple [].toArray) = (Go.Value.tuple [].toArray)) ∧
 (((Value.bool false) = (Value.bool false)) ∧
 ((bcase (n2 != n3)
 ((Value.bool true) = (Value.bool false))
 ((Value.bool false) = (Value.bool false))) ∧
 ((∃ n4 : Int,
 ((At (l3) (0 + Int.toNat x2 * 1) 1 [(vI n4)]) ∧
 ((vI n4) = (vI n3)))) ∧
 ((bcase (decide (0 ≤ x2))
 (bcase (decide (x2 < (↑n0 : Int)))
 ((Go.Value.pointer (Option.some (Go.Addr.mk 1000 (0 + Int.toNat x2 * 1) Option.none))) = (Go.Value.pointer (Option.some (Go.Addr.mk 1000 (0 + Int.toNat x2 * 1) Option.none))))
 False)
 False) ∧
 (((vI x2) = (vI x2)) ∧
 (((Go.Value.slice (Option.some (Go.Addr.mk 1000 0 Option.none)) (n0) (n0)) = (Go.Value.slice (Option.some (Go.Addr.mk 1000 0 Option.none)) (n0) (n0))) ∧
 ((∃ n4 : Int,
 ((At (l4) (0 + Int.toNat x2 * 1) 1 [(vI n4)]) ∧
 ((vI n4) = (vI n2)))) ∧
 ((bcase (decide (0 ≤ x2))
 (bcase (decide (x2 < (↑n1 : Int)))
 ((Go.Value.pointer (Option.some (Go.Addr.mk 1001 (0 + Int.toNat x2 * 1) Option.none))) = (Go.Value.pointer (Option.some (Go.Addr.mk 1001 (0 + Int.toNat x2 * 1) Option.none))))
 False)
 False) ∧
 (((vI x2) = (vI x2)) ∧
 (((Go.Value.slice (Option.some (Go.Addr.mk 1001 0 Option.none)) (n1) (n1)) = (Go.Value.slice (Option.some (Go.Addr.mk 1001 0 Option.none)) (n1) (n1))) ∧
 True)))))))))))))))) ∧
 (B [(Prod.mk 5 (Go.Value.slice (Option.some (Go.Addr.mk 1000 0 Option.none)) (n0) (n0))), (Prod.mk 9 (Go.Value.slice (Option.some (Go.Addr.mk 1001 0 Option.none)) (n1) (n1))), (Prod.mk 11 (vI (IntKind.wrap .i64 (x2 + 1))))] [(Prod.mk 1000 (AObj.sym (l3) true 1)), (Prod.mk 1001 (AObj.sym (l4) true 1))])))))
 False)
 False)))
 False)
 False)
 (X 0 [] [])) := by kernel_rfl
def nLk5 (C : Ct) (L : AtLoop) (k : List D → Prop) : Prop := wpNext Try.prog (hU C) L 6 0 .normal [] [] (dataK k)
theorem nLk5_text (C : Ct) (L : AtLoop) (k : List D → Prop) : nLk5 C L k =
 (k [(D.val (Value.bool true))]) := by kernel_rfl
def gLkn (C : Ct) (L : AtLoop) (x0 : Int) (x1 : Int) (x2 : Int) (x3 : Int) (k : List D → Prop) : Prop := wpFn Try.prog (hU C) L 0 6 #[.agg #[.int .i64 x0, .int .i64 x1, .int .i64 x2, .int .i64 x3], .slice none 0 0] (heapOf []) (dataK k)
theorem gLkn_text (C : Ct) (L : AtLoop) (x0 : Int) (x1 : Int) (x2 : Int) (x3 : Int) (k : List D → Prop) : gLkn C L x0 x1 x2 x3 k =
 (((Says C 12 [] [(D.val (Value.bool true))]) ∧
 ((((Go.Value.slice Option.none 0 0) = (Go.Value.slice Option.none 0 0)) ∧
 (((Go.Value.agg [(vI x0), (vI x1), (vI x2), (vI x3)].toArray) = (Go.Value.agg [(vI x0), (vI x1), (vI x2), (vI x3)].toArray)) ∧
 True)) ∧
 ((Says C 33 [D.nil] [(D.sl 0 2 [])]) ∧
 ((((Go.Value.agg [(vI x0), (vI x1), (vI x2), (vI x3)].toArray) = (Go.Value.agg [(vI x0), (vI x1), (vI x2), (vI x3)].toArray)) ∧
 True) ∧
 ((∃ n1 : Int,
 ((Says C 32 [(D.agg [(D.val (vI x0)), (D.val (vI x1)), (D.val (vI x2)), (D.val (vI x3))]), (D.sl 0 2 [])] [D.nil, (D.val (vI n1))]) ∧
 ((((vI n1) = (vI n1)) ∧
 (((Go.Value.slice Option.none 0 0) = (Go.Value.slice Option.none 0 0)) ∧
 (((Go.Value.tuple [(Go.Value.slice Option.none 0 0), (vI n1)].toArray) = (Go.Value.tuple [(Go.Value.slice Option.none 0 0), (vI n1)].toArray)) ∧
 True))) ∧
 ((((vI n1) = (vI n1)) ∧
 True) ∧
 (True ∧
 (∃ n2 : Int,
 ((Says C 34 [(D.agg [(D.val (vI x0)), (D.val (vI x1)), (D.val (vI x2)), (D.val (vI x3))])] [(D.val (vI n2))]) ∧
 (bcase (n2 == 0)
 (∃ n3 : Int,
 ((Says C 35 [D.nil] [(D.val (vI n3))]) ∧
 (bcase (n3 != 0)
 (bcase (n1 == n3)
 (k [(D.val (Value.bool true))])
 (k [(D.val (Value.bool false))]))
 (bcase (n1 != 0)
 (k [(D.val (Value.bool false))])
 (((Says C 37 [(D.agg [(D.val (vI x0)), (D.val (vI x1)), (D.val (vI x2)), (D.val (vI x3))]), D.nil] [D.nil]) ∧
 (((Says C 36 [D.nil, D.nil] [(D.val (Value.bool true))]) ∧
 ((((Go.Value.slice Option.none 0 0) = (Go.Value.slice Option.none 0 0)) ∧
 (((Go.Value.agg [(vI (IntKind.wrap .i64 (Int.tdiv x0 2))), (vI (10000 : Int)), (vI (0 : Int)), (vI x3)].toArray) = (Go.Value.agg [(vI (IntKind.wrap .i64 (Int.tdiv x0 2))), (vI (10000 : Int)), (vI (0 : Int)), (vI x3)].toArray)) ∧
 True)) ∧
 ((Says C 33 [D.nil] [(D.sl 0 2 [])]) ∧
 ((((Go.Value.agg [(vI (IntKind.wrap .i64 (Int.tdiv x0 2))), (vI (10000 : Int)), (vI (0 : Int)), (vI x3)].toArray) = (Go.Value.agg [(vI (IntKind.wrap .i64 (Int.tdiv x0 2))), (vI (10000 : Int)), (vI (0 : Int)), (vI x3)].toArray)) ∧
 True) ∧
 ((∃ n4 : Int,
 ((Says C 32 [(D.agg [(D.val (vI (IntKind.wrap .i64 (Int.tdiv x0 2)))), (D.val (vI (10000 : Int))), (D.val (vI (0 : Int))), (D.val (vI x3))]), (D.sl 0 2 [])] [D.nil, (D.val (vI n4))]) ∧
 ((((vI n4) = (vI n4)) ∧
 (((Go.Value.slice Option.none 0 0) = (Go.Value.slice Option.none 0 0)) ∧
 (((Go.Value.tuple [(Go.Value.slice Option.none 0 0), (vI n4)].toArray) = (Go.Value.tuple [(Go.Value.slice Option.none 0 0), (vI n4)].toArray)) ∧
 True))) ∧
 ((((vI n4) = (vI n4)) ∧
 True) ∧
 (True ∧
 (bcase (n4 != 0)
 (k [(D.val (Value.bool false))])
 (L 0 [(Prod.mk 5 (Go.Value.slice Option.none 0 0)), (Prod.mk 9 (Go.Value.slice Option.none 0 0)), (Prod.mk 11 (vI (0 : Int)))] []))))))) ∨
 (∃ n4 : Nat,
 (∃ cs1 : List Go.Value,
 (∃ n5 : Int,
 ((Says C 32 [(D.agg [(D.val (vI (IntKind.wrap .i64 (Int.tdiv x0 2)))), (D.val (vI (10000 : Int))), (D.val (vI (0 : Int))), (D.val (vI x3))]), (D.sl 0 2 [])] [(D.sl (n4) 1 (cs1)), (D.val (vI n5))]) ∧
 ((((vI n5) = (vI n5)) ∧
 (((Go.Value.slice (Option.some (Go.Addr.mk 1004 0 Option.none)) (n4) (n4)) = (Go.Value.slice (Option.some (Go.Addr.mk 1004 0 Option.none)) (n4) (n4))) ∧
 (((Go.Value.tuple [(Go.Value.slice (Option.some (Go.Addr.mk 1004 0 Option.none)) (n4) (n4)), (vI n5)].toArray) = (Go.Value.tuple [(Go.Value.slice (Option.some (Go.Addr.mk 1004 0 Option.none)) (n4) (n4)), (vI n5)].toArray)) ∧
 True))) ∧
 ((((vI n5) = (vI n5)) ∧
 True) ∧
 (True ∧
 (bcase (n5 != 0)
 (k [(D.val (Value.bool false))])
 (bcase ((↑n4 : Int) != (↑0 : Int))
 (k [(D.val (Value.bool false))])
 (L 0 [(Prod.mk 5 (Go.Value.slice Option.none 0 0)), (Prod.mk 9 (Go.Value.slice (Option.some (Go.Addr.mk 1000 0 Option.none)) (n4) (n4))), (Prod.mk 11 (vI (0 : Int)))] [(Prod.mk 1000 (AObj.sym (cs1) true 1))]))))))))))))))) ∨
 ((Says C 36 [D.nil, D.nil] [(D.val (Value.bool false))]) ∧
 (k [(D.val (Value.bool false))])))) ∨
 (∃ n4 : Nat,
 (∃ cs1 : List Go.Value,
 ((Says C 37 [(D.agg [(D.val (vI x0)), (D.val (vI x1)), (D.val (vI x2)), (D.val (vI x3))]), D.nil] [(D.sl (n4) 1 (cs1))]) ∧
 (bcase (decide (0 + n4 * 1 ≤ List.length cs1))
 (((Says C 36 [D.nil, (D.sl (n4) 1 (List.take (n4 * 1) (List.drop 0 cs1)))] [(D.val (Value.bool true))]) ∧
 ((((Go.Value.slice Option.none 0 0) = (Go.Value.slice Option.none 0 0)) ∧
 (((Go.Value.agg [(vI (IntKind.wrap .i64 (Int.tdiv x0 2))), (vI (10000 : Int)), (vI (0 : Int)), (vI x3)].toArray) = (Go.Value.agg [(vI (IntKind.wrap .i64 (Int.tdiv x0 2))), (vI (10000 : Int)), (vI (0 : Int)), (vI x3)].toArray)) ∧
 True)) ∧
 ((Says C 33 [D.nil] [(D.sl 0 2 [])]) ∧
 ((((Go.Value.agg [(vI (IntKind.wrap .i64 (Int.tdiv x0 2))), (vI (10000 : Int)), (vI (0 : Int)), (vI x3)].toArray) = (Go.Value.agg [(vI (IntKind.wrap .i64 (Int.tdiv x0 2))), (vI (10000 : Int)), (vI (0 : Int)), (vI x3)].toArray)) ∧
 True) ∧
 ((∃ n5 : Int,
 ((Says C 32 [(D.agg [(D.val (vI (IntKind.wrap .i64 (Int.tdiv x0 2)))), (D.val (vI (10000 : Int))), (D.val (vI (0 : Int))), (D.val (vI x3))]), (D.sl 0 2 [])] [D.nil, (D.val (vI n5))]) ∧
 ((((vI n5) = (vI n5)) ∧
 (((Go.Value.slice Option.none 0 0) = (Go.Value.slice Option.none 0 0)) ∧
 (((Go.Value.tuple [(Go.Value.slice Option.none 0 0), (vI n5)].toArray) = (Go.Value.tuple [(Go.Value.slice Option.none 0 0), (vI n5)].toArray)) ∧
 True))) ∧
 ((((vI n5) = (vI n5)) ∧
 True) ∧
 (True ∧
 (bcase (n5 != 0)
 (k [(D.val (Value.bool false))])
 (L 0 [(Prod.mk 5 (Go.Value.slice Option.none 0 0)), (Prod.mk 9 (Go.Value.slice Option.none 0 0)), (Prod.mk 11 (vI (0 : Int)))] []))))))) ∨
 (∃ n5 : Nat,
 (∃ cs2 : List Go.Value,
 (∃ n6 : Int,
 ((Says C 32 [(D.agg [(D.val (vI (IntKind.wrap .i64 (Int.tdiv x0 2)))), (D.val (vI (10000 : Int))), (D.val (vI (0 : Int))), (D.val (vI x3))]), (D.sl 0 2 [])] [(D.sl (n5) 1 (cs2)), (D.val (vI n6))]) ∧
 ((((vI n6) = (vI n6)) ∧
 (((Go.Value.slice (Option.some (Go.Addr.mk 1005 0 Option.none)) (n5) (n5)) = (Go.Value.slice (Option.some (Go.Addr.mk 1005 0 Option.none)) (n5) (n5))) ∧
 (((Go.Value.tuple [(Go.Value.slice (Option.some (Go.Addr.mk 1005 0 Option.none)) (n5) (n5)), (vI n6)].toArray) = (Go.Value.tuple [(Go.Value.slice (Option.some (Go.Addr.mk 1005 0 Option.none)) (n5) (n5)), (vI n6)].toArray)) ∧
 True))) ∧
 ((((vI n6) = (vI n6)) ∧
 True) ∧
 (True ∧
 (bcase (n6 != 0)
 (k [(D.val (Value.bool false))])
 (bcase ((↑n5 : Int) != (↑0 : Int))
 (k [(D.val (Value.bool false))])
 (L 0 [(Prod.mk 5 (Go.Value.slice Option.none 0 0)), (Prod.mk 9 (Go.Value.slice (Option.some (Go.Addr.mk 1000 0 Option.none)) (n5) (n5))), (Prod.mk 11 (vI (0 : Int)))] [(Prod.mk 1000 (AObj.sym (cs2) true 1))]))))))))))))))) ∨
 ((Says C 36 [D.nil, (D.sl (n4) 1 (List.take (n4 * 1) (List.drop 0 cs1)))] [(D.val (Value.bool false))]) ∧
 (k [(D.val (Value.bool false))])))
 False)))))))))
 (bcase (n2 != 0)
 (bcase (n1 == n2)
 (k [(D.val (Value.bool true))])
 (k [(D.val (Value.bool false))]))
 (bcase (n1 != 0)
 (k [(D.val (Value.bool false))])
 (((Says C 37 [(D.agg [(D.val (vI x0)), (D.val (vI x1)), (D.val (vI x2)), (D.val (vI x3))]), D.nil] [D.nil]) ∧
 (((Says C 36 [D.nil, D.nil] [(D.val (Value.bool true))]) ∧
 ((((Go.Value.slice Option.none 0 0) = (Go.Value.slice Option.none 0 0)) ∧
 (((Go.Value.agg [(vI (IntKind.wrap .i64 (Int.tdiv x0 2))), (vI (10000 : Int)), (vI (0 : Int)), (vI x3)].toArray) = (Go.Value.agg [(vI (IntKind.wrap .i64 (Int.tdiv x0 2))), (vI (10000 : Int)), (vI (0 : Int)), (vI x3)].toArray)) ∧
 True)) ∧
 ((Says C 33 [D.nil] [(D.sl 0 2 [])]) ∧
 ((((Go.Value.agg [(vI (IntKind.wrap .i64 (Int.tdiv x0 2))), (vI (10000 : Int)), (vI (0 : Int)), (vI x3)].toArray) = (Go.Value.agg [(vI (IntKind.wrap .i64 (Int.tdiv x0 2))), (vI (10000 : Int)), (vI (0 : Int)), (vI x3)].toArray)) ∧
 True) ∧
 ((∃ n3 : Int,
 ((Says C 32 [(D.agg [(D.val (vI (IntKind.wrap .i64 (Int.tdiv x0 2)))), (D.val (vI (10000 : Int))), (D.val (vI (0 : Int))), (D.val (vI x3))]), (D.sl 0 2 [])] [D.nil, (D.val (vI n3))]) ∧
 ((((vI n3) = (vI n3)) ∧
 (((Go.Value.slice Option.none 0 0) = (Go.Value.slice Option.none 0 0)) ∧
 (((Go.Value.tuple [(Go.Value.slice Option.none 0 0), (vI n3)].toArray) = (Go.Value.tuple [(Go.Value.slice Option.none 0 0), (vI n3)].toArray)) ∧
 True))) ∧
 ((((vI n3) = (vI n3)) ∧
 True) ∧
 (True ∧
 (bcase (n3 != 0)
 (k [(D.val (Value.bool false))])
 (L 0 [(Prod.mk 5 (Go.Value.slice Option.none 0 0)), (Prod.mk 9 (Go.Value.slice Option.none 0 0)), (Prod.mk 11 (vI (0 : Int)))] []))))))) ∨
 (∃ n3 : Nat,
 (∃ cs1 : List Go.Value,
 (∃ n4 : Int,
 ((Says C 32 [(D.agg [(D.val (vI (IntKind.wrap .i64 (Int.tdiv x0 2)))), (D.val (vI (10000 : Int))), (D.val (vI (0 : Int))), (D.val (vI x3))]), (D.sl 0 2 [])] [(D.sl (n3) 1 (cs1)), (D.val (vI n4))]) ∧
 ((((vI n4) = (vI n4)) ∧
 (((Go.Value.slice (Option.some (Go.Addr.mk 1004 0 Option.none)) (n3) (n3)) = (Go.Value.slice (Option.some (Go.Addr.mk 1004 0 Option.none)) (n3) (n3))) ∧
 (((Go.Value.tuple [(Go.Value.slice (Option.some (Go.Addr.mk 1004 0 Option.none)) (n3) (n3)), (vI n4)].toArray) = (Go.Value.tuple [(Go.Value.slice (Option.some (Go.Addr.mk 1004 0 Option.none)) (n3) (n3)), (vI n4)].toArray)) ∧
 True))) ∧
 ((((vI n4) = (vI n4)) ∧
 True) ∧
 (True ∧
 (bcase (n4 != 0)
 (k [(D.val (Value.bool false))])
 (bcase ((↑n3 : Int) != (↑0 : Int))
 (k [(D.val (Value.bool false))])
 (L 0 [(Prod.mk 5 (Go.Value.slice Option.none 0 0)), (Prod.mk 9 (Go.Value.slice (Option.some (Go.Addr.mk 1000 0 Option.none)) (n3) (n3))), (Prod.mk 11 (vI (0 : Int)))] [(Prod.mk 1000 (AObj.sym (cs1) true 1))]))))))))))))))) ∨
 ((Says C 36 [D.nil, D.nil] [(D.val (Value.bool false))]) ∧
 (k [(D.val (Value.bool false))])))) ∨
 (∃ n3 : Nat,
 (∃ cs1 : List Go.Value,
 ((Says C 37 [(D.agg [(D.val (vI x0)), (D.val (vI x1)), (D.val (vI x2)), (D.val (vI x3))]), D.nil] [(D.sl (n3) 1 (cs1))]) ∧
 (bcase (decide (0 + n3 * 1 ≤ List.length cs1))
 (((Says C 36 [D.nil, (D.sl (n3) 1 (List.take (n3 * 1) (List.drop 0 cs1)))] [(D.val (Value.bool true))]) ∧
 ((((Go.Value.slice Option.none 0 0) = (Go.Value.slice Option.none 0 0)) ∧
 (((Go.Value.agg [(vI (IntKind.wrap .i64 (Int.tdiv x0 2))), (vI (10000 : Int)), (vI (0 : Int)), (vI x3)].toArray) = (Go.Value.agg [(vI (IntKind.wrap .i64 (Int.tdiv x0 2))), (vI (10000 : Int)), (vI (0 : Int)), (vI x3)].toArray)) ∧
 True)) ∧
 ((Says C 33 [D.nil] [(D.sl 0 2 [])]) ∧
 ((((Go.Value.agg [(vI (IntKind.wrap .i64 (Int.tdiv x0 2))), (vI (10000 : Int)), (vI (0 : Int)), (vI x3)].toArray) = (Go.Value.agg [(vI (IntKind.wrap .i64 (Int.tdiv x0 2))), (vI (10000 : Int)), (vI (0 : Int)), (vI x3)].toArray)) ∧
 True) ∧
 ((∃ n4 : Int,
 ((Says C 32 [(D.agg [(D.val (vI (IntKind.wrap .i64 (Int.tdiv x0 2)))), (D.val (vI (10000 : Int))), (D.val (vI (0 : Int))), (D.val (vI x3))]), (D.sl 0 2 [])] [D.nil, (D.val (vI n4))]) ∧
 ((((vI n4) = (vI n4)) ∧
 (((Go.Value.slice Option.none 0 0) = (Go.Value.slice Option.none 0 0)) ∧
 (((Go.Value.tuple [(Go.Value.slice Option.none 0 0), (vI n4)].toArray) = (Go.Value.tuple [(Go.Value.slice Option.none 0 0), (vI n4)].toArray)) ∧
 True))) ∧
 ((((vI n4) = (vI n4)) ∧
 True) ∧
 (True ∧
 (bcase (n4 != 0)
 (k [(D.val (Value.bool false))])
 (L 0 [(Prod.mk 5 (Go.Value.slice Option.none 0 0)), (Prod.mk 9 (Go.Value.slice Option.none 0 0)), (Prod.mk 11 (vI (0 : Int)))] []))))))) ∨
 (∃ n4 : Nat,
 (∃ cs2 : List Go.Value,
 (∃ n5 : Int,
 ((Says C 32 [(D.agg [(D.val (vI (IntKind.wrap .i64 (Int.tdiv x0 2)))), (D.val (vI (10000 : Int))), (D.val (vI (0 : Int))), (D.val (vI x3))]), (D.sl 0 2 [])] [(D.sl (n4) 1 (cs2)), (D.val (vI n5))]) ∧
 ((((vI n5) = (vI n5)) ∧
 (((Go.Value.slice (Option.some (Go.Addr.mk 1005 0 Option.none)) (n4) (n4)) = (Go.Value.slice (Option.some (Go.Addr.mk 1005 0 Option.none)) (n4) (n4))) ∧
 (((Go.Value.tuple [(Go.Value.slice (Option.some (Go.Addr.mk 1005 0 Option.none)) (n4) (n4)), (vI n5)].toArray) = (Go.Value.tuple [(Go.Value.slice (Option.some (Go.Addr.mk 1005 0 Option.none)) (n4) (n4)), (vI n5)].toArray)) ∧
 True))) ∧
 ((((vI n5) = (vI n5)) ∧
 True) ∧
 (True ∧
 (bcase (n5 != 0)
 (k [(D.val (Value.bool false))])
 (bcase ((↑n4 : Int) != (↑0 : Int))
 (k [(D.val (Value.bool false))])
 (L 0 [(Prod.mk 5 (Go.Value.slice Option.none 0 0)), (Prod.mk 9 (Go.Value.slice (Option.some (Go.Addr.mk 1000 0 Option.none)) (n4) (n4))), (Prod.mk 11 (vI (0 : Int)))] [(Prod.mk 1000 (AObj.sym (cs2) true 1))]))))))))))))))) ∨
 ((Says C 36 [D.nil, (D.sl (n3) 1 (List.take (n3 * 1) (List.drop 0 cs1)))] [(D.val (Value.bool false))]) ∧
 (k [(D.val (Value.bool false))])))
 False))))))))))))))) ∨
 (∃ n1 : Nat,
 (∃ cs1 : List Go.Value,
 (∃ n2 : Int,
 ((Says C 32 [(D.agg [(D.val (vI x0)), (D.val (vI x1)), (D.val (vI x2)), (D.val (vI x3))]), (D.sl 0 2 [])] [(D.sl (n1) 1 (cs1)), (D.val (vI n2))]) ∧
 ((((vI n2) = (vI n2)) ∧
 (((Go.Value.slice (Option.some (Go.Addr.mk 1002 0 Option.none)) (n1) (n1)) = (Go.Value.slice (Option.some (Go.Addr.mk 1002 0 Option.none)) (n1) (n1))) ∧
 (((Go.Value.tuple [(Go.Value.slice (Option.some (Go.Addr.mk 1002 0 Option.none)) (n1) (n1)), (vI n2)].toArray) = (Go.Value.tuple [(Go.Value.slice (Option.some (Go.Addr.mk 1002 0 Option.none)) (n1) (n1)), (vI n2)].toArray)) ∧
 True))) ∧
 ((((vI n2) = (vI n2)) ∧
 True) ∧
 (True ∧
 (∃ n3 : Int,
 ((Says C 34 [(D.agg [(D.val (vI x0)), (D.val (vI x1)), (D.val (vI x2)), (D.val (vI x3))])] [(D.val (vI n3))]) ∧
 (bcase (n3 == 0)
 (∃ n4 : Int,
 ((Says C 35 [D.nil] [(D.val (vI n4))]) ∧
 (bcase (n4 != 0)
 (bcase (n2 == n4)
 (bcase ((↑n1 : Int) == 0)
 (k [(D.val (Value.bool true))])
 (k [(D.val (Value.bool false))]))
 (k [(D.val (Value.bool false))]))
 (bcase (n2 != 0)
 (k [(D.val (Value.bool false))])
 (((Says C 37 [(D.agg [(D.val (vI x0)), (D.val (vI x1)), (D.val (vI x2)), (D.val (vI x3))]), D.nil] [D.nil]) ∧
 (bcase (decide (0 + n1 * 1 ≤ List.length cs1))
 (((Says C 36 [(D.sl (n1) 1 (List.take (n1 * 1) (List.drop 0 cs1))), D.nil] [(D.val (Value.bool true))]) ∧
 ((((Go.Value.slice Option.none 0 0) = (Go.Value.slice Option.none 0 0)) ∧
 (((Go.Value.agg [(vI (IntKind.wrap .i64 (Int.tdiv x0 2))), (vI (10000 : Int)), (vI (0 : Int)), (vI x3)].toArray) = (Go.Value.agg [(vI (IntKind.wrap .i64 (Int.tdiv x0 2))), (vI (10000 : Int)), (vI (0 : Int)), (vI x3)].toArray)) ∧
 True)) ∧
 ((Says C 33 [D.nil] [(D.sl 0 2 [])]) ∧
 ((((Go.Value.agg [(vI (IntKind.wrap .i64 (Int.tdiv x0 2))), (vI (10000 : Int)), (vI (0 : Int)), (vI x3)].toArray) = (Go.Value.agg [(vI (IntKind.wrap .i64 (Int.tdiv x0 2))), (vI (10000 : Int)), (vI (0 : Int)), (vI x3)].toArray)) ∧
 True) ∧
 ((∃ n5 : Int,
 ((Says C 32 [(D.agg [(D.val (vI (IntKind.wrap .i64 (Int.tdiv x0 2)))), (D.val (vI (10000 : Int))), (D.val (vI (0 : Int))), (D.val (vI x3))]), (D.sl 0 2 [])] [D.nil, (D.val (vI n5))]) ∧
 ((((vI n5) = (vI n5)) ∧
 (((Go.Value.slice Option.none 0 0) = (Go.Value.slice Option.none 0 0)) ∧
 (((Go.Value.tuple [(Go.Value.slice Option.none 0 0), (vI n5)].toArray) = (Go.Value.tuple [(Go.Value.slice Option.none 0 0), (vI n5)].toArray)) ∧
 True))) ∧
 ((((vI n5) = (vI n5)) ∧
 True) ∧
 (True ∧
 (bcase (n5 != 0)
 (k [(D.val (Value.bool false))])
 (bcase ((↑0 : Int) != (↑n1 : Int))
 (k [(D.val (Value.bool false))])
 (L 0 [(Prod.mk 5 (Go.Value.slice (Option.some (Go.Addr.mk 1000 0 Option.none)) (n1) (n1))), (Prod.mk 9 (Go.Value.slice Option.none 0 0)), (Prod.mk 11 (vI (0 : Int)))] [(Prod.mk 1000 (AObj.sym (cs1) true 1))])))))))) ∨
 (∃ n5 : Nat,
 (∃ cs2 : List Go.Value,
 (∃ n6 : Int,
 ((Says C 32 [(D.agg [(D.val (vI (IntKind.wrap .i64 (Int.tdiv x0 2)))), (D.val (vI (10000 : Int))), (D.val (vI (0 : Int))), (D.val (vI x3))]), (D.sl 0 2 [])] [(D.sl (n5) 1 (cs2)), (D.val (vI n6))]) ∧
 ((((vI n6) = (vI n6)) ∧
 (((Go.Value.slice (Option.some (Go.Addr.mk 1005 0 Option.none)) (n5) (n5)) = (Go.Value.slice (Option.some (Go.Addr.mk 1005 0 Option.none)) (n5) (n5))) ∧
 (((Go.Value.tuple [(Go.Value.slice (Option.some (Go.Addr.mk 1005 0 Option.none)) (n5) (n5)), (vI n6)].toArray) = (Go.Value.tuple [(Go.Value.slice (Option.some (Go.Addr.mk 1005 0 Option.none)) (n5) (n5)), (vI n6)].toArray)) ∧
 True))) ∧
 ((((vI n6) = (vI n6)) ∧
 True) ∧
 (True ∧
 (bcase (n6 != 0)
 (k [(D.val (Value.bool false))])
 (bcase ((↑n5 : Int) != (↑n1 : Int))
 (k [(D.val (Value.bool false))])
 (L 0 [(Prod.mk 5 (Go.Value.slice (Option.some (Go.Addr.mk 1000 0 Option.none)) (n1) (n1))), (Prod.mk 9 (Go.Value.slice (Option.some (Go.Addr.mk 1001 0 Option.none)) (n5) (n5))), (Prod.mk 11 (vI (0 : Int)))] [(Prod.mk 1000 (AObj.sym (cs1) true 1)), (Prod.mk 1001 (AObj.sym (cs2) true 1))]))))))))))))))) ∨
 ((Says C 36 [(D.sl (n1) 1 (List.take (n1 * 1) (List.drop 0 cs1))), D.nil] [(D.val (Value.bool false))]) ∧
 (k [(D.val (Value.bool false))])))
 False)) ∨
 (∃ n5 : Nat,
 (∃ cs2 : List Go.Value,
 ((Says C 37 [(D.agg [(D.val (vI x0)), (D.val (vI x1)), (D.val (vI x2)), (D.val (vI x3))]), D.nil] [(D.sl (n5) 1 (cs2))]) ∧
 (bcase (decide (0 + n1 * 1 ≤ List.length cs1))
 (bcase (decide (0 + n5 * 1 ≤ List.length cs2))
 (((Says C 36 [(D.sl (n1) 1 (List.take (n1 * 1) (List.drop 0 cs1))), (D.sl (n5) 1 (List.take (n5 * 1) (List.drop 0 cs2)))] [(D.val (Value.bool true))]) ∧
 ((((Go.Value.slice Option.none 0 0) = (Go.Value.slice Option.none 0 0)) ∧
 (((Go.Value.agg [(vI (IntKind.wrap .i64 (Int.tdiv x0 2))), (vI (10000 : Int)), (vI (0 : Int)), (vI x3)].toArray) = (Go.Value.agg [(vI (IntKind.wrap .i64 (Int.tdiv x0 2))), (vI (10000 : Int)), (vI (0 : Int)), (vI x3)].toArray)) ∧
 True)) ∧
 ((Says C 33 [D.nil] [(D.sl 0 2 [])]) ∧
 ((((Go.Value.agg [(vI (IntKind.wrap .i64 (Int.tdiv x0 2))), (vI (10000 : Int)), (vI (0 : Int)), (vI x3)].toArray) = (Go.Value.agg [(vI (IntKind.wrap .i64 (Int.tdiv x0 2))), (vI (10000 : Int)), (vI (0 : Int)), (vI x3)].toArray)) ∧
 True) ∧
 ((∃ n6 : Int,
 ((Says C 32 [(D.agg [(D.val (vI (IntKind.wrap .i64 (Int.tdiv x0 2)))), (D.val (vI (10000 : Int))), (D.val (vI (0 : Int))), (D.val (vI x3))]), (D.sl 0 2 [])] [D.nil, (D.val (vI n6))]) ∧
 ((((vI n6) = (vI n6)) ∧
 (((Go.Value.slice Option.none 0 0) = (Go.Value.slice Option.none 0 0)) ∧
 (((Go.Value.tuple [(Go.Value.slice Option.none 0 0), (vI n6)].toArray) = (Go.Value.tuple [(Go.Value.slice Option.none 0 0), (vI n6)].toArray)) ∧
 True))) ∧
 ((((vI n6) = (vI n6)) ∧
 True) ∧
 (True ∧
 (bcase (n6 != 0)
 (k [(D.val (Value.bool false))])
 (bcase ((↑0 : Int) != (↑n1 : Int))
 (k [(D.val (Value.bool false))])
 (L 0 [(Prod.mk 5 (Go.Value.slice (Option.some (Go.Addr.mk 1000 0 Option.none)) (n1) (n1))), (Prod.mk 9 (Go.Value.slice Option.none 0 0)), (Prod.mk 11 (vI (0 : Int)))] [(Prod.mk 1000 (AObj.sym (cs1) true 1))])))))))) ∨
 (∃ n6 : Nat,
 (∃ cs3 : List Go.Value,
 (∃ n7 : Int,
 ((Says C 32 [(D.agg [(D.val (vI (IntKind.wrap .i64 (Int.tdiv x0 2)))), (D.val (vI (10000 : Int))), (D.val (vI (0 : Int))), (D.val (vI x3))]), (D.sl 0 2 [])] [(D.sl (n6) 1 (cs3)), (D.val (vI n7))]) ∧
 ((((vI n7) = (vI n7)) ∧
 (((Go.Value.slice (Option.some (Go.Addr.mk 1006 0 Option.none)) (n6) (n6)) = (Go.Value.slice (Option.some (Go.Addr.mk 1006 0 Option.none)) (n6) (n6))) ∧
 (((Go.Value.tuple [(Go.Value.slice (Option.some (Go.Addr.mk 1006 0 Option.none)) (n6) (n6)), (vI n7)].toArray) = (Go.Value.tuple [(Go.Value.slice (Option.some (Go.Addr.mk 1006 0 Option.none)) (n6) (n6)), (vI n7)].toArray)) ∧
 True))) ∧
 ((((vI n7) = (vI n7)) ∧
 True) ∧
 (True ∧
 (bcase (n7 != 0)
 (k [(D.val (Value.bool false))])
 (bcase ((↑n6 : Int) != (↑n1 : Int))
 (k [(D.val (Value.bool false))])
 (L 0 [(Prod.mk 5 (Go.Value.slice (Option.some (Go.Addr.mk 1000 0 Option.none)) (n1) (n1))), (Prod.mk 9 (Go.Value.slice (Option.some (Go.Addr.mk 1001 0 Option.none)) (n6) (n6))), (Prod.mk 11 (vI (0 : Int)))] [(Prod.mk 1000 (AObj.sym (cs1) true 1)), (Prod.mk 1001 (AObj.sym (cs3) true 1))]))))))))))))))) ∨
 ((Says C 36 [(D.sl (n1) 1 (List.take (n1 * 1) (List.drop 0 cs1))), (D.sl (n5) 1 (List.take (n5 * 1) (List.drop 0 cs2)))] [(D.val (Value.bool false))]) ∧
 (k [(D.val (Value.bool false))])))
 False)
 False)))))))))
 (bcase (n3 != 0)
 (bcase (n2 == n3)
 (bcase ((↑n1 : Int) == 0)
 (k [(D.val (Value.bool true))])
 (k [(D.val (Value.bool false))]))
 (k [(D.val (Value.bool false))]))
 (bcase (n2 != 0)
 (k [(D.val (Value.bool false))])
 (((Says C 37 [(D.agg [(D.val (vI x0)), (D.val (vI x1)), (D.val (vI x2)), (D.val (vI x3))]), D.nil] [D.nil]) ∧
 (bcase (decide (0 + n1 * 1 ≤ List.length cs1))
 (((Says C 36 [(D.sl (n1) 1 (List.take (n1 * 1) (List.drop 0 cs1))), D.nil] [(D.val (Value.bool true))]) ∧
 ((((Go.Value.slice Option.none 0 0) = (Go.Value.slice Option.none 0 0)) ∧
 (((Go.Value.agg [(vI (IntKind.wrap .i64 (Int.tdiv x0 2))), (vI (10000 : Int)), (vI (0 : Int)), (vI x3)].toArray) = (Go.Value.agg [(vI (IntKind.wrap .i64 (Int.tdiv x0 2))), (vI (10000 : Int)), (vI (0 : Int)), (vI x3)].toArray)) ∧
 True)) ∧
 ((Says C 33 [D.nil] [(D.sl 0 2 [])]) ∧
 ((((Go.Value.agg [(vI (IntKind.wrap .i64 (Int.tdiv x0 2))), (vI (10000 : Int)), (vI (0 : Int)), (vI x3)].toArray) = (Go.Value.agg [(vI (IntKind.wrap .i64 (Int.tdiv x0 2))), (vI (10000 : Int)), (vI (0 : Int)), (vI x3)].toArray)) ∧
 True) ∧
 ((∃ n4 : Int,
 ((Says C 32 [(D.agg [(D.val (vI (IntKind.wrap .i64 (Int.tdiv x0 2)))), (D.val (vI (10000 : Int))), (D.val (vI (0 : Int))), (D.val (vI x3))]), (D.sl 0 2 [])] [D.nil, (D.val (vI n4))]) ∧
 ((((vI n4) = (vI n4)) ∧
 (((Go.Value.slice Option.none 0 0) = (Go.Value.slice Option.none 0 0)) ∧
 (((Go.Value.tuple [(Go.Value.slice Option.none 0 0), (vI n4)].toArray) = (Go.Value.tuple [(Go.Value.slice Option.none 0 0), (vI n4)].toArray)) ∧
 True))) ∧
 ((((vI n4) = (vI n4)) ∧
 True) ∧
 (True ∧
 (bcase (n4 != 0)
 (k [(D.val (Value.bool false))])
 (bcase ((↑0 : Int) != (↑n1 : Int))
 (k [(D.val (Value.bool false))])
 (L 0 [(Prod.mk 5 (Go.Value.slice (Option.some (Go.Addr.mk 1000 0 Option.none)) (n1) (n1))), (Prod.mk 9 (Go.Value.slice Option.none 0 0)), (Prod.mk 11 (vI (0 : Int)))] [(Prod.mk 1000 (AObj.sym (cs1) true 1))])))))))) ∨
 (∃ n4 : Nat,
 (∃ cs2 : List Go.Value,
 (∃ n5 : Int,
 ((Says C 32 [(D.agg [(D.val (vI (IntKind.wrap .i64 (Int.tdiv x0 2)))), (D.val (vI (10000 : Int))), (D.val (vI (0 : Int))), (D.val (vI x3))]), (D.sl 0 2 [])] [(D.sl (n4) 1 (cs2)), (D.val (vI n5))]) ∧
 ((((vI n5) = (vI n5)) ∧
 (((Go.Value.slice (Option.some (Go.Addr.mk 1005 0 Option.none)) (n4) (n4)) = (Go.Value.slice (Option.some (Go.Addr.mk 1005 0 Option.none)) (n4) (n4))) ∧
 (((Go.Value.tuple [(Go.Value.slice (Option.some (Go.Addr.mk 1005 0 Option.none)) (n4) (n4)), (vI n5)].toArray) = (Go.Value.tuple [(Go.Value.slice (Option.some (Go.Addr.mk 1005 0 Option.none)) (n4) (n4)), (vI n5)].toArray)) ∧
 True))) ∧
 ((((vI n5) = (vI n5)) ∧
 True) ∧
 (True ∧
 (bcase (n5 != 0)
 (k [(D.val (Value.bool false))])
 (bcase ((↑n4 : Int) != (↑n1 : Int))
 (k [(D.val (Value.bool false))])
 (L 0 [(Prod.mk 5 (Go.Value.slice (Option.some (Go.Addr.mk 1000 0 Option.none)) (n1) (n1))), (Prod.mk 9 (Go.Value.slice (Option.some (Go.Addr.mk 1001 0 Option.none)) (n4) (n4))), (Prod.mk 11 (vI (0 : Int)))] [(Prod.mk 1000 (AObj.sym (cs1) true 1)), (Prod.mk 1001 (AObj.sym (cs2) true 1))]))))))))))))))) ∨
 ((Says C 36 [(D.sl (n1) 1 (List.take (n1 * 1) (List.drop 0 cs1))), D.nil] [(D.val (Value.bool false))]) ∧
 (k [(D.val (Value.bool false))])))
 False)) ∨
 (∃ n4 : Nat,
 (∃ cs2 : List Go.Value,
 ((Says C 37 [(D.agg [(D.val (vI x0)), (D.val (vI x1)), (D.val (vI x2)), (D.val (vI x3))]), D.nil] [(D.sl (n4) 1 (cs2))]) ∧
 (bcase (decide (0 + n1 * 1 ≤ List.length cs1))
 (bcase (decide (0 + n4 * 1 ≤ List.length cs2))
 (((Says C 36 [(D.sl (n1) 1 (List.take (n1 * 1) (List.drop 0 cs1))), (D.sl (n4) 1 (List.take (n4 * 1) (List.drop 0 cs2)))] [(D.val (Value.bool true))]) ∧
 ((((Go.Value.slice Option.none 0 0) = (Go.Value.slice Option.none 0 0)) ∧
 (((Go.Value.agg [(vI (IntKind.wrap .i64 (Int.tdiv x0 2))), (vI (10000 : Int)), (vI (0 : Int)), (vI x3)].toArray) = (Go.Value.agg [(vI (IntKind.wrap .i64 (Int.tdiv x0 2))), (vI (10000 : Int)), (vI (0 : Int)), (vI x3)].toArray)) ∧
 True)) ∧
 ((Says C 33 [D.nil] [(D.sl 0 2 [])]) ∧
 ((((Go.Value.agg [(vI (IntKind.wrap .i64 (Int.tdiv x0 2))), (vI (10000 : Int)), (vI (0 : Int)), (vI x3)].toArray) = (Go.Value.agg [(vI (IntKind.wrap .i64 (Int.tdiv x0 2))), (vI (10000 : Int)), (vI (0 : Int)), (vI x3)].toArray)) ∧
 True) ∧
 ((∃ n5 : Int,
 ((Says C 32 [(D.agg [(D.val (vI (IntKind.wrap .i64 (Int.tdiv x0 2)))), (D.val (vI (10000 : Int))), (D.val (vI (0 : Int))), (D.val (vI x3))]), (D.sl 0 2 [])] [D.nil, (D.val (vI n5))]) ∧
 ((((vI n5) = (vI n5)) ∧
 (((Go.Value.slice Option.none 0 0) = (Go.Value.slice Option.none 0 0)) ∧
 (((Go.Value.tuple [(Go.Value.slice Option.none 0 0), (vI n5)].toArray) = (Go.Value.tuple [(Go.Value.slice Option.none 0 0), (vI n5)].toArray)) ∧
 True))) ∧
 ((((vI n5) = (vI n5)) ∧
 True) ∧
 (True ∧
 (bcase (n5 != 0)
 (k [(D.val (Value.bool false))])
 (bcase ((↑0 : Int) != (↑n1 : Int))
 (k [(D.val (Value.bool false))])
 (L 0 [(Prod.mk 5 (Go.Value.slice (Option.some (Go.Addr.mk 1000 0 Option.none)) (n1) (n1))), (Prod.mk 9 (Go.Value.slice Option.none 0 0)), (Prod.mk 11 (vI (0 : Int)))] [(Prod.mk 1000 (AObj.sym (cs1) true 1))])))))))) ∨
 (∃ n5 : Nat,
 (∃ cs3 : List Go.Value,
 (∃ n6 : Int,
 ((Says C 32 [(D.agg [(D.val (vI (IntKind.wrap .i64 (Int.tdiv x0 2)))), (D.val (vI (10000 : Int))), (D.val (vI (0 : Int))), (D.val (vI x3))]), (D.sl 0 2 [])] [(D.sl (n5) 1 (cs3)), (D.val (vI n6))]) ∧
 ((((vI n6) = (vI n6)) ∧
 (((Go.Value.slice (Option.some (Go.Addr.mk 1006 0 Option.none)) (n5) (n5)) = (Go.Value.slice (Option.some (Go.Addr.mk 1006 0 Option.none)) (n5) (n5))) ∧
 (((Go.Value.tuple [(Go.Value.slice (Option.some (Go.Addr.mk 1006 0 Option.none)) (n5) (n5)), (vI n6)].toArray) = (Go.Value.tuple [(Go.Value.slice (Option.some (Go.Addr.mk 1006 0 Option.none)) (n5) (n5)), (vI n6)].toArray)) ∧
 True))) ∧
 ((((vI n6) = (vI n6)) ∧
 True) ∧
 (True ∧
 (bcase (n6 != 0)
 (k [(D.val (Value.bool false))])
 (bcase ((↑n5 : Int) != (↑n1 : Int))
 (k [(D.val (Value.bool false))])
 (L 0 [(Prod.mk 5 (Go.Value.slice (Option.some (Go.Addr.mk 1000 0 Option.none)) (n1) (n1))), (Prod.mk 9 (Go.Value.slice (Option.some (Go.Addr.mk 1001 0 Option.none)) (n5) (n5))), (Prod.mk 11 (vI (0 : Int)))] [(Prod.mk 1000 (AObj.sym (cs1) true 1)), (Prod.mk 1001 (AObj.sym (cs3) true 1))]))))))))))))))) ∨
 ((Says C 36 [(D.sl (n1) 1 (List.take (n1 * 1) (List.drop 0 cs1))), (D.sl (n4) 1 (List.take (n4 * 1) (List.drop 0 cs2)))] [(D.val (Value.bool false))]) ∧
 (k [(D.val (Value.bool false))])))
 False)
 False)))))))))))))))))))))) ∨
 ((Says C 12 [] [(D.val (Value.bool false))]) ∧
 (k [(D.val (Value.bool false))]))) := by kernel_rfl
end Go.Proofs.G5f

/- Chapter 7: the first wrong point, worn points, and how functions are met. -/
namespace Go.Proofs.G5f
open Go Go.Abs Go.Proofs Go.Proofs.G7
set_option maxRecDepth 100000
/-! ### worn points -/
abbrev wrP (lo up w : Int) (p : Int × Int) : Int × Int := (p.1, wrV lo up w p.1 p.2)
theorem wrL_vp (lo up w : Int) : ∀ l : List (Int × Int), wrL lo up w (vp l) = vp (l.map (wrP lo up w))
  | [] => rfl
  | p :: r => by show Value.int .i64 p.1 :: Value.int .i64 (wrV lo up w p.1 p.2) :: wrL lo up w (vp r) = _; rw [wrL_vp lo up w r]; rfl
abbrev EwO (lo up w : Int) (l : List (Int × Int)) (n : Nat) : List Value := vp ((List.range n).map fun i => wrP lo up w (pt l i))
abbrev ewS (lo up w : Int) (l : List (Int × Int)) (cap : Nat) : Nat → Slots × Blocks
  | 0 => zEw1 l.length cap l.length 0 lo up w (vp l)
  | i + 1 => zEw2 (i + 1) l.length cap l.length ((i + 1 : Nat) : Int) lo up w (EwO lo up w l (i + 1)) (vp l)
abbrev EwK (lo up w : Int) (l : List (Int × Int)) : Value → Blocks → Prop := fun v b => v = .slice (some ⟨1000, 0, none⟩) l.length l.length ∧ b = [(1000, .sym (EwO lo up w l l.length) true 2), (900, .sym (vp l) true 2), (901, .cells [vI lo, vI up, vI w] 97 false 1)]
theorem wr_in {lo up w a h : Int} (h1 : lo ≤ a) (h2 : a ≤ up) : wrV lo up w a h = IntKind.wrap .i64 (h - w) := if_pos ⟨h1, h2⟩
theorem wr_out {lo up w a h : Int} (h1 : ¬ (lo ≤ a ∧ a ≤ up)) : wrV lo up w a h = h := if_neg h1
theorem runEw (lo up w : Int) (cap : Nat) (l : List (Int × Int)) (h0 : 0 < l.length) (hl : l.length < 1000000000) : CallS Try.prog 104 [.slice (some ⟨900, 0, none⟩) l.length cap, .func (.func 129) #[] #[.pointer (some ⟨901, 0, none⟩)]] [(900, .sym (vp l) true 2), (901, .cells [vI lo, vI up, vI w] 97 false 1)] (EwK lo up w l) := by
  refine callS_ofG (L := fun _ s b => ∃ i, i ≤ l.length ∧ ewS lo up w l cap i = (s, b)) hokE mixed Try.func104 rfl rfl (ids := [0]) (by kernel_rfl) rfl ?_ (fun id hid => ?_)
  · show gEw C5 _ lo up w l.length cap (vp l) _
    rw [gEw_text]
    exact ⟨0, Nat.zero_le _, rfl⟩
  · obtain rfl := List.mem_singleton.1 hid
    refine ⟨_, ewS lo up w l cap, fun i => i ≤ l.length, fun i => l.length - i, ⟨fun s b h => h, by kernel_rfl, ?_⟩⟩
    intro i hi
    have wi : i < l.length → IntKind.wrap .i64 ((i : Int) + 1) = ((i + 1 : Nat) : Int) := fun h => by rw [w64 (by omega) (by omega)]; rfl
    cases i with
    | zero =>
      show rEw1 C5 _ l.length cap l.length ((0 : Nat) : Int) lo up w (vp l) _ _ _
      rw [rEw1_text]
      simp only [bc_t (show ((0 : Nat) : Int) < (l.length : Int) by omega), bc_t (show (0 : Int) ≤ ((0 : Nat) : Int) by omega), Int.toNat_natCast, at2 (at_pt h0), wi h0]
      have fin : ∀ v : Int, v = wrV lo up w (pt l 0).1 (pt l 0).2 → ewS lo up w l cap 1 = (_, [(901, .cells [vI lo, vI up, vI w] 97 false 1), (1000, .sym [vI (pt l 0).1, vI v] true 2), (900, .sym (vp l) true 2)]) := fun v hv => by rw [hv]; rfl
      refine bc_dec (fun h1 => bc_dec (fun h2 => ?_) (fun h2 => ?_)) (fun h1 => ?_)
      · exact ⟨1, h0, by omega, fin _ (by rw [wr_in h1 h2])⟩
      · exact ⟨1, h0, by omega, fin _ (by rw [wr_out (by omega)])⟩
      · exact ⟨1, h0, by omega, fin _ (by rw [wr_out (by omega)])⟩
    | succ i =>
      show rEw2 C5 _ (i + 1) l.length cap l.length ((i + 1 : Nat) : Int) lo up w (EwO lo up w l (i + 1)) (vp l) _ _ _
      rw [rEw2_text]
      refine bc_dec (fun h => ?_) (fun h => ?_)
      · have hi1 : i + 1 < l.length := by omega
        simp only [bc_t h, bc_t (show (0 : Int) ≤ ((i + 1 : Nat) : Int) by omega), Int.toNat_natCast, at2 (at_pt hi1), wi hi1, bc_t (show i + 1 < i + 1 + 1 by omega), bc_t (show (2 * (i + 1 + 1) + 768) * 16 ≤ 281474976710656 by omega), bc_t (show i + 1 + 1 ≤ 1099511627776 by omega), bc_t (show 0 + (i + 1) * 2 ≤ (EwO lo up w l (i + 1)).length by simp), bc_t (show 0 + (i + 1) * 2 = (EwO lo up w l (i + 1)).length by simp), rp_take]
        have fin : ∀ v : Int, v = wrV lo up w (pt l (i + 1)).1 (pt l (i + 1)).2 → ewS lo up w l cap (i + 2) = (_, [(901, .cells [vI lo, vI up, vI w] 97 false 1), (1000, .sym (EwO lo up w l (i + 1) ++ [vI (pt l (i + 1)).1, vI v]) true 2), (900, .sym (vp l) true 2)]) := fun v hv => by
          have := rp_snoc (fun i => wrP lo up w (pt l i)) (i + 1)
          rw [hv, this]
        refine bc_dec (fun h1 => bc_dec (fun h2 => ?_) (fun h2 => ?_)) (fun h1 => ?_)
        · exact ⟨i + 2, hi1, by omega, fin _ (by rw [wr_in h1 h2])⟩
        · exact ⟨i + 2, hi1, by omega, fin _ (by rw [wr_out (by omega)])⟩
        · exact ⟨i + 2, hi1, by omega, fin _ (by rw [wr_out (by omega)])⟩
      · show (if 0 = 0 then _ else _)
        rw [if_pos rfl]
        show nEw4 C5 _ (i + 1) (EwO lo up w l (i + 1)) (vp l) lo up w _
        rw [nEw4_text]
        have : i + 1 = l.length := by omega
        exact ⟨by rw [this], by rw [this]⟩
theorem eachW_ok {args : List Value} {bs : Blocks} {K : Value → Blocks → Prop} (hk : eachW 129 97 args bs K) : CallS Try.prog 104 args bs K := by
  unfold eachW at hk
  split at hk
  · split at hk
    · split at hk
      · rename_i ha hc' hc
        simp only [Bool.and_eq_true, beq_iff_eq] at hc
        obtain ⟨⟨⟨⟨⟨⟨⟨⟨⟨rfl, rfl⟩, rfl⟩, rfl⟩, rfl⟩, rfl⟩, rfl⟩, rfl⟩, rfl⟩, rfl⟩ := hc
        obtain ⟨h0, ⟨l, rfl, rfl, hl⟩, out, ho, hK⟩ := hk
        have ho : out = wrL _ _ _ (prs l) := ho.out
        rw [prs_vp] at *
        obtain rfl := Array.ext' (ys := #[]) ha
        obtain rfl := Array.ext' (ys := #[Value.pointer (some ⟨901, 0, none⟩)]) hc'
        refine callS_mono (runEw _ _ _ _ l h0 hl) ?_
        rintro v b ⟨rfl, rfl⟩
        rw [ho, wrL_vp, ← map_range (wrP _ _ _) l (0, 0)] at hK
        exact hK
      · exact hk.elim
    · exact hk.elim
  · exact hk.elim
/-! ### the first wrong point -/
theorem fpL_at {l : List (Int × Int)} {i : Nat} (h : i < l.length) (bf k : Int) : fpL bf k (vp (l.drop i)) = if ptE (pt l i).1 (pt l i).2 = 0 then (if (pt l i).1 ≤ bf then (k, 9, bf) else fpL (pt l i).1 (k + 1) (vp (l.drop (i + 1)))) else (k, ptE (pt l i).1 (pt l i).2, (pt l i).1) := by
  rw [List.drop_eq_getElem_cons h, ← pt_at h]; rfl
abbrev FpK (bf : Int) (l : List (Int × Int)) : Value → Blocks → Prop := fun v b => v = .tuple #[vI (fpL bf 0 (vp l)).1, vI (fpL bf 0 (vp l)).2.1] ∧ b = [(900, .cells [vI (fpL bf 0 (vp l)).2.2] 3 false 1)]
theorem ptE_fst (a h : Int) : fst0 [rngE 0 10000 2 a, rngE (-100000) 100000 2 h] = ptE a h := by
  rw [fst0_two, ptE]
  by_cases h1 : 0 ≤ a ∧ a ≤ 10000
  · rw [rngE_yes h1, if_pos rfl]
    by_cases h2 : -100000 ≤ h ∧ h ≤ 100000
    · rw [rngE_yes h2, if_pos ⟨h1, h2⟩]
    · rw [rngE_no h2, if_neg (fun hh => h2 hh.2)]
  · rw [rngE_no h1, if_neg (by decide), if_neg (fun hh => h1 hh.1)]
theorem runFp (bf : Int) (cap : Nat) (l : List (Int × Int)) (hl : l.length < 1000000000) : CallS Try.prog 97 [.slice (some ⟨500, 0, none⟩) l.length cap, .func (.func 98) #[] #[.pointer (some ⟨900, 0, none⟩)]] [(500, .sym (vp l) false 2), (900, .cells [vI bf] 3 false 1)] (FpK bf l) := by
  refine callS_ofG (L := fun _ s b => ∃ x : Nat × Int, (x.1 ≤ l.length ∧ fpL bf 0 (vp l) = fpL x.2 x.1 (vp (l.drop x.1))) ∧ zFp1 l.length cap l.length x.1 x.2 (vp l) = (s, b)) hok mixed Try.func97 rfl rfl (ids := [0]) (by kernel_rfl) rfl ?_ (fun id hid => ?_)
  · show gFp C5 _ bf l.length cap (vp l) _
    rw [gFp_text]
    exact ⟨(0, bf), ⟨Nat.zero_le _, rfl⟩, rfl⟩
  · obtain rfl := List.mem_singleton.1 hid
    refine ⟨_, fun x : Nat × Int => zFp1 l.length cap l.length x.1 x.2 (vp l), fun x => x.1 ≤ l.length ∧ fpL bf 0 (vp l) = fpL x.2 x.1 (vp (l.drop x.1)), fun x => l.length - x.1, ⟨fun s b h => h, by kernel_rfl, ?_⟩⟩
    rintro ⟨i, b⟩ ⟨hi, hr⟩
    simp only at hi hr
    have wi : i < l.length → IntKind.wrap .i64 ((i : Int) + 1) = ((i + 1 : Nat) : Int) := fun h => by rw [w64 (by omega) (by omega)]; rfl
    show rFp1 C5 _ l.length cap l.length (i : Int) b (vp l) _ _ _
    rw [rFp1_text, m5]
    refine bc_dec (fun h => ?_) (fun h => ?_)
    · have hi1 : i < l.length := by omega
      rw [fpL_at hi1] at hr
      simp only [bc_t h, bc_t (show (0 : Int) ≤ (i : Int) by omega), Int.toNat_natCast, at2 (at_pt hi1), wi hi1, eq_self, true_and]
      refine ⟨_, wit_rng, _, wit_rng, _, ⟨conFE [rngE 0 10000 2 (pt l i).1, rngE (-100000) 100000 2 (pt l i).2] (by simp)⟩, ?_⟩
      rw [ptE_fst]
      refine bc_beq (fun h1 => ?_) (fun h1 => ?_)
      · rw [if_pos h1] at hr
        refine bc_dec (fun h2 => ?_) (fun h2 => ?_)
        · rw [if_pos h2] at hr
          exact ⟨by rw [hr], by rw [hr]⟩
        · rw [if_neg h2] at hr
          refine bc_bne (fun h3 => absurd h1 h3) (fun _ => ⟨(i + 1, (pt l i).1), ⟨hi1, ?_⟩, by show l.length - (i + 1) < l.length - i; omega, rfl⟩)
          rw [hr]; rfl
      · rw [if_neg h1] at hr
        refine bc_bne (fun _ => ?_) (fun h3 => absurd h3 h1)
        exact ⟨by rw [hr], by rw [hr]⟩
    · show (if 0 = 0 then _ else _)
      rw [if_pos rfl]
      show nFp2 C5 _ b _
      rw [nFp2_text]
      rw [List.drop_eq_nil_of_le (by omega)] at hr
      exact ⟨by rw [hr]; rfl, by rw [hr]; rfl⟩
end Go.Proofs.G5f
