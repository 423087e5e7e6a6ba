/- What is left to show of each function, written out; the kernel reckons it. -/
import Derived.Test.YtchgncpfaclccaaP5
namespace Go.Proofs.G5r
open Go Go.Abs Go.Proofs
set_option maxRecDepth 100000
set_option linter.unusedVariables false
def gEx (C : Ct) (L : AtLoop) (n0 : Nat) (c0 : Nat) (l0 : List Value) (x1 : Int) (x2 : Int) (k : List D → Prop) : Prop := jFn Try.prog (hM C) L [] 11 #[.agg #[.slice (some ⟨500, 0, none⟩) n0 c0, .int .i64 x1], .int .i64 x2] (heapOf [(500, .sym l0 false 1)]) (dataK k)
theorem gEx_text (C : Ct) (L : AtLoop) (n0 : Nat) (c0 : Nat) (l0 : List Go.Value) (x1 : Int) (x2 : Int) (k : List D → Prop) : gEx C L n0 c0 l0 x1 x2 k =
 (bcase (decide (0 + n0 * 1 ≤ List.length l0))
 (∃ n1 : Int,
 (∃ n2 : Int,
 (∃ n3 : Int,
 ((Says C 10 [(D.agg [(D.sl (n0) 1 (List.take (n0 * 1) (List.drop 0 l0))), (D.val (vI x1))]), (D.val (vI x2))] [(D.agg [(D.val (vI n1)), (D.val (vI n2))]), (D.val (vI n3))]) ∧
 (bcase (n3 != 0)
 (k [D.nil, (D.val (vI n3))])
 (((GoodNil Go.Proofs.Try.prog 65 [(Value.slice none 0 0), (Value.func (Go.Fn.func 66) [].toArray [(Pt 500 0), (Pt 501 0)].toArray)] [(Prod.mk 500 (AObj.cells [(Sl 502 (n0) (c0)), (vI x1), (vI x2)] 78 false 1)), (Prod.mk 501 (AObj.cells [(vI n1)] 3 false 1)), (Prod.mk 502 (AObj.sym (l0) false 1))]) ∧
 (k [D.nil, (D.val (vI 0))])) ∨
 (∃ n4 : Nat,
 (∃ out1 : List Go.Value,
 ((GoodFresh Go.Proofs.Try.prog 65 1 [(Value.slice none 0 0), (Value.func (Go.Fn.func 66) [].toArray [(Pt 500 0), (Pt 501 0)].toArray)] [(Prod.mk 500 (AObj.cells [(Sl 502 (n0) (c0)), (vI x1), (vI x2)] 78 false 1)), (Prod.mk 501 (AObj.cells [(vI n1)] 3 false 1)), (Prod.mk 502 (AObj.sym (l0) false 1))] (n4) (out1)) ∧
 (((Qv (n4)) ∧
 ((List.length out1) = (n4 * 1))) ∧
 (k [(D.sl (n4) 1 (out1)), (D.val (vI 0))])))))))))))
 False) := by kernel_rfl
def gLM (C : Ct) (L : AtLoop) (n0 : Nat) (c0 : Nat) (l0 : List Value) (x1 : Int) (x2 : Int) (k : List D → Prop) : Prop := wpFn Try.prog (hM C) L 0 3 #[.agg #[.slice (some ⟨500, 0, none⟩) n0 c0, .int .i64 x1], .int .i64 x2] (heapOf [(500, .sym l0 false 1)]) (dataK k)
theorem gLM_text (C : Ct) (L : AtLoop) (n0 : Nat) (c0 : Nat) (l0 : List Go.Value) (x1 : Int) (x2 : Int) (k : List D → Prop) : gLM C L n0 c0 l0 x1 x2 k =
 (((Says C 7 [] [(D.val (Value.bool true))]) ∧
 (bcase (decide ((↑n0 : Int) > 32))
 (k [(D.val (Value.bool true))])
 (bcase (decide (0 + n0 * 1 ≤ List.length l0))
 ((Says C 9 [(D.agg [(D.sl (n0) 1 (List.take (n0 * 1) (List.drop 0 l0))), (D.val (vI x1))])] [(D.agg [(D.sl (n0) 1 (List.take (n0 * 1) (List.drop 0 l0))), (D.val (vI x1))])]) ∧
 (bcase (decide (0 + n0 * 1 ≤ List.length (List.take (n0 * 1) (List.drop 0 l0))))
 (∃ n1 : Int,
 (∃ n2 : Int,
 ((Says C 8 [(D.agg [(D.sl (n0) 1 (List.take (n0 * 1) (List.drop 0 (List.take (n0 * 1) (List.drop 0 l0))))), (D.val (vI x1))])] [(D.val (vI n1)), (D.val (vI n2))]) ∧
 (bcase (decide (0 + n0 * 1 ≤ List.length l0))
 ((Says C 9 [(D.agg [(D.sl (n0) 1 (List.take (n0 * 1) (List.drop 0 l0))), (D.val (vI x1))])] [(D.agg [(D.sl (n0) 1 (List.take (n0 * 1) (List.drop 0 l0))), (D.val (vI x1))])]) ∧
 (bcase (decide (0 + n0 * 1 ≤ List.length (List.take (n0 * 1) (List.drop 0 l0))))
 (∃ n3 : Int,
 (∃ n4 : Int,
 (∃ n5 : Int,
 ((Says C 10 [(D.agg [(D.sl (n0) 1 (List.take (n0 * 1) (List.drop 0 (List.take (n0 * 1) (List.drop 0 l0))))), (D.val (vI x1))]), (D.val (vI x2))] [(D.agg [(D.val (vI n3)), (D.val (vI n4))]), (D.val (vI n5))]) ∧
 (bcase (decide (0 + n0 * 1 ≤ List.length l0))
 ((Says C 9 [(D.agg [(D.sl (n0) 1 (List.take (n0 * 1) (List.drop 0 l0))), (D.val (vI x1))])] [(D.agg [(D.sl (n0) 1 (List.take (n0 * 1) (List.drop 0 l0))), (D.val (vI x1))])]) ∧
 (bcase (decide (0 + n0 * 1 ≤ List.length (List.take (n0 * 1) (List.drop 0 l0))))
 ((∃ n6 : Int,
 ((Says C 11 [(D.agg [(D.sl (n0) 1 (List.take (n0 * 1) (List.drop 0 (List.take (n0 * 1) (List.drop 0 l0))))), (D.val (vI x1))]), (D.val (vI x2))] [D.nil, (D.val (vI n6))]) ∧
 (bcase (decide (0 + n0 * 1 ≤ List.length l0))
 (∃ n7 : Int,
 (∃ n8 : Int,
 ((Says C 12 [(D.agg [(D.sl (n0) 1 (List.take (n0 * 1) (List.drop 0 l0))), (D.val (vI x1))])] [(D.val (vI n7)), (D.val (vI n8))]) ∧
 (bcase (n2 != n8)
 (k [(D.val (Value.bool false))])
 (bcase (n1 != n7)
 (k [(D.val (Value.bool false))])
 (bcase (n8 == 0)
 (bcase (decide (0 + n0 * 1 ≤ List.length l0))
 (∃ n9 : Int,
 ((Says C 13 [(D.agg [(D.sl (n0) 1 (List.take (n0 * 1) (List.drop 0 l0))), (D.val (vI x1))]), (D.val (vI x2))] [(D.val (vI n9))]) ∧
 (bcase (n9 == 0)
 (bcase (decide ((↑n0 : Int) > 0))
 ((((Qv (Pt 1005 0)) ∧
 (Qv (some (AObj.cells [(vI 0), (vI 0)] 31 false 2)))) ∧
 ((Qv (Value.agg [(Sl 500 (n0) (c0)), (vI x1)].toArray)) ∧
 ((Qv (vI x2)) ∧
 ((Qv (Value.agg [(Sl 500 (n0) (c0)), (vI x1)].toArray)) ∧
 True)))) ∧
 (bcase (decide (0 + n0 * 1 ≤ List.length l0))
 (((Says C 15 [(D.agg [(D.sl (n0) 1 (List.take (n0 * 1) (List.drop 0 l0))), (D.val (vI x1))])] [D.nil]) ∧
 ((((Qv (Pt 1005 0)) ∧
 (Qv (some (AObj.cells [(vI 0), (vI 0)] 31 false 2)))) ∧
 ((Qv (vI x2)) ∧
 ((Qv (Value.agg [(Sl 500 (n0) (c0)), (vI x1)].toArray)) ∧
 True))) ∧
 (bcase (decide (0 + n0 * 1 ≤ List.length l0))
 (∃ n10 : Int,
 (∃ n11 : Int,
 (((Says C 14 [(D.agg [(D.sl (n0) 1 (List.take (n0 * 1) (List.drop 0 l0))), (D.val (vI x1))]), (D.val (vI x2)), D.nil] [(D.agg [(D.val (vI n10)), (D.val (vI n11))]), (D.val (Value.bool true))]) ∧
 (((Qv (Value.bool true)) ∧
 ((Qv (Value.agg [(vI n10), (vI n11)].toArray)) ∧
 ((Qv (Value.tuple [(Value.agg [(vI n10), (vI n11)].toArray), (Value.bool true)].toArray)) ∧
 (((Qv (Pt 1005 0)) ∧
 (Qv (some (AObj.cells [(vI 0), (vI 0)] 31 false 2)))) ∧
 True)))) ∧
 (((Qv (Value.bool true)) ∧
 True) ∧
 (True ∧
 (bcase (n9 != 0)
 (bcase (n5 == n9)
 (bcase (n6 == n9)
 (bcase (if Bool.false = Bool.true then !(n3 == 0 && (n4 == 0 && Bool.true)) else n3 == 0 && (n4 == 0 && Bool.true))
 (k [(D.val (Value.bool true))])
 (k [(D.val (Value.bool false))]))
 (k [(D.val (Value.bool false))]))
 (k [(D.val (Value.bool false))]))
 ((((Qv (Pt 1006 0)) ∧
 (Qv (some (AObj.cells [(vI 0), (vI 0)] 31 false 2)))) ∧
 ((Qv (Value.agg [(Sl 500 (n0) (c0)), (vI x1)].toArray)) ∧
 ((Qv (vI x2)) ∧
 ((Qv (Value.agg [(Sl 500 (n0) (c0)), (vI x1)].toArray)) ∧
 True)))) ∧
 (bcase (decide (0 + n0 * 1 ≤ List.length l0))
 (((Says C 15 [(D.agg [(D.sl (n0) 1 (List.take (n0 * 1) (List.drop 0 l0))), (D.val (vI x1))])] [D.nil]) ∧
 ((((Qv (Pt 1006 0)) ∧
 (Qv (some (AObj.cells [(vI 0), (vI 0)] 31 false 2)))) ∧
 ((Qv (vI x2)) ∧
 ((Qv (Value.agg [(Sl 500 (n0) (c0)), (vI x1)].toArray)) ∧
 True))) ∧
 (bcase (decide (0 + n0 * 1 ≤ List.length l0))
 (∃ n12 : Int,
 (∃ n13 : Int,
 (((Says C 14 [(D.agg [(D.sl (n0) 1 (List.take (n0 * 1) (List.drop 0 l0))), (D.val (vI x1))]), (D.val (vI x2)), D.nil] [(D.agg [(D.val (vI n12)), (D.val (vI n13))]), (D.val (Value.bool true))]) ∧
 (((Qv (Value.bool true)) ∧
 ((Qv (Value.agg [(vI n12), (vI n13)].toArray)) ∧
 ((Qv (Value.tuple [(Value.agg [(vI n12), (vI n13)].toArray), (Value.bool true)].toArray)) ∧
 (((Qv (Pt 1006 0)) ∧
 (Qv (some (AObj.cells [(vI 0), (vI 0)] 31 false 2)))) ∧
 True)))) ∧
 (((Qv (Value.bool true)) ∧
 True) ∧
 (True ∧
 (bcase (n5 == 0)
 (bcase (if Bool.false = Bool.true then !(n3 == n12 && (n4 == n13 && Bool.true)) else n3 == n12 && (n4 == n13 && Bool.true))
 (bcase (n6 == 0)
 (bcase (decide (0 + n0 * 1 ≤ List.length l0))
 (((Says C 17 [(D.agg [(D.sl (n0) 1 (List.take (n0 * 1) (List.drop 0 l0))), (D.val (vI x1))]), (D.val (vI x2)), (D.val (vI n12))] [D.nil]) ∧
 (((Says C 16 [D.nil, D.nil] [(D.val (Value.bool true))]) ∧
 (k [(D.val (Value.bool true))])) ∨
 ((Says C 16 [D.nil, D.nil] [(D.val (Value.bool false))]) ∧
 (k [(D.val (Value.bool false))])))) ∨
 (∃ n14 : Nat,
 (∃ cs1 : List Go.Value,
 ((Says C 17 [(D.agg [(D.sl (n0) 1 (List.take (n0 * 1) (List.drop 0 l0))), (D.val (vI x1))]), (D.val (vI x2)), (D.val (vI n12))] [(D.sl (n14) 1 (cs1))]) ∧
 (bcase (decide (0 + n14 * 1 ≤ List.length cs1))
 (((Says C 16 [D.nil, (D.sl (n14) 1 (List.take (n14 * 1) (List.drop 0 cs1)))] [(D.val (Value.bool true))]) ∧
 (k [(D.val (Value.bool true))])) ∨
 ((Says C 16 [D.nil, (D.sl (n14) 1 (List.take (n14 * 1) (List.drop 0 cs1)))] [(D.val (Value.bool false))]) ∧
 (k [(D.val (Value.bool false))])))
 False)))))
 False)
 (k [(D.val (Value.bool false))]))
 (k [(D.val (Value.bool false))]))
 (k [(D.val (Value.bool false))])))))) ∨
 ((Says C 14 [(D.agg [(D.sl (n0) 1 (List.take (n0 * 1) (List.drop 0 l0))), (D.val (vI x1))]), (D.val (vI x2)), D.nil] [(D.agg [(D.val (vI n12)), (D.val (vI n13))]), (D.val (Value.bool false))]) ∧
 (((Qv (Value.bool false)) ∧
 ((Qv (Value.agg [(vI n12), (vI n13)].toArray)) ∧
 ((Qv (Value.tuple [(Value.agg [(vI n12), (vI n13)].toArray), (Value.bool false)].toArray)) ∧
 (((Qv (Pt 1006 0)) ∧
 (Qv (some (AObj.cells [(vI 0), (vI 0)] 31 false 2)))) ∧
 True)))) ∧
 (((Qv (Value.bool false)) ∧
 True) ∧
 (True ∧
 (bcase (n5 == 0)
 (bcase (if Bool.false = Bool.true then !(n3 == n12 && (n4 == n13 && Bool.true)) else n3 == n12 && (n4 == n13 && Bool.true))
 (bcase (n6 == 0)
 (bcase (decide (0 + n0 * 1 ≤ List.length l0))
 (((Says C 17 [(D.agg [(D.sl (n0) 1 (List.take (n0 * 1) (List.drop 0 l0))), (D.val (vI x1))]), (D.val (vI x2)), (D.val (vI n12))] [D.nil]) ∧
 (((Says C 16 [D.nil, D.nil] [(D.val (Value.bool true))]) ∧
 (k [(D.val (Value.bool true))])) ∨
 ((Says C 16 [D.nil, D.nil] [(D.val (Value.bool false))]) ∧
 (k [(D.val (Value.bool false))])))) ∨
 (∃ n14 : Nat,
 (∃ cs1 : List Go.Value,
 ((Says C 17 [(D.agg [(D.sl (n0) 1 (List.take (n0 * 1) (List.drop 0 l0))), (D.val (vI x1))]), (D.val (vI x2)), (D.val (vI n12))] [(D.sl (n14) 1 (cs1))]) ∧
 (bcase (decide (0 + n14 * 1 ≤ List.length cs1))
 (((Says C 16 [D.nil, (D.sl (n14) 1 (List.take (n14 * 1) (List.drop 0 cs1)))] [(D.val (Value.bool true))]) ∧
 (k [(D.val (Value.bool true))])) ∨
 ((Says C 16 [D.nil, (D.sl (n14) 1 (List.take (n14 * 1) (List.drop 0 cs1)))] [(D.val (Value.bool false))]) ∧
 (k [(D.val (Value.bool false))])))
 False)))))
 False)
 (k [(D.val (Value.bool false))]))
 (k [(D.val (Value.bool false))]))
 (k [(D.val (Value.bool false))])))))))))
 False))) ∨
 (∃ n12 : Nat,
 (∃ cs1 : List Go.Value,
 ((Says C 15 [(D.agg [(D.sl (n0) 1 (List.take (n0 * 1) (List.drop 0 l0))), (D.val (vI x1))])] [(D.sl (n12) 1 (cs1))]) ∧
 ((((Qv (Pt 1006 0)) ∧
 (Qv (some (AObj.cells [(vI 0), (vI 0)] 31 false 2)))) ∧
 ((Qv (vI x2)) ∧
 ((Qv (Value.agg [(Sl 500 (n0) (c0)), (vI x1)].toArray)) ∧
 True))) ∧
 (bcase (decide (0 + n0 * 1 ≤ List.length l0))
 (bcase (decide (0 + n12 * 1 ≤ List.length cs1))
 (∃ n13 : Int,
 (∃ n14 : Int,
 (((Says C 14 [(D.agg [(D.sl (n0) 1 (List.take (n0 * 1) (List.drop 0 l0))), (D.val (vI x1))]), (D.val (vI x2)), (D.sl (n12) 1 (List.take (n12 * 1) (List.drop 0 cs1)))] [(D.agg [(D.val (vI n13)), (D.val (vI n14))]), (D.val (Value.bool true))]) ∧
 (((Qv (Value.bool true)) ∧
 ((Qv (Value.agg [(vI n13), (vI n14)].toArray)) ∧
 ((Qv (Value.tuple [(Value.agg [(vI n13), (vI n14)].toArray), (Value.bool true)].toArray)) ∧
 (((Qv (Pt 1006 0)) ∧
 (Qv (some (AObj.cells [(vI 0), (vI 0)] 31 false 2)))) ∧
 True)))) ∧
 (((Qv (Value.bool true)) ∧
 True) ∧
 (True ∧
 (bcase (n5 == 0)
 (bcase (if Bool.false = Bool.true then !(n3 == n13 && (n4 == n14 && Bool.true)) else n3 == n13 && (n4 == n14 && Bool.true))
 (bcase (n6 == 0)
 (bcase (decide (0 + n0 * 1 ≤ List.length l0))
 (((Says C 17 [(D.agg [(D.sl (n0) 1 (List.take (n0 * 1) (List.drop 0 l0))), (D.val (vI x1))]), (D.val (vI x2)), (D.val (vI n13))] [D.nil]) ∧
 (((Says C 16 [D.nil, D.nil] [(D.val (Value.bool true))]) ∧
 (k [(D.val (Value.bool true))])) ∨
 ((Says C 16 [D.nil, D.nil] [(D.val (Value.bool false))]) ∧
 (k [(D.val (Value.bool false))])))) ∨
 (∃ n15 : Nat,
 (∃ cs2 : List Go.Value,
 ((Says C 17 [(D.agg [(D.sl (n0) 1 (List.take (n0 * 1) (List.drop 0 l0))), (D.val (vI x1))]), (D.val (vI x2)), (D.val (vI n13))] [(D.sl (n15) 1 (cs2))]) ∧
 (bcase (decide (0 + n15 * 1 ≤ List.length cs2))
 (((Says C 16 [D.nil, (D.sl (n15) 1 (List.take (n15 * 1) (List.drop 0 cs2)))] [(D.val (Value.bool true))]) ∧
 (k [(D.val (Value.bool true))])) ∨
 ((Says C 16 [D.nil, (D.sl (n15) 1 (List.take (n15 * 1) (List.drop 0 cs2)))] [(D.val (Value.bool false))]) ∧
 (k [(D.val (Value.bool false))])))
 False)))))
 False)
 (k [(D.val (Value.bool false))]))
 (k [(D.val (Value.bool false))]))
 (k [(D.val (Value.bool false))])))))) ∨
 ((Says C 14 [(D.agg [(D.sl (n0) 1 (List.take (n0 * 1) (List.drop 0 l0))), (D.val (vI x1))]), (D.val (vI x2)), (D.sl (n12) 1 (List.take (n12 * 1) (List.drop 0 cs1)))] [(D.agg [(D.val (vI n13)), (D.val (vI n14))]), (D.val (Value.bool false))]) ∧
 (((Qv (Value.bool false)) ∧
 ((Qv (Value.agg [(vI n13), (vI n14)].toArray)) ∧
 ((Qv (Value.tuple [(Value.agg [(vI n13), (vI n14)].toArray), (Value.bool false)].toArray)) ∧
 (((Qv (Pt 1006 0)) ∧
 (Qv (some (AObj.cells [(vI 0), (vI 0)] 31 false 2)))) ∧
 True)))) ∧
 (((Qv (Value.bool false)) ∧
 True) ∧
 (True ∧
 (bcase (n5 == 0)
 (bcase (if Bool.false = Bool.true then !(n3 == n13 && (n4 == n14 && Bool.true)) else n3 == n13 && (n4 == n14 && Bool.true))
 (bcase (n6 == 0)
 (bcase (decide (0 + n0 * 1 ≤ List.length l0))
 (((Says C 17 [(D.agg [(D.sl (n0) 1 (List.take (n0 * 1) (List.drop 0 l0))), (D.val (vI x1))]), (D.val (vI x2)), (D.val (vI n13))] [D.nil]) ∧
 (((Says C 16 [D.nil, D.nil] [(D.val (Value.bool true))]) ∧
 (k [(D.val (Value.bool true))])) ∨
 ((Says C 16 [D.nil, D.nil] [(D.val (Value.bool false))]) ∧
 (k [(D.val (Value.bool false))])))) ∨
 (∃ n15 : Nat,
 (∃ cs2 : List Go.Value,
 ((Says C 17 [(D.agg [(D.sl (n0) 1 (List.take (n0 * 1) (List.drop 0 l0))), (D.val (vI x1))]), (D.val (vI x2)), (D.val (vI n13))] [(D.sl (n15) 1 (cs2))]) ∧
 (bcase (decide (0 + n15 * 1 ≤ List.length cs2))
 (((Says C 16 [D.nil, (D.sl (n15) 1 (List.take (n15 * 1) (List.drop 0 cs2)))] [(D.val (Value.bool true))]) ∧
 (k [(D.val (Value.bool true))])) ∨
 ((Says C 16 [D.nil, (D.sl (n15) 1 (List.take (n15 * 1) (List.drop 0 cs2)))] [(D.val (Value.bool false))]) ∧
 (k [(D.val (Value.bool false))])))
 False)))))
 False)
 (k [(D.val (Value.bool false))]))
 (k [(D.val (Value.bool false))]))
 (k [(D.val (Value.bool false))])))))))))
 False)
 False))))))
 False))))))) ∨
 ((Says C 14 [(D.agg [(D.sl (n0) 1 (List.take (n0 * 1) (List.drop 0 l0))), (D.val (vI x1))]), (D.val (vI x2)), D.nil] [(D.agg [(D.val (vI n10)), (D.val (vI n11))]), (D.val (Value.bool false))]) ∧
 (((Qv (Value.bool false)) ∧
 ((Qv (Value.agg [(vI n10), (vI n11)].toArray)) ∧
 ((Qv (Value.tuple [(Value.agg [(vI n10), (vI n11)].toArray), (Value.bool false)].toArray)) ∧
 (((Qv (Pt 1005 0)) ∧
 (Qv (some (AObj.cells [(vI 0), (vI 0)] 31 false 2)))) ∧
 True)))) ∧
 (((Qv (Value.bool false)) ∧
 True) ∧
 (True ∧
 (bcase (n5 == 12)
 (bcase (n6 == 12)
 (bcase (if Bool.false = Bool.true then !(n3 == 0 && (n4 == 0 && Bool.true)) else n3 == 0 && (n4 == 0 && Bool.true))
 (k [(D.val (Value.bool true))])
 (k [(D.val (Value.bool false))]))
 (k [(D.val (Value.bool false))]))
 (k [(D.val (Value.bool false))])))))))))
 False))) ∨
 (∃ n10 : Nat,
 (∃ cs1 : List Go.Value,
 ((Says C 15 [(D.agg [(D.sl (n0) 1 (List.take (n0 * 1) (List.drop 0 l0))), (D.val (vI x1))])] [(D.sl (n10) 1 (cs1))]) ∧
 ((((Qv (Pt 1005 0)) ∧
 (Qv (some (AObj.cells [(vI 0), (vI 0)] 31 false 2)))) ∧
 ((Qv (vI x2)) ∧
 ((Qv (Value.agg [(Sl 500 (n0) (c0)), (vI x1)].toArray)) ∧
 True))) ∧
 (bcase (decide (0 + n0 * 1 ≤ List.length l0))
 (bcase (decide (0 + n10 * 1 ≤ List.length cs1))
 (∃ n11 : Int,
 (∃ n12 : Int,
 (((Says C 14 [(D.agg [(D.sl (n0) 1 (List.take (n0 * 1) (List.drop 0 l0))), (D.val (vI x1))]), (D.val (vI x2)), (D.sl (n10) 1 (List.take (n10 * 1) (List.drop 0 cs1)))] [(D.agg [(D.val (vI n11)), (D.val (vI n12))]), (D.val (Value.bool true))]) ∧
 (((Qv (Value.bool true)) ∧
 ((Qv (Value.agg [(vI n11), (vI n12)].toArray)) ∧
 ((Qv (Value.tuple [(Value.agg [(vI n11), (vI n12)].toArray), (Value.bool true)].toArray)) ∧
 (((Qv (Pt 1005 0)) ∧
 (Qv (some (AObj.cells [(vI 0), (vI 0)] 31 false 2)))) ∧
 True)))) ∧
 (((Qv (Value.bool true)) ∧
 True) ∧
 (True ∧
 (bcase (n9 != 0)
 (bcase (n5 == n9)
 (bcase (n6 == n9)
 (bcase (if Bool.false = Bool.true then !(n3 == 0 && (n4 == 0 && Bool.true)) else n3 == 0 && (n4 == 0 && Bool.true))
 (k [(D.val (Value.bool true))])
 (k [(D.val (Value.bool false))]))
 (k [(D.val (Value.bool false))]))
 (k [(D.val (Value.bool false))]))
 ((((Qv (Pt 1007 0)) ∧
 (Qv (some (AObj.cells [(vI 0), (vI 0)] 31 false 2)))) ∧
 ((Qv (Value.agg [(Sl 500 (n0) (c0)), (vI x1)].toArray)) ∧
 ((Qv (vI x2)) ∧
 ((Qv (Value.agg [(Sl 500 (n0) (c0)), (vI x1)].toArray)) ∧
 True)))) ∧
 (bcase (decide (0 + n0 * 1 ≤ List.length l0))
 (((Says C 15 [(D.agg [(D.sl (n0) 1 (List.take (n0 * 1) (List.drop 0 l0))), (D.val (vI x1))])] [D.nil]) ∧
 ((((Qv (Pt 1007 0)) ∧
 (Qv (some (AObj.cells [(vI 0), (vI 0)] 31 false 2)))) ∧
 ((Qv (vI x2)) ∧
 ((Qv (Value.agg [(Sl 500 (n0) (c0)), (vI x1)].toArray)) ∧
 True))) ∧
 (bcase (decide (0 + n0 * 1 ≤ List.length l0))
 (∃ n13 : Int,
 (∃ n14 : Int,
 (((Says C 14 [(D.agg [(D.sl (n0) 1 (List.take (n0 * 1) (List.drop 0 l0))), (D.val (vI x1))]), (D.val (vI x2)), D.nil] [(D.agg [(D.val (vI n13)), (D.val (vI n14))]), (D.val (Value.bool true))]) ∧
 (((Qv (Value.bool true)) ∧
 ((Qv (Value.agg [(vI n13), (vI n14)].toArray)) ∧
 ((Qv (Value.tuple [(Value.agg [(vI n13), (vI n14)].toArray), (Value.bool true)].toArray)) ∧
 (((Qv (Pt 1007 0)) ∧
 (Qv (some (AObj.cells [(vI 0), (vI 0)] 31 false 2)))) ∧
 True)))) ∧
 (((Qv (Value.bool true)) ∧
 True) ∧
 (True ∧
 (bcase (n5 == 0)
 (bcase (if Bool.false = Bool.true then !(n3 == n13 && (n4 == n14 && Bool.true)) else n3 == n13 && (n4 == n14 && Bool.true))
 (bcase (n6 == 0)
 (bcase (decide (0 + n0 * 1 ≤ List.length l0))
 (((Says C 17 [(D.agg [(D.sl (n0) 1 (List.take (n0 * 1) (List.drop 0 l0))), (D.val (vI x1))]), (D.val (vI x2)), (D.val (vI n13))] [D.nil]) ∧
 (((Says C 16 [D.nil, D.nil] [(D.val (Value.bool true))]) ∧
 (k [(D.val (Value.bool true))])) ∨
 ((Says C 16 [D.nil, D.nil] [(D.val (Value.bool false))]) ∧
 (k [(D.val (Value.bool false))])))) ∨
 (∃ n15 : Nat,
 (∃ cs2 : List Go.Value,
 ((Says C 17 [(D.agg [(D.sl (n0) 1 (List.take (n0 * 1) (List.drop 0 l0))), (D.val (vI x1))]), (D.val (vI x2)), (D.val (vI n13))] [(D.sl (n15) 1 (cs2))]) ∧
 (bcase (decide (0 + n15 * 1 ≤ List.length cs2))
 (((Says C 16 [D.nil, (D.sl (n15) 1 (List.take (n15 * 1) (List.drop 0 cs2)))] [(D.val (Value.bool true))]) ∧
 (k [(D.val (Value.bool true))])) ∨
 ((Says C 16 [D.nil, (D.sl (n15) 1 (List.take (n15 * 1) (List.drop 0 cs2)))] [(D.val (Value.bool false))]) ∧
 (k [(D.val (Value.bool false))])))
 False)))))
 False)
 (k [(D.val (Value.bool false))]))
 (k [(D.val (Value.bool false))]))
 (k [(D.val (Value.bool false))])))))) ∨
 ((Says C 14 [(D.agg [(D.sl (n0) 1 (List.take (n0 * 1) (List.drop 0 l0))), (D.val (vI x1))]), (D.val (vI x2)), D.nil] [(D.agg [(D.val (vI n13)), (D.val (vI n14))]), (D.val (Value.bool false))]) ∧
 (((Qv (Value.bool false)) ∧
 ((Qv (Value.agg [(vI n13), (vI n14)].toArray)) ∧
 ((Qv (Value.tuple [(Value.agg [(vI n13), (vI n14)].toArray), (Value.bool false)].toArray)) ∧
 (((Qv (Pt 1007 0)) ∧
 (Qv (some (AObj.cells [(vI 0), (vI 0)] 31 false 2)))) ∧
 True)))) ∧
 (((Qv (Value.bool false)) ∧
 True) ∧
 (True ∧
 (bcase (n5 == 0)
 (bcase (if Bool.false = Bool.true then !(n3 == n13 && (n4 == n14 && Bool.true)) else n3 == n13 && (n4 == n14 && Bool.true))
 (bcase (n6 == 0)
 (bcase (decide (0 + n0 * 1 ≤ List.length l0))
 (((Says C 17 [(D.agg [(D.sl (n0) 1 (List.take (n0 * 1) (List.drop 0 l0))), (D.val (vI x1))]), (D.val (vI x2)), (D.val (vI n13))] [D.nil]) ∧
 (((Says C 16 [D.nil, D.nil] [(D.val (Value.bool true))]) ∧
 (k [(D.val (Value.bool true))])) ∨
 ((Says C 16 [D.nil, D.nil] [(D.val (Value.bool false))]) ∧
 (k [(D.val (Value.bool false))])))) ∨
 (∃ n15 : Nat,
 (∃ cs2 : List Go.Value,
 ((Says C 17 [(D.agg [(D.sl (n0) 1 (List.take (n0 * 1) (List.drop 0 l0))), (D.val (vI x1))]), (D.val (vI x2)), (D.val (vI n13))] [(D.sl (n15) 1 (cs2))]) ∧
 (bcase (decide (0 + n15 * 1 ≤ List.length cs2))
 (((Says C 16 [D.nil, (D.sl (n15) 1 (List.take (n15 * 1) (List.drop 0 cs2)))] [(D.val (Value.bool true))]) ∧
 (k [(D.val (Value.bool true))])) ∨
 ((Says C 16 [D.nil, (D.sl (n15) 1 (List.take (n15 * 1) (List.drop 0 cs2)))] [(D.val (Value.bool false))]) ∧
 (k [(D.val (Value.bool false))])))
 False)))))
 False)
 (k [(D.val (Value.bool false))]))
 (k [(D.val (Value.bool false))]))
 (k [(D.val (Value.bool false))])))))))))
 False))) ∨
 (∃ n13 : Nat,
 (∃ cs2 : List Go.Value,
 ((Says C 15 [(D.agg [(D.sl (n0) 1 (List.take (n0 * 1) (List.drop 0 l0))), (D.val (vI x1))])] [(D.sl (n13) 1 (cs2))]) ∧
 ((((Qv (Pt 1007 0)) ∧
 (Qv (some (AObj.cells [(vI 0), (vI 0)] 31 false 2)))) ∧
 ((Qv (vI x2)) ∧
 ((Qv (Value.agg [(Sl 500 (n0) (c0)), (vI x1)].toArray)) ∧
 True))) ∧
 (bcase (decide (0 + n0 * 1 ≤ List.length l0))
 (bcase (decide (0 + n13 * 1 ≤ List.length cs2))
 (∃ n14 : Int,
 (∃ n15 : Int,
 (((Says C 14 [(D.agg [(D.sl (n0) 1 (List.take (n0 * 1) (List.drop 0 l0))), (D.val (vI x1))]), (D.val (vI x2)), (D.sl (n13) 1 (List.take (n13 * 1) (List.drop 0 cs2)))] [(D.agg [(D.val (vI n14)), (D.val (vI n15))]), (D.val (Value.bool true))]) ∧
 (((Qv (Value.bool true)) ∧
 ((Qv (Value.agg [(vI n14), (vI n15)].toArray)) ∧
 ((Qv (Value.tuple [(Value.agg [(vI n14), (vI n15)].toArray), (Value.bool true)].toArray)) ∧
 (((Qv (Pt 1007 0)) ∧
 (Qv (some (AObj.cells [(vI 0), (vI 0)] 31 false 2)))) ∧
 True)))) ∧
 (((Qv (Value.bool true)) ∧
 True) ∧
 (True ∧
 (bcase (n5 == 0)
 (bcase (if Bool.false = Bool.true then !(n3 == n14 && (n4 == n15 && Bool.true)) else n3 == n14 && (n4 == n15 && Bool.true))
 (bcase (n6 == 0)
 (bcase (decide (0 + n0 * 1 ≤ List.length l0))
 (((Says C 17 [(D.agg [(D.sl (n0) 1 (List.take (n0 * 1) (List.drop 0 l0))), (D.val (vI x1))]), (D.val (vI x2)), (D.val (vI n14))] [D.nil]) ∧
 (((Says C 16 [D.nil, D.nil] [(D.val (Value.bool true))]) ∧
 (k [(D.val (Value.bool true))])) ∨
 ((Says C 16 [D.nil, D.nil] [(D.val (Value.bool false))]) ∧
 (k [(D.val (Value.bool false))])))) ∨
 (∃ n16 : Nat,
 (∃ cs3 : List Go.Value,
 ((Says C 17 [(D.agg [(D.sl (n0) 1 (List.take (n0 * 1) (List.drop 0 l0))), (D.val (vI x1))]), (D.val (vI x2)), (D.val (vI n14))] [(D.sl (n16) 1 (cs3))]) ∧
 (bcase (decide (0 + n16 * 1 ≤ List.length cs3))
 (((Says C 16 [D.nil, (D.sl (n16) 1 (List.take (n16 * 1) (List.drop 0 cs3)))] [(D.val (Value.bool true))]) ∧
 (k [(D.val (Value.bool true))])) ∨
 ((Says C 16 [D.nil, (D.sl (n16) 1 (List.take (n16 * 1) (List.drop 0 cs3)))] [(D.val (Value.bool false))]) ∧
 (k [(D.val (Value.bool false))])))
 False)))))
 False)
 (k [(D.val (Value.bool false))]))
 (k [(D.val (Value.bool false))]))
 (k [(D.val (Value.bool false))])))))) ∨
 ((Says C 14 [(D.agg [(D.sl (n0) 1 (List.take (n0 * 1) (List.drop 0 l0))), (D.val (vI x1))]), (D.val (vI x2)), (D.sl (n13) 1 (List.take (n13 * 1) (List.drop 0 cs2)))] [(D.agg [(D.val (vI n14)), (D.val (vI n15))]), (D.val (Value.bool false))]) ∧
 (((Qv (Value.bool false)) ∧
 ((Qv (Value.agg [(vI n14), (vI n15)].toArray)) ∧
 ((Qv (Value.tuple [(Value.agg [(vI n14), (vI n15)].toArray), (Value.bool false)].toArray)) ∧
 (((Qv (Pt 1007 0)) ∧
 (Qv (some (AObj.cells [(vI 0), (vI 0)] 31 false 2)))) ∧
 True)))) ∧
 (((Qv (Value.bool false)) ∧
 True) ∧
 (True ∧
 (bcase (n5 == 0)
 (bcase (if Bool.false = Bool.true then !(n3 == n14 && (n4 == n15 && Bool.true)) else n3 == n14 && (n4 == n15 && Bool.true))
 (bcase (n6 == 0)
 (bcase (decide (0 + n0 * 1 ≤ List.length l0))
 (((Says C 17 [(D.agg [(D.sl (n0) 1 (List.take (n0 * 1) (List.drop 0 l0))), (D.val (vI x1))]), (D.val (vI x2)), (D.val (vI n14))] [D.nil]) ∧
 (((Says C 16 [D.nil, D.nil] [(D.val (Value.bool true))]) ∧
 (k [(D.val (Value.bool true))])) ∨
 ((Says C 16 [D.nil, D.nil] [(D.val (Value.bool false))]) ∧
 (k [(D.val (Value.bool false))])))) ∨
 (∃ n16 : Nat,
 (∃ cs3 : List Go.Value,
 ((Says C 17 [(D.agg [(D.sl (n0) 1 (List.take (n0 * 1) (List.drop 0 l0))), (D.val (vI x1))]), (D.val (vI x2)), (D.val (vI n14))] [(D.sl (n16) 1 (cs3))]) ∧
 (bcase (decide (0 + n16 * 1 ≤ List.length cs3))
 (((Says C 16 [D.nil, (D.sl (n16) 1 (List.take (n16 * 1) (List.drop 0 cs3)))] [(D.val (Value.bool true))]) ∧
 (k [(D.val (Value.bool true))])) ∨
 ((Says C 16 [D.nil, (D.sl (n16) 1 (List.take (n16 * 1) (List.drop 0 cs3)))] [(D.val (Value.bool false))]) ∧
 (k [(D.val (Value.bool false))])))
 False)))))
 False)
 (k [(D.val (Value.bool false))]))
 (k [(D.val (Value.bool false))]))
 (k [(D.val (Value.bool false))])))))))))
 False)
 False))))))
 False))))))) ∨
 ((Says C 14 [(D.agg [(D.sl (n0) 1 (List.take (n0 * 1) (List.drop 0 l0))), (D.val (vI x1))]), (D.val (vI x2)), (D.sl (n10) 1 (List.take (n10 * 1) (List.drop 0 cs1)))] [(D.agg [(D.val (vI n11)), (D.val (vI n12))]), (D.val (Value.bool false))]) ∧
 (((Qv (Value.bool false)) ∧
 ((Qv (Value.agg [(vI n11), (vI n12)].toArray)) ∧
 ((Qv (Value.tuple [(Value.agg [(vI n11), (vI n12)].toArray), (Value.bool false)].toArray)) ∧
 (((Qv (Pt 1005 0)) ∧
 (Qv (some (AObj.cells [(vI 0), (vI 0)] 31 false 2)))) ∧
 True)))) ∧
 (((Qv (Value.bool false)) ∧
 True) ∧
 (True ∧
 (bcase (n5 == 12)
 (bcase (n6 == 12)
 (bcase (if Bool.false = Bool.true then !(n3 == 0 && (n4 == 0 && Bool.true)) else n3 == 0 && (n4 == 0 && Bool.true))
 (k [(D.val (Value.bool true))])
 (k [(D.val (Value.bool false))]))
 (k [(D.val (Value.bool false))]))
 (k [(D.val (Value.bool false))])))))))))
 False)
 False))))))
 False))
 (bcase (n9 != 0)
 (bcase (n5 == n9)
 (bcase (n6 == n9)
 (bcase (if Bool.false = Bool.true then !(n3 == 0 && (n4 == 0 && Bool.true)) else n3 == 0 && (n4 == 0 && Bool.true))
 (k [(D.val (Value.bool true))])
 (k [(D.val (Value.bool false))]))
 (k [(D.val (Value.bool false))]))
 (k [(D.val (Value.bool false))]))
 ((((Qv (Pt 1005 0)) ∧
 (Qv (some (AObj.cells [(vI 0), (vI 0)] 31 false 2)))) ∧
 ((Qv (Value.agg [(Sl 500 (n0) (c0)), (vI x1)].toArray)) ∧
 ((Qv (vI x2)) ∧
 ((Qv (Value.agg [(Sl 500 (n0) (c0)), (vI x1)].toArray)) ∧
 True)))) ∧
 (bcase (decide (0 + n0 * 1 ≤ List.length l0))
 (((Says C 15 [(D.agg [(D.sl (n0) 1 (List.take (n0 * 1) (List.drop 0 l0))), (D.val (vI x1))])] [D.nil]) ∧
 ((((Qv (Pt 1005 0)) ∧
 (Qv (some (AObj.cells [(vI 0), (vI 0)] 31 false 2)))) ∧
 ((Qv (vI x2)) ∧
 ((Qv (Value.agg [(Sl 500 (n0) (c0)), (vI x1)].toArray)) ∧
 True))) ∧
 (bcase (decide (0 + n0 * 1 ≤ List.length l0))
 (∃ n10 : Int,
 (∃ n11 : Int,
 (((Says C 14 [(D.agg [(D.sl (n0) 1 (List.take (n0 * 1) (List.drop 0 l0))), (D.val (vI x1))]), (D.val (vI x2)), D.nil] [(D.agg [(D.val (vI n10)), (D.val (vI n11))]), (D.val (Value.bool true))]) ∧
 (((Qv (Value.bool true)) ∧
 ((Qv (Value.agg [(vI n10), (vI n11)].toArray)) ∧
 ((Qv (Value.tuple [(Value.agg [(vI n10), (vI n11)].toArray), (Value.bool true)].toArray)) ∧
 (((Qv (Pt 1005 0)) ∧
 (Qv (some (AObj.cells [(vI 0), (vI 0)] 31 false 2)))) ∧
 True)))) ∧
 (((Qv (Value.bool true)) ∧
 True) ∧
 (True ∧
 (bcase (n5 == 0)
 (bcase (if Bool.false = Bool.true then !(n3 == n10 && (n4 == n11 && Bool.true)) else n3 == n10 && (n4 == n11 && Bool.true))
 (bcase (n6 == 0)
 (bcase (decide (0 + n0 * 1 ≤ List.length l0))
 (((Says C 17 [(D.agg [(D.sl (n0) 1 (List.take (n0 * 1) (List.drop 0 l0))), (D.val (vI x1))]), (D.val (vI x2)), (D.val (vI n10))] [D.nil]) ∧
 (((Says C 16 [D.nil, D.nil] [(D.val (Value.bool true))]) ∧
 (k [(D.val (Value.bool true))])) ∨
 ((Says C 16 [D.nil, D.nil] [(D.val (Value.bool false))]) ∧
 (k [(D.val (Value.bool false))])))) ∨
 (∃ n12 : Nat,
 (∃ cs1 : List Go.Value,
 ((Says C 17 [(D.agg [(D.sl (n0) 1 (List.take (n0 * 1) (List.drop 0 l0))), (D.val (vI x1))]), (D.val (vI x2)), (D.val (vI n10))] [(D.sl (n12) 1 (cs1))]) ∧
 (bcase (decide (0 + n12 * 1 ≤ List.length cs1))
 (((Says C 16 [D.nil, (D.sl (n12) 1 (List.take (n12 * 1) (List.drop 0 cs1)))] [(D.val (Value.bool true))]) ∧
 (k [(D.val (Value.bool true))])) ∨
 ((Says C 16 [D.nil, (D.sl (n12) 1 (List.take (n12 * 1) (List.drop 0 cs1)))] [(D.val (Value.bool false))]) ∧
 (k [(D.val (Value.bool false))])))
 False)))))
 False)
 (k [(D.val (Value.bool false))]))
 (k [(D.val (Value.bool false))]))
 (k [(D.val (Value.bool false))])))))) ∨
 ((Says C 14 [(D.agg [(D.sl (n0) 1 (List.take (n0 * 1) (List.drop 0 l0))), (D.val (vI x1))]), (D.val (vI x2)), D.nil] [(D.agg [(D.val (vI n10)), (D.val (vI n11))]), (D.val (Value.bool false))]) ∧
 (((Qv (Value.bool false)) ∧
 ((Qv (Value.agg [(vI n10), (vI n11)].toArray)) ∧
 ((Qv (Value.tuple [(Value.agg [(vI n10), (vI n11)].toArray), (Value.bool false)].toArray)) ∧
 (((Qv (Pt 1005 0)) ∧
 (Qv (some (AObj.cells [(vI 0), (vI 0)] 31 false 2)))) ∧
 True)))) ∧
 (((Qv (Value.bool false)) ∧
 True) ∧
 (True ∧
 (bcase (n5 == 0)
 (bcase (if Bool.false = Bool.true then !(n3 == n10 && (n4 == n11 && Bool.true)) else n3 == n10 && (n4 == n11 && Bool.true))
 (bcase (n6 == 0)
 (bcase (decide (0 + n0 * 1 ≤ List.length l0))
 (((Says C 17 [(D.agg [(D.sl (n0) 1 (List.take (n0 * 1) (List.drop 0 l0))), (D.val (vI x1))]), (D.val (vI x2)), (D.val (vI n10))] [D.nil]) ∧
 (((Says C 16 [D.nil, D.nil] [(D.val (Value.bool true))]) ∧
 (k [(D.val (Value.bool true))])) ∨
 ((Says C 16 [D.nil, D.nil] [(D.val (Value.bool false))]) ∧
 (k [(D.val (Value.bool false))])))) ∨
 (∃ n12 : Nat,
 (∃ cs1 : List Go.Value,
 ((Says C 17 [(D.agg [(D.sl (n0) 1 (List.take (n0 * 1) (List.drop 0 l0))), (D.val (vI x1))]), (D.val (vI x2)), (D.val (vI n10))] [(D.sl (n12) 1 (cs1))]) ∧
 (bcase (decide (0 + n12 * 1 ≤ List.length cs1))
 (((Says C 16 [D.nil, (D.sl (n12) 1 (List.take (n12 * 1) (List.drop 0 cs1)))] [(D.val (Value.bool true))]) ∧
 (k [(D.val (Value.bool true))])) ∨
 ((Says C 16 [D.nil, (D.sl (n12) 1 (List.take (n12 * 1) (List.drop 0 cs1)))] [(D.val (Value.bool false))]) ∧
 (k [(D.val (Value.bool false))])))
 False)))))
 False)
 (k [(D.val (Value.bool false))]))
 (k [(D.val (Value.bool false))]))
 (k [(D.val (Value.bool false))])))))))))
 False))) ∨
 (∃ n10 : Nat,
 (∃ cs1 : List Go.Value,
 ((Says C 15 [(D.agg [(D.sl (n0) 1 (List.take (n0 * 1) (List.drop 0 l0))), (D.val (vI x1))])] [(D.sl (n10) 1 (cs1))]) ∧
 ((((Qv (Pt 1005 0)) ∧
 (Qv (some (AObj.cells [(vI 0), (vI 0)] 31 false 2)))) ∧
 ((Qv (vI x2)) ∧
 ((Qv (Value.agg [(Sl 500 (n0) (c0)), (vI x1)].toArray)) ∧
 True))) ∧
 (bcase (decide (0 + n0 * 1 ≤ List.length l0))
 (bcase (decide (0 + n10 * 1 ≤ List.length cs1))
 (∃ n11 : Int,
 (∃ n12 : Int,
 (((Says C 14 [(D.agg [(D.sl (n0) 1 (List.take (n0 * 1) (List.drop 0 l0))), (D.val (vI x1))]), (D.val (vI x2)), (D.sl (n10) 1 (List.take (n10 * 1) (List.drop 0 cs1)))] [(D.agg [(D.val (vI n11)), (D.val (vI n12))]), (D.val (Value.bool true))]) ∧
 (((Qv (Value.bool true)) ∧
 ((Qv (Value.agg [(vI n11), (vI n12)].toArray)) ∧
 ((Qv (Value.tuple [(Value.agg [(vI n11), (vI n12)].toArray), (Value.bool true)].toArray)) ∧
 (((Qv (Pt 1005 0)) ∧
 (Qv (some (AObj.cells [(vI 0), (vI 0)] 31 false 2)))) ∧
 True)))) ∧
 (((Qv (Value.bool true)) ∧
 True) ∧
 (True ∧
 (bcase (n5 == 0)
 (bcase (if Bool.false = Bool.true then !(n3 == n11 && (n4 == n12 && Bool.true)) else n3 == n11 && (n4 == n12 && Bool.true))
 (bcase (n6 == 0)
 (bcase (decide (0 + n0 * 1 ≤ List.length l0))
 (((Says C 17 [(D.agg [(D.sl (n0) 1 (List.take (n0 * 1) (List.drop 0 l0))), (D.val (vI x1))]), (D.val (vI x2)), (D.val (vI n11))] [D.nil]) ∧
 (((Says C 16 [D.nil, D.nil] [(D.val (Value.bool true))]) ∧
 (k [(D.val (Value.bool true))])) ∨
 ((Says C 16 [D.nil, D.nil] [(D.val (Value.bool false))]) ∧
 (k [(D.val (Value.bool false))])))) ∨
 (∃ n13 : Nat,
 (∃ cs2 : List Go.Value,
 ((Says C 17 [(D.agg [(D.sl (n0) 1 (List.take (n0 * 1) (List.drop 0 l0))), (D.val (vI x1))]), (D.val (vI x2)), (D.val (vI n11))] [(D.sl (n13) 1 (cs2))]) ∧
 (bcase (decide (0 + n13 * 1 ≤ List.length cs2))
 (((Says C 16 [D.nil, (D.sl (n13) 1 (List.take (n13 * 1) (List.drop 0 cs2)))] [(D.val (Value.bool true))]) ∧
 (k [(D.val (Value.bool true))])) ∨
 ((Says C 16 [D.nil, (D.sl (n13) 1 (List.take (n13 * 1) (List.drop 0 cs2)))] [(D.val (Value.bool false))]) ∧
 (k [(D.val (Value.bool false))])))
 False)))))
 False)
 (k [(D.val (Value.bool false))]))
 (k [(D.val (Value.bool false))]))
 (k [(D.val (Value.bool false))])))))) ∨
 ((Says C 14 [(D.agg [(D.sl (n0) 1 (List.take (n0 * 1) (List.drop 0 l0))), (D.val (vI x1))]), (D.val (vI x2)), (D.sl (n10) 1 (List.take (n10 * 1) (List.drop 0 cs1)))] [(D.agg [(D.val (vI n11)), (D.val (vI n12))]), (D.val (Value.bool false))]) ∧
 (((Qv (Value.bool false)) ∧
 ((Qv (Value.agg [(vI n11), (vI n12)].toArray)) ∧
 ((Qv (Value.tuple [(Value.agg [(vI n11), (vI n12)].toArray), (Value.bool false)].toArray)) ∧
 (((Qv (Pt 1005 0)) ∧
 (Qv (some (AObj.cells [(vI 0), (vI 0)] 31 false 2)))) ∧
 True)))) ∧
 (((Qv (Value.bool false)) ∧
 True) ∧
 (True ∧
 (bcase (n5 == 0)
 (bcase (if Bool.false = Bool.true then !(n3 == n11 && (n4 == n12 && Bool.true)) else n3 == n11 && (n4 == n12 && Bool.true))
 (bcase (n6 == 0)
 (bcase (decide (0 + n0 * 1 ≤ List.length l0))
 (((Says C 17 [(D.agg [(D.sl (n0) 1 (List.take (n0 * 1) (List.drop 0 l0))), (D.val (vI x1))]), (D.val (vI x2)), (D.val (vI n11))] [D.nil]) ∧
 (((Says C 16 [D.nil, D.nil] [(D.val (Value.bool true))]) ∧
 (k [(D.val (Value.bool true))])) ∨
 ((Says C 16 [D.nil, D.nil] [(D.val (Value.bool false))]) ∧
 (k [(D.val (Value.bool false))])))) ∨
 (∃ n13 : Nat,
 (∃ cs2 : List Go.Value,
 ((Says C 17 [(D.agg [(D.sl (n0) 1 (List.take (n0 * 1) (List.drop 0 l0))), (D.val (vI x1))]), (D.val (vI x2)), (D.val (vI n11))] [(D.sl (n13) 1 (cs2))]) ∧
 (bcase (decide (0 + n13 * 1 ≤ List.length cs2))
 (((Says C 16 [D.nil, (D.sl (n13) 1 (List.take (n13 * 1) (List.drop 0 cs2)))] [(D.val (Value.bool true))]) ∧
 (k [(D.val (Value.bool true))])) ∨
 ((Says C 16 [D.nil, (D.sl (n13) 1 (List.take (n13 * 1) (List.drop 0 cs2)))] [(D.val (Value.bool false))]) ∧
 (k [(D.val (Value.bool false))])))
 False)))))
 False)
 (k [(D.val (Value.bool false))]))
 (k [(D.val (Value.bool false))]))
 (k [(D.val (Value.bool false))])))))))))
 False)
 False))))))
 False))))
 (bcase (n9 != 0)
 (bcase (n5 == n9)
 (bcase (n6 == n9)
 (bcase (if Bool.false = Bool.true then !(n3 == 0 && (n4 == 0 && Bool.true)) else n3 == 0 && (n4 == 0 && Bool.true))
 (k [(D.val (Value.bool true))])
 (k [(D.val (Value.bool false))]))
 (k [(D.val (Value.bool false))]))
 (k [(D.val (Value.bool false))]))
 ((((Qv (Pt 1005 0)) ∧
 (Qv (some (AObj.cells [(vI 0), (vI 0)] 31 false 2)))) ∧
 ((Qv (Value.agg [(Sl 500 (n0) (c0)), (vI x1)].toArray)) ∧
 ((Qv (vI x2)) ∧
 ((Qv (Value.agg [(Sl 500 (n0) (c0)), (vI x1)].toArray)) ∧
 True)))) ∧
 (bcase (decide (0 + n0 * 1 ≤ List.length l0))
 (((Says C 15 [(D.agg [(D.sl (n0) 1 (List.take (n0 * 1) (List.drop 0 l0))), (D.val (vI x1))])] [D.nil]) ∧
 ((((Qv (Pt 1005 0)) ∧
 (Qv (some (AObj.cells [(vI 0), (vI 0)] 31 false 2)))) ∧
 ((Qv (vI x2)) ∧
 ((Qv (Value.agg [(Sl 500 (n0) (c0)), (vI x1)].toArray)) ∧
 True))) ∧
 (bcase (decide (0 + n0 * 1 ≤ List.length l0))
 (∃ n10 : Int,
 (∃ n11 : Int,
 (((Says C 14 [(D.agg [(D.sl (n0) 1 (List.take (n0 * 1) (List.drop 0 l0))), (D.val (vI x1))]), (D.val (vI x2)), D.nil] [(D.agg [(D.val (vI n10)), (D.val (vI n11))]), (D.val (Value.bool true))]) ∧
 (((Qv (Value.bool true)) ∧
 ((Qv (Value.agg [(vI n10), (vI n11)].toArray)) ∧
 ((Qv (Value.tuple [(Value.agg [(vI n10), (vI n11)].toArray), (Value.bool true)].toArray)) ∧
 (((Qv (Pt 1005 0)) ∧
 (Qv (some (AObj.cells [(vI 0), (vI 0)] 31 false 2)))) ∧
 True)))) ∧
 (((Qv (Value.bool true)) ∧
 True) ∧
 (True ∧
 (bcase (n5 == 0)
 (bcase (if Bool.false = Bool.true then !(n3 == n10 && (n4 == n11 && Bool.true)) else n3 == n10 && (n4 == n11 && Bool.true))
 (bcase (n6 == 0)
 (bcase (decide (0 + n0 * 1 ≤ List.length l0))
 (((Says C 17 [(D.agg [(D.sl (n0) 1 (List.take (n0 * 1) (List.drop 0 l0))), (D.val (vI x1))]), (D.val (vI x2)), (D.val (vI n10))] [D.nil]) ∧
 (((Says C 16 [D.nil, D.nil] [(D.val (Value.bool true))]) ∧
 (k [(D.val (Value.bool true))])) ∨
 ((Says C 16 [D.nil, D.nil] [(D.val (Value.bool false))]) ∧
 (k [(D.val (Value.bool false))])))) ∨
 (∃ n12 : Nat,
 (∃ cs1 : List Go.Value,
 ((Says C 17 [(D.agg [(D.sl (n0) 1 (List.take (n0 * 1) (List.drop 0 l0))), (D.val (vI x1))]), (D.val (vI x2)), (D.val (vI n10))] [(D.sl (n12) 1 (cs1))]) ∧
 (bcase (decide (0 + n12 * 1 ≤ List.length cs1))
 (((Says C 16 [D.nil, (D.sl (n12) 1 (List.take (n12 * 1) (List.drop 0 cs1)))] [(D.val (Value.bool true))]) ∧
 (k [(D.val (Value.bool true))])) ∨
 ((Says C 16 [D.nil, (D.sl (n12) 1 (List.take (n12 * 1) (List.drop 0 cs1)))] [(D.val (Value.bool false))]) ∧
 (k [(D.val (Value.bool false))])))
 False)))))
 False)
 (k [(D.val (Value.bool false))]))
 (k [(D.val (Value.bool false))]))
 (k [(D.val (Value.bool false))])))))) ∨
 ((Says C 14 [(D.agg [(D.sl (n0) 1 (List.take (n0 * 1) (List.drop 0 l0))), (D.val (vI x1))]), (D.val (vI x2)), D.nil] [(D.agg [(D.val (vI n10)), (D.val (vI n11))]), (D.val (Value.bool false))]) ∧
 (((Qv (Value.bool false)) ∧
 ((Qv (Value.agg [(vI n10), (vI n11)].toArray)) ∧
 ((Qv (Value.tuple [(Value.agg [(vI n10), (vI n11)].toArray), (Value.bool false)].toArray)) ∧
 (((Qv (Pt 1005 0)) ∧
 (Qv (some (AObj.cells [(vI 0), (vI 0)] 31 false 2)))) ∧
 True)))) ∧
 (((Qv (Value.bool false)) ∧
 True) ∧
 (True ∧
 (bcase (n5 == 0)
 (bcase (if Bool.false = Bool.true then !(n3 == n10 && (n4 == n11 && Bool.true)) else n3 == n10 && (n4 == n11 && Bool.true))
 (bcase (n6 == 0)
 (bcase (decide (0 + n0 * 1 ≤ List.length l0))
 (((Says C 17 [(D.agg [(D.sl (n0) 1 (List.take (n0 * 1) (List.drop 0 l0))), (D.val (vI x1))]), (D.val (vI x2)), (D.val (vI n10))] [D.nil]) ∧
 (((Says C 16 [D.nil, D.nil] [(D.val (Value.bool true))]) ∧
 (k [(D.val (Value.bool true))])) ∨
 ((Says C 16 [D.nil, D.nil] [(D.val (Value.bool false))]) ∧
 (k [(D.val (Value.bool false))])))) ∨
 (∃ n12 : Nat,
 (∃ cs1 : List Go.Value,
 ((Says C 17 [(D.agg [(D.sl (n0) 1 (List.take (n0 * 1) (List.drop 0 l0))), (D.val (vI x1))]), (D.val (vI x2)), (D.val (vI n10))] [(D.sl (n12) 1 (cs1))]) ∧
 (bcase (decide (0 + n12 * 1 ≤ List.length cs1))
 (((Says C 16 [D.nil, (D.sl (n12) 1 (List.take (n12 * 1) (List.drop 0 cs1)))] [(D.val (Value.bool true))]) ∧
 (k [(D.val (Value.bool true))])) ∨
 ((Says C 16 [D.nil, (D.sl (n12) 1 (List.take (n12 * 1) (List.drop 0 cs1)))] [(D.val (Value.bool false))]) ∧
 (k [(D.val (Value.bool false))])))
 False)))))
 False)
 (k [(D.val (Value.bool false))]))
 (k [(D.val (Value.bool false))]))
 (k [(D.val (Value.bool false))])))))))))
 False))) ∨
 (∃ n10 : Nat,
 (∃ cs1 : List Go.Value,
 ((Says C 15 [(D.agg [(D.sl (n0) 1 (List.take (n0 * 1) (List.drop 0 l0))), (D.val (vI x1))])] [(D.sl (n10) 1 (cs1))]) ∧
 ((((Qv (Pt 1005 0)) ∧
 (Qv (some (AObj.cells [(vI 0), (vI 0)] 31 false 2)))) ∧
 ((Qv (vI x2)) ∧
 ((Qv (Value.agg [(Sl 500 (n0) (c0)), (vI x1)].toArray)) ∧
 True))) ∧
 (bcase (decide (0 + n0 * 1 ≤ List.length l0))
 (bcase (decide (0 + n10 * 1 ≤ List.length cs1))
 (∃ n11 : Int,
 (∃ n12 : Int,
 (((Says C 14 [(D.agg [(D.sl (n0) 1 (List.take (n0 * 1) (List.drop 0 l0))), (D.val (vI x1))]), (D.val (vI x2)), (D.sl (n10) 1 (List.take (n10 * 1) (List.drop 0 cs1)))] [(D.agg [(D.val (vI n11)), (D.val (vI n12))]), (D.val (Value.bool true))]) ∧
 (((Qv (Value.bool true)) ∧
 ((Qv (Value.agg [(vI n11), (vI n12)].toArray)) ∧
 ((Qv (Value.tuple [(Value.agg [(vI n11), (vI n12)].toArray), (Value.bool true)].toArray)) ∧
 (((Qv (Pt 1005 0)) ∧
 (Qv (some (AObj.cells [(vI 0), (vI 0)] 31 false 2)))) ∧
 True)))) ∧
 (((Qv (Value.bool true)) ∧
 True) ∧
 (True ∧
 (bcase (n5 == 0)
 (bcase (if Bool.false = Bool.true then !(n3 == n11 && (n4 == n12 && Bool.true)) else n3 == n11 && (n4 == n12 && Bool.true))
 (bcase (n6 == 0)
 (bcase (decide (0 + n0 * 1 ≤ List.length l0))
 (((Says C 17 [(D.agg [(D.sl (n0) 1 (List.take (n0 * 1) (List.drop 0 l0))), (D.val (vI x1))]), (D.val (vI x2)), (D.val (vI n11))] [D.nil]) ∧
 (((Says C 16 [D.nil, D.nil] [(D.val (Value.bool true))]) ∧
 (k [(D.val (Value.bool true))])) ∨
 ((Says C 16 [D.nil, D.nil] [(D.val (Value.bool false))]) ∧
 (k [(D.val (Value.bool false))])))) ∨
 (∃ n13 : Nat,
 (∃ cs2 : List Go.Value,
 ((Says C 17 [(D.agg [(D.sl (n0) 1 (List.take (n0 * 1) (List.drop 0 l0))), (D.val (vI x1))]), (D.val (vI x2)), (D.val (vI n11))] [(D.sl (n13) 1 (cs2))]) ∧
 (bcase (decide (0 + n13 * 1 ≤ List.length cs2))
 (((Says C 16 [D.nil, (D.sl (n13) 1 (List.take (n13 * 1) (List.drop 0 cs2)))] [(D.val (Value.bool true))]) ∧
 (k [(D.val (Value.bool true))])) ∨
 ((Says C 16 [D.nil, (D.sl (n13) 1 (List.take (n13 * 1) (List.drop 0 cs2)))] [(D.val (Value.bool false))]) ∧
 (k [(D.val (Value.bool false))])))
 False)))))
 False)
 (k [(D.val (Value.bool false))]))
 (k [(D.val (Value.bool false))]))
 (k [(D.val (Value.bool false))])))))) ∨
 ((Says C 14 [(D.agg [(D.sl (n0) 1 (List.take (n0 * 1) (List.drop 0 l0))), (D.val (vI x1))]), (D.val (vI x2)), (D.sl (n10) 1 (List.take (n10 * 1) (List.drop 0 cs1)))] [(D.agg [(D.val (vI n11)), (D.val (vI n12))]), (D.val (Value.bool false))]) ∧
 (((Qv (Value.bool false)) ∧
 ((Qv (Value.agg [(vI n11), (vI n12)].toArray)) ∧
 ((Qv (Value.tuple [(Value.agg [(vI n11), (vI n12)].toArray), (Value.bool false)].toArray)) ∧
 (((Qv (Pt 1005 0)) ∧
 (Qv (some (AObj.cells [(vI 0), (vI 0)] 31 false 2)))) ∧
 True)))) ∧
 (((Qv (Value.bool false)) ∧
 True) ∧
 (True ∧
 (bcase (n5 == 0)
 (bcase (if Bool.false = Bool.true then !(n3 == n11 && (n4 == n12 && Bool.true)) else n3 == n11 && (n4 == n12 && Bool.true))
 (bcase (n6 == 0)
 (bcase (decide (0 + n0 * 1 ≤ List.length l0))
 (((Says C 17 [(D.agg [(D.sl (n0) 1 (List.take (n0 * 1) (List.drop 0 l0))), (D.val (vI x1))]), (D.val (vI x2)), (D.val (vI n11))] [D.nil]) ∧
 (((Says C 16 [D.nil, D.nil] [(D.val (Value.bool true))]) ∧
 (k [(D.val (Value.bool true))])) ∨
 ((Says C 16 [D.nil, D.nil] [(D.val (Value.bool false))]) ∧
 (k [(D.val (Value.bool false))])))) ∨
 (∃ n13 : Nat,
 (∃ cs2 : List Go.Value,
 ((Says C 17 [(D.agg [(D.sl (n0) 1 (List.take (n0 * 1) (List.drop 0 l0))), (D.val (vI x1))]), (D.val (vI x2)), (D.val (vI n11))] [(D.sl (n13) 1 (cs2))]) ∧
 (bcase (decide (0 + n13 * 1 ≤ List.length cs2))
 (((Says C 16 [D.nil, (D.sl (n13) 1 (List.take (n13 * 1) (List.drop 0 cs2)))] [(D.val (Value.bool true))]) ∧
 (k [(D.val (Value.bool true))])) ∨
 ((Says C 16 [D.nil, (D.sl (n13) 1 (List.take (n13 * 1) (List.drop 0 cs2)))] [(D.val (Value.bool false))]) ∧
 (k [(D.val (Value.bool false))])))
 False)))))
 False)
 (k [(D.val (Value.bool false))]))
 (k [(D.val (Value.bool false))]))
 (k [(D.val (Value.bool false))])))))))))
 False)
 False))))))
 False))))))
 False)
 (bcase (n8 == 0)
 (bcase (decide ((↑n0 : Int) > 0))
 ((((Qv (Pt 1005 0)) ∧
 (Qv (some (AObj.cells [(vI 0), (vI 0)] 31 false 2)))) ∧
 ((Qv (Value.agg [(Sl 500 (n0) (c0)), (vI x1)].toArray)) ∧
 ((Qv (vI x2)) ∧
 ((Qv (Value.agg [(Sl 500 (n0) (c0)), (vI x1)].toArray)) ∧
 True)))) ∧
 (bcase (decide (0 + n0 * 1 ≤ List.length l0))
 (((Says C 15 [(D.agg [(D.sl (n0) 1 (List.take (n0 * 1) (List.drop 0 l0))), (D.val (vI x1))])] [D.nil]) ∧
 ((((Qv (Pt 1005 0)) ∧
 (Qv (some (AObj.cells [(vI 0), (vI 0)] 31 false 2)))) ∧
 ((Qv (vI x2)) ∧
 ((Qv (Value.agg [(Sl 500 (n0) (c0)), (vI x1)].toArray)) ∧
 True))) ∧
 (bcase (decide (0 + n0 * 1 ≤ List.length l0))
 (∃ n9 : Int,
 (∃ n10 : Int,
 (((Says C 14 [(D.agg [(D.sl (n0) 1 (List.take (n0 * 1) (List.drop 0 l0))), (D.val (vI x1))]), (D.val (vI x2)), D.nil] [(D.agg [(D.val (vI n9)), (D.val (vI n10))]), (D.val (Value.bool true))]) ∧
 (((Qv (Value.bool true)) ∧
 ((Qv (Value.agg [(vI n9), (vI n10)].toArray)) ∧
 ((Qv (Value.tuple [(Value.agg [(vI n9), (vI n10)].toArray), (Value.bool true)].toArray)) ∧
 (((Qv (Pt 1005 0)) ∧
 (Qv (some (AObj.cells [(vI 0), (vI 0)] 31 false 2)))) ∧
 True)))) ∧
 (((Qv (Value.bool true)) ∧
 True) ∧
 (True ∧
 (bcase (n8 != 0)
 (bcase (n5 == n8)
 (bcase (n6 == n8)
 (bcase (if Bool.false = Bool.true then !(n3 == 0 && (n4 == 0 && Bool.true)) else n3 == 0 && (n4 == 0 && Bool.true))
 (k [(D.val (Value.bool true))])
 (k [(D.val (Value.bool false))]))
 (k [(D.val (Value.bool false))]))
 (k [(D.val (Value.bool false))]))
 ((((Qv (Pt 1006 0)) ∧
 (Qv (some (AObj.cells [(vI 0), (vI 0)] 31 false 2)))) ∧
 ((Qv (Value.agg [(Sl 500 (n0) (c0)), (vI x1)].toArray)) ∧
 ((Qv (vI x2)) ∧
 ((Qv (Value.agg [(Sl 500 (n0) (c0)), (vI x1)].toArray)) ∧
 True)))) ∧
 (bcase (decide (0 + n0 * 1 ≤ List.length l0))
 (((Says C 15 [(D.agg [(D.sl (n0) 1 (List.take (n0 * 1) (List.drop 0 l0))), (D.val (vI x1))])] [D.nil]) ∧
 ((((Qv (Pt 1006 0)) ∧
 (Qv (some (AObj.cells [(vI 0), (vI 0)] 31 false 2)))) ∧
 ((Qv (vI x2)) ∧
 ((Qv (Value.agg [(Sl 500 (n0) (c0)), (vI x1)].toArray)) ∧
 True))) ∧
 (bcase (decide (0 + n0 * 1 ≤ List.length l0))
 (∃ n11 : Int,
 (∃ n12 : Int,
 (((Says C 14 [(D.agg [(D.sl (n0) 1 (List.take (n0 * 1) (List.drop 0 l0))), (D.val (vI x1))]), (D.val (vI x2)), D.nil] [(D.agg [(D.val (vI n11)), (D.val (vI n12))]), (D.val (Value.bool true))]) ∧
 (((Qv (Value.bool true)) ∧
 ((Qv (Value.agg [(vI n11), (vI n12)].toArray)) ∧
 ((Qv (Value.tuple [(Value.agg [(vI n11), (vI n12)].toArray), (Value.bool true)].toArray)) ∧
 (((Qv (Pt 1006 0)) ∧
 (Qv (some (AObj.cells [(vI 0), (vI 0)] 31 false 2)))) ∧
 True)))) ∧
 (((Qv (Value.bool true)) ∧
 True) ∧
 (True ∧
 (bcase (n5 == 0)
 (bcase (if Bool.false = Bool.true then !(n3 == n11 && (n4 == n12 && Bool.true)) else n3 == n11 && (n4 == n12 && Bool.true))
 (bcase (n6 == 0)
 (bcase (decide (0 + n0 * 1 ≤ List.length l0))
 (((Says C 17 [(D.agg [(D.sl (n0) 1 (List.take (n0 * 1) (List.drop 0 l0))), (D.val (vI x1))]), (D.val (vI x2)), (D.val (vI n11))] [D.nil]) ∧
 (((Says C 16 [D.nil, D.nil] [(D.val (Value.bool true))]) ∧
 (k [(D.val (Value.bool true))])) ∨
 ((Says C 16 [D.nil, D.nil] [(D.val (Value.bool false))]) ∧
 (k [(D.val (Value.bool false))])))) ∨
 (∃ n13 : Nat,
 (∃ cs1 : List Go.Value,
 ((Says C 17 [(D.agg [(D.sl (n0) 1 (List.take (n0 * 1) (List.drop 0 l0))), (D.val (vI x1))]), (D.val (vI x2)), (D.val (vI n11))] [(D.sl (n13) 1 (cs1))]) ∧
 (bcase (decide (0 + n13 * 1 ≤ List.length cs1))
 (((Says C 16 [D.nil, (D.sl (n13) 1 (List.take (n13 * 1) (List.drop 0 cs1)))] [(D.val (Value.bool true))]) ∧
 (k [(D.val (Value.bool true))])) ∨
 ((Says C 16 [D.nil, (D.sl (n13) 1 (List.take (n13 * 1) (List.drop 0 cs1)))] [(D.val (Value.bool false))]) ∧
 (k [(D.val (Value.bool false))])))
 False)))))
 False)
 (k [(D.val (Value.bool false))]))
 (k [(D.val (Value.bool false))]))
 (k [(D.val (Value.bool false))])))))) ∨
 ((Says C 14 [(D.agg [(D.sl (n0) 1 (List.take (n0 * 1) (List.drop 0 l0))), (D.val (vI x1))]), (D.val (vI x2)), D.nil] [(D.agg [(D.val (vI n11)), (D.val (vI n12))]), (D.val (Value.bool false))]) ∧
 (((Qv (Value.bool false)) ∧
 ((Qv (Value.agg [(vI n11), (vI n12)].toArray)) ∧
 ((Qv (Value.tuple [(Value.agg [(vI n11), (vI n12)].toArray), (Value.bool false)].toArray)) ∧
 (((Qv (Pt 1006 0)) ∧
 (Qv (some (AObj.cells [(vI 0), (vI 0)] 31 false 2)))) ∧
 True)))) ∧
 (((Qv (Value.bool false)) ∧
 True) ∧
 (True ∧
 (bcase (n5 == 0)
 (bcase (if Bool.false = Bool.true then !(n3 == n11 && (n4 == n12 && Bool.true)) else n3 == n11 && (n4 == n12 && Bool.true))
 (bcase (n6 == 0)
 (bcase (decide (0 + n0 * 1 ≤ List.length l0))
 (((Says C 17 [(D.agg [(D.sl (n0) 1 (List.take (n0 * 1) (List.drop 0 l0))), (D.val (vI x1))]), (D.val (vI x2)), (D.val (vI n11))] [D.nil]) ∧
 (((Says C 16 [D.nil, D.nil] [(D.val (Value.bool true))]) ∧
 (k [(D.val (Value.bool true))])) ∨
 ((Says C 16 [D.nil, D.nil] [(D.val (Value.bool false))]) ∧
 (k [(D.val (Value.bool false))])))) ∨
 (∃ n13 : Nat,
 (∃ cs1 : List Go.Value,
 ((Says C 17 [(D.agg [(D.sl (n0) 1 (List.take (n0 * 1) (List.drop 0 l0))), (D.val (vI x1))]), (D.val (vI x2)), (D.val (vI n11))] [(D.sl (n13) 1 (cs1))]) ∧
 (bcase (decide (0 + n13 * 1 ≤ List.length cs1))
 (((Says C 16 [D.nil, (D.sl (n13) 1 (List.take (n13 * 1) (List.drop 0 cs1)))] [(D.val (Value.bool true))]) ∧
 (k [(D.val (Value.bool true))])) ∨
 ((Says C 16 [D.nil, (D.sl (n13) 1 (List.take (n13 * 1) (List.drop 0 cs1)))] [(D.val (Value.bool false))]) ∧
 (k [(D.val (Value.bool false))])))
 False)))))
 False)
 (k [(D.val (Value.bool false))]))
 (k [(D.val (Value.bool false))]))
 (k [(D.val (Value.bool false))])))))))))
 False))) ∨
 (∃ n11 : Nat,
 (∃ cs1 : List Go.Value,
 ((Says C 15 [(D.agg [(D.sl (n0) 1 (List.take (n0 * 1) (List.drop 0 l0))), (D.val (vI x1))])] [(D.sl (n11) 1 (cs1))]) ∧
 ((((Qv (Pt 1006 0)) ∧
 (Qv (some (AObj.cells [(vI 0), (vI 0)] 31 false 2)))) ∧
 ((Qv (vI x2)) ∧
 ((Qv (Value.agg [(Sl 500 (n0) (c0)), (vI x1)].toArray)) ∧
 True))) ∧
 (bcase (decide (0 + n0 * 1 ≤ List.length l0))
 (bcase (decide (0 + n11 * 1 ≤ List.length cs1))
 (∃ n12 : Int,
 (∃ n13 : Int,
 (((Says C 14 [(D.agg [(D.sl (n0) 1 (List.take (n0 * 1) (List.drop 0 l0))), (D.val (vI x1))]), (D.val (vI x2)), (D.sl (n11) 1 (List.take (n11 * 1) (List.drop 0 cs1)))] [(D.agg [(D.val (vI n12)), (D.val (vI n13))]), (D.val (Value.bool true))]) ∧
 (((Qv (Value.bool true)) ∧
 ((Qv (Value.agg [(vI n12), (vI n13)].toArray)) ∧
 ((Qv (Value.tuple [(Value.agg [(vI n12), (vI n13)].toArray), (Value.bool true)].toArray)) ∧
 (((Qv (Pt 1006 0)) ∧
 (Qv (some (AObj.cells [(vI 0), (vI 0)] 31 false 2)))) ∧
 True)))) ∧
 (((Qv (Value.bool true)) ∧
 True) ∧
 (True ∧
 (bcase (n5 == 0)
 (bcase (if Bool.false = Bool.true then !(n3 == n12 && (n4 == n13 && Bool.true)) else n3 == n12 && (n4 == n13 && Bool.true))
 (bcase (n6 == 0)
 (bcase (decide (0 + n0 * 1 ≤ List.length l0))
 (((Says C 17 [(D.agg [(D.sl (n0) 1 (List.take (n0 * 1) (List.drop 0 l0))), (D.val (vI x1))]), (D.val (vI x2)), (D.val (vI n12))] [D.nil]) ∧
 (((Says C 16 [D.nil, D.nil] [(D.val (Value.bool true))]) ∧
 (k [(D.val (Value.bool true))])) ∨
 ((Says C 16 [D.nil, D.nil] [(D.val (Value.bool false))]) ∧
 (k [(D.val (Value.bool false))])))) ∨
 (∃ n14 : Nat,
 (∃ cs2 : List Go.Value,
 ((Says C 17 [(D.agg [(D.sl (n0) 1 (List.take (n0 * 1) (List.drop 0 l0))), (D.val (vI x1))]), (D.val (vI x2)), (D.val (vI n12))] [(D.sl (n14) 1 (cs2))]) ∧
 (bcase (decide (0 + n14 * 1 ≤ List.length cs2))
 (((Says C 16 [D.nil, (D.sl (n14) 1 (List.take (n14 * 1) (List.drop 0 cs2)))] [(D.val (Value.bool true))]) ∧
 (k [(D.val (Value.bool true))])) ∨
 ((Says C 16 [D.nil, (D.sl (n14) 1 (List.take (n14 * 1) (List.drop 0 cs2)))] [(D.val (Value.bool false))]) ∧
 (k [(D.val (Value.bool false))])))
 False)))))
 False)
 (k [(D.val (Value.bool false))]))
 (k [(D.val (Value.bool false))]))
 (k [(D.val (Value.bool false))])))))) ∨
 ((Says C 14 [(D.agg [(D.sl (n0) 1 (List.take (n0 * 1) (List.drop 0 l0))), (D.val (vI x1))]), (D.val (vI x2)), (D.sl (n11) 1 (List.take (n11 * 1) (List.drop 0 cs1)))] [(D.agg [(D.val (vI n12)), (D.val (vI n13))]), (D.val (Value.bool false))]) ∧
 (((Qv (Value.bool false)) ∧
 ((Qv (Value.agg [(vI n12), (vI n13)].toArray)) ∧
 ((Qv (Value.tuple [(Value.agg [(vI n12), (vI n13)].toArray), (Value.bool false)].toArray)) ∧
 (((Qv (Pt 1006 0)) ∧
 (Qv (some (AObj.cells [(vI 0), (vI 0)] 31 false 2)))) ∧
 True)))) ∧
 (((Qv (Value.bool false)) ∧
 True) ∧
 (True ∧
 (bcase (n5 == 0)
 (bcase (if Bool.false = Bool.true then !(n3 == n12 && (n4 == n13 && Bool.true)) else n3 == n12 && (n4 == n13 && Bool.true))
 (bcase (n6 == 0)
 (bcase (decide (0 + n0 * 1 ≤ List.length l0))
 (((Says C 17 [(D.agg [(D.sl (n0) 1 (List.take (n0 * 1) (List.drop 0 l0))), (D.val (vI x1))]), (D.val (vI x2)), (D.val (vI n12))] [D.nil]) ∧
 (((Says C 16 [D.nil, D.nil] [(D.val (Value.bool true))]) ∧
 (k [(D.val (Value.bool true))])) ∨
 ((Says C 16 [D.nil, D.nil] [(D.val (Value.bool false))]) ∧
 (k [(D.val (Value.bool false))])))) ∨
 (∃ n14 : Nat,
 (∃ cs2 : List Go.Value,
 ((Says C 17 [(D.agg [(D.sl (n0) 1 (List.take (n0 * 1) (List.drop 0 l0))), (D.val (vI x1))]), (D.val (vI x2)), (D.val (vI n12))] [(D.sl (n14) 1 (cs2))]) ∧
 (bcase (decide (0 + n14 * 1 ≤ List.length cs2))
 (((Says C 16 [D.nil, (D.sl (n14) 1 (List.take (n14 * 1) (List.drop 0 cs2)))] [(D.val (Value.bool true))]) ∧
 (k [(D.val (Value.bool true))])) ∨
 ((Says C 16 [D.nil, (D.sl (n14) 1 (List.take (n14 * 1) (List.drop 0 cs2)))] [(D.val (Value.bool false))]) ∧
 (k [(D.val (Value.bool false))])))
 False)))))
 False)
 (k [(D.val (Value.bool false))]))
 (k [(D.val (Value.bool false))]))
 (k [(D.val (Value.bool false))])))))))))
 False)
 False))))))
 False))))))) ∨
 ((Says C 14 [(D.agg [(D.sl (n0) 1 (List.take (n0 * 1) (List.drop 0 l0))), (D.val (vI x1))]), (D.val (vI x2)), D.nil] [(D.agg [(D.val (vI n9)), (D.val (vI n10))]), (D.val (Value.bool false))]) ∧
 (((Qv (Value.bool false)) ∧
 ((Qv (Value.agg [(vI n9), (vI n10)].toArray)) ∧
 ((Qv (Value.tuple [(Value.agg [(vI n9), (vI n10)].toArray), (Value.bool false)].toArray)) ∧
 (((Qv (Pt 1005 0)) ∧
 (Qv (some (AObj.cells [(vI 0), (vI 0)] 31 false 2)))) ∧
 True)))) ∧
 (((Qv (Value.bool false)) ∧
 True) ∧
 (True ∧
 (bcase (n5 == 12)
 (bcase (n6 == 12)
 (bcase (if Bool.false = Bool.true then !(n3 == 0 && (n4 == 0 && Bool.true)) else n3 == 0 && (n4 == 0 && Bool.true))
 (k [(D.val (Value.bool true))])
 (k [(D.val (Value.bool false))]))
 (k [(D.val (Value.bool false))]))
 (k [(D.val (Value.bool false))])))))))))
 False))) ∨
 (∃ n9 : Nat,
 (∃ cs1 : List Go.Value,
 ((Says C 15 [(D.agg [(D.sl (n0) 1 (List.take (n0 * 1) (List.drop 0 l0))), (D.val (vI x1))])] [(D.sl (n9) 1 (cs1))]) ∧
 ((((Qv (Pt 1005 0)) ∧
 (Qv (some (AObj.cells [(vI 0), (vI 0)] 31 false 2)))) ∧
 ((Qv (vI x2)) ∧
 ((Qv (Value.agg [(Sl 500 (n0) (c0)), (vI x1)].toArray)) ∧
 True))) ∧
 (bcase (decide (0 + n0 * 1 ≤ List.length l0))
 (bcase (decide (0 + n9 * 1 ≤ List.length cs1))
 (∃ n10 : Int,
 (∃ n11 : Int,
 (((Says C 14 [(D.agg [(D.sl (n0) 1 (List.take (n0 * 1) (List.drop 0 l0))), (D.val (vI x1))]), (D.val (vI x2)), (D.sl (n9) 1 (List.take (n9 * 1) (List.drop 0 cs1)))] [(D.agg [(D.val (vI n10)), (D.val (vI n11))]), (D.val (Value.bool true))]) ∧
 (((Qv (Value.bool true)) ∧
 ((Qv (Value.agg [(vI n10), (vI n11)].toArray)) ∧
 ((Qv (Value.tuple [(Value.agg [(vI n10), (vI n11)].toArray), (Value.bool true)].toArray)) ∧
 (((Qv (Pt 1005 0)) ∧
 (Qv (some (AObj.cells [(vI 0), (vI 0)] 31 false 2)))) ∧
 True)))) ∧
 (((Qv (Value.bool true)) ∧
 True) ∧
 (True ∧
 (bcase (n8 != 0)
 (bcase (n5 == n8)
 (bcase (n6 == n8)
 (bcase (if Bool.false = Bool.true then !(n3 == 0 && (n4 == 0 && Bool.true)) else n3 == 0 && (n4 == 0 && Bool.true))
 (k [(D.val (Value.bool true))])
 (k [(D.val (Value.bool false))]))
 (k [(D.val (Value.bool false))]))
 (k [(D.val (Value.bool false))]))
 ((((Qv (Pt 1007 0)) ∧
 (Qv (some (AObj.cells [(vI 0), (vI 0)] 31 false 2)))) ∧
 ((Qv (Value.agg [(Sl 500 (n0) (c0)), (vI x1)].toArray)) ∧
 ((Qv (vI x2)) ∧
 ((Qv (Value.agg [(Sl 500 (n0) (c0)), (vI x1)].toArray)) ∧
 True)))) ∧
 (bcase (decide (0 + n0 * 1 ≤ List.length l0))
 (((Says C 15 [(D.agg [(D.sl (n0) 1 (List.take (n0 * 1) (List.drop 0 l0))), (D.val (vI x1))])] [D.nil]) ∧
 ((((Qv (Pt 1007 0)) ∧
 (Qv (some (AObj.cells [(vI 0), (vI 0)] 31 false 2)))) ∧
 ((Qv (vI x2)) ∧
 ((Qv (Value.agg [(Sl 500 (n0) (c0)), (vI x1)].toArray)) ∧
 True))) ∧
 (bcase (decide (0 + n0 * 1 ≤ List.length l0))
 (∃ n12 : Int,
 (∃ n13 : Int,
 (((Says C 14 [(D.agg [(D.sl (n0) 1 (List.take (n0 * 1) (List.drop 0 l0))), (D.val (vI x1))]), (D.val (vI x2)), D.nil] [(D.agg [(D.val (vI n12)), (D.val (vI n13))]), (D.val (Value.bool true))]) ∧
 (((Qv (Value.bool true)) ∧
 ((Qv (Value.agg [(vI n12), (vI n13)].toArray)) ∧
 ((Qv (Value.tuple [(Value.agg [(vI n12), (vI n13)].toArray), (Value.bool true)].toArray)) ∧
 (((Qv (Pt 1007 0)) ∧
 (Qv (some (AObj.cells [(vI 0), (vI 0)] 31 false 2)))) ∧
 True)))) ∧
 (((Qv (Value.bool true)) ∧
 True) ∧
 (True ∧
 (bcase (n5 == 0)
 (bcase (if Bool.false = Bool.true then !(n3 == n12 && (n4 == n13 && Bool.true)) else n3 == n12 && (n4 == n13 && Bool.true))
 (bcase (n6 == 0)
 (bcase (decide (0 + n0 * 1 ≤ List.length l0))
 (((Says C 17 [(D.agg [(D.sl (n0) 1 (List.take (n0 * 1) (List.drop 0 l0))), (D.val (vI x1))]), (D.val (vI x2)), (D.val (vI n12))] [D.nil]) ∧
 (((Says C 16 [D.nil, D.nil] [(D.val (Value.bool true))]) ∧
 (k [(D.val (Value.bool true))])) ∨
 ((Says C 16 [D.nil, D.nil] [(D.val (Value.bool false))]) ∧
 (k [(D.val (Value.bool false))])))) ∨
 (∃ n14 : Nat,
 (∃ cs2 : List Go.Value,
 ((Says C 17 [(D.agg [(D.sl (n0) 1 (List.take (n0 * 1) (List.drop 0 l0))), (D.val (vI x1))]), (D.val (vI x2)), (D.val (vI n12))] [(D.sl (n14) 1 (cs2))]) ∧
 (bcase (decide (0 + n14 * 1 ≤ List.length cs2))
 (((Says C 16 [D.nil, (D.sl (n14) 1 (List.take (n14 * 1) (List.drop 0 cs2)))] [(D.val (Value.bool true))]) ∧
 (k [(D.val (Value.bool true))])) ∨
 ((Says C 16 [D.nil, (D.sl (n14) 1 (List.take (n14 * 1) (List.drop 0 cs2)))] [(D.val (Value.bool false))]) ∧
 (k [(D.val (Value.bool false))])))
 False)))))
 False)
 (k [(D.val (Value.bool false))]))
 (k [(D.val (Value.bool false))]))
 (k [(D.val (Value.bool false))])))))) ∨
 ((Says C 14 [(D.agg [(D.sl (n0) 1 (List.take (n0 * 1) (List.drop 0 l0))), (D.val (vI x1))]), (D.val (vI x2)), D.nil] [(D.agg [(D.val (vI n12)), (D.val (vI n13))]), (D.val (Value.bool false))]) ∧
 (((Qv (Value.bool false)) ∧
 ((Qv (Value.agg [(vI n12), (vI n13)].toArray)) ∧
 ((Qv (Value.tuple [(Value.agg [(vI n12), (vI n13)].toArray), (Value.bool false)].toArray)) ∧
 (((Qv (Pt 1007 0)) ∧
 (Qv (some (AObj.cells [(vI 0), (vI 0)] 31 false 2)))) ∧
 True)))) ∧
 (((Qv (Value.bool false)) ∧
 True) ∧
 (True ∧
 (bcase (n5 == 0)
 (bcase (if Bool.false = Bool.true then !(n3 == n12 && (n4 == n13 && Bool.true)) else n3 == n12 && (n4 == n13 && Bool.true))
 (bcase (n6 == 0)
 (bcase (decide (0 + n0 * 1 ≤ List.length l0))
 (((Says C 17 [(D.agg [(D.sl (n0) 1 (List.take (n0 * 1) (List.drop 0 l0))), (D.val (vI x1))]), (D.val (vI x2)), (D.val (vI n12))] [D.nil]) ∧
 (((Says C 16 [D.nil, D.nil] [(D.val (Value.bool true))]) ∧
 (k [(D.val (Value.bool true))])) ∨
 ((Says C 16 [D.nil, D.nil] [(D.val (Value.bool false))]) ∧
 (k [(D.val (Value.bool false))])))) ∨
 (∃ n14 : Nat,
 (∃ cs2 : List Go.Value,
 ((Says C 17 [(D.agg [(D.sl (n0) 1 (List.take (n0 * 1) (List.drop 0 l0))), (D.val (vI x1))]), (D.val (vI x2)), (D.val (vI n12))] [(D.sl (n14) 1 (cs2))]) ∧
 (bcase (decide (0 + n14 * 1 ≤ List.length cs2))
 (((Says C 16 [D.nil, (D.sl (n14) 1 (List.take (n14 * 1) (List.drop 0 cs2)))] [(D.val (Value.bool true))]) ∧
 (k [(D.val (Value.bool true))])) ∨
 ((Says C 16 [D.nil, (D.sl (n14) 1 (List.take (n14 * 1) (List.drop 0 cs2)))] [(D.val (Value.bool false))]) ∧
 (k [(D.val (Value.bool false))])))
 False)))))
 False)
 (k [(D.val (Value.bool false))]))
 (k [(D.val (Value.bool false))]))
 (k [(D.val (Value.bool false))])))))))))
 False))) ∨
 (∃ n12 : Nat,
 (∃ cs2 : List Go.Value,
 ((Says C 15 [(D.agg [(D.sl (n0) 1 (List.take (n0 * 1) (List.drop 0 l0))), (D.val (vI x1))])] [(D.sl (n12) 1 (cs2))]) ∧
 ((((Qv (Pt 1007 0)) ∧
 (Qv (some (AObj.cells [(vI 0), (vI 0)] 31 false 2)))) ∧
 ((Qv (vI x2)) ∧
 ((Qv (Value.agg [(Sl 500 (n0) (c0)), (vI x1)].toArray)) ∧
 True))) ∧
 (bcase (decide (0 + n0 * 1 ≤ List.length l0))
 (bcase (decide (0 + n12 * 1 ≤ List.length cs2))
 (∃ n13 : Int,
 (∃ n14 : Int,
 (((Says C 14 [(D.agg [(D.sl (n0) 1 (List.take (n0 * 1) (List.drop 0 l0))), (D.val (vI x1))]), (D.val (vI x2)), (D.sl (n12) 1 (List.take (n12 * 1) (List.drop 0 cs2)))] [(D.agg [(D.val (vI n13)), (D.val (vI n14))]), (D.val (Value.bool true))]) ∧
 (((Qv (Value.bool true)) ∧
 ((Qv (Value.agg [(vI n13), (vI n14)].toArray)) ∧
 ((Qv (Value.tuple [(Value.agg [(vI n13), (vI n14)].toArray), (Value.bool true)].toArray)) ∧
 (((Qv (Pt 1007 0)) ∧
 (Qv (some (AObj.cells [(vI 0), (vI 0)] 31 false 2)))) ∧
 True)))) ∧
 (((Qv (Value.bool true)) ∧
 True) ∧
 (True ∧
 (bcase (n5 == 0)
 (bcase (if Bool.false = Bool.true then !(n3 == n13 && (n4 == n14 && Bool.true)) else n3 == n13 && (n4 == n14 && Bool.true))
 (bcase (n6 == 0)
 (bcase (decide (0 + n0 * 1 ≤ List.length l0))
 (((Says C 17 [(D.agg [(D.sl (n0) 1 (List.take (n0 * 1) (List.drop 0 l0))), (D.val (vI x1))]), (D.val (vI x2)), (D.val (vI n13))] [D.nil]) ∧
 (((Says C 16 [D.nil, D.nil] [(D.val (Value.bool true))]) ∧
 (k [(D.val (Value.bool true))])) ∨
 ((Says C 16 [D.nil, D.nil] [(D.val (Value.bool false))]) ∧
 (k [(D.val (Value.bool false))])))) ∨
 (∃ n15 : Nat,
 (∃ cs3 : List Go.Value,
 ((Says C 17 [(D.agg [(D.sl (n0) 1 (List.take (n0 * 1) (List.drop 0 l0))), (D.val (vI x1))]), (D.val (vI x2)), (D.val (vI n13))] [(D.sl (n15) 1 (cs3))]) ∧
 (bcase (decide (0 + n15 * 1 ≤ List.length cs3))
 (((Says C 16 [D.nil, (D.sl (n15) 1 (List.take (n15 * 1) (List.drop 0 cs3)))] [(D.val (Value.bool true))]) ∧
 (k [(D.val (Value.bool true))])) ∨
 ((Says C 16 [D.nil, (D.sl (n15) 1 (List.take (n15 * 1) (List.drop 0 cs3)))] [(D.val (Value.bool false))]) ∧
 (k [(D.val (Value.bool false))])))
 False)))))
 False)
 (k [(D.val (Value.bool false))]))
 (k [(D.val (Value.bool false))]))
 (k [(D.val (Value.bool false))])))))) ∨
 ((Says C 14 [(D.agg [(D.sl (n0) 1 (List.take (n0 * 1) (List.drop 0 l0))), (D.val (vI x1))]), (D.val (vI x2)), (D.sl (n12) 1 (List.take (n12 * 1) (List.drop 0 cs2)))] [(D.agg [(D.val (vI n13)), (D.val (vI n14))]), (D.val (Value.bool false))]) ∧
 (((Qv (Value.bool false)) ∧
 ((Qv (Value.agg [(vI n13), (vI n14)].toArray)) ∧
 ((Qv (Value.tuple [(Value.agg [(vI n13), (vI n14)].toArray), (Value.bool false)].toArray)) ∧
 (((Qv (Pt 1007 0)) ∧
 (Qv (some (AObj.cells [(vI 0), (vI 0)] 31 false 2)))) ∧
 True)))) ∧
 (((Qv (Value.bool false)) ∧
 True) ∧
 (True ∧
 (bcase (n5 == 0)
 (bcase (if Bool.false = Bool.true then !(n3 == n13 && (n4 == n14 && Bool.true)) else n3 == n13 && (n4 == n14 && Bool.true))
 (bcase (n6 == 0)
 (bcase (decide (0 + n0 * 1 ≤ List.length l0))
 (((Says C 17 [(D.agg [(D.sl (n0) 1 (List.take (n0 * 1) (List.drop 0 l0))), (D.val (vI x1))]), (D.val (vI x2)), (D.val (vI n13))] [D.nil]) ∧
 (((Says C 16 [D.nil, D.nil] [(D.val (Value.bool true))]) ∧
 (k [(D.val (Value.bool true))])) ∨
 ((Says C 16 [D.nil, D.nil] [(D.val (Value.bool false))]) ∧
 (k [(D.val (Value.bool false))])))) ∨
 (∃ n15 : Nat,
 (∃ cs3 : List Go.Value,
 ((Says C 17 [(D.agg [(D.sl (n0) 1 (List.take (n0 * 1) (List.drop 0 l0))), (D.val (vI x1))]), (D.val (vI x2)), (D.val (vI n13))] [(D.sl (n15) 1 (cs3))]) ∧
 (bcase (decide (0 + n15 * 1 ≤ List.length cs3))
 (((Says C 16 [D.nil, (D.sl (n15) 1 (List.take (n15 * 1) (List.drop 0 cs3)))] [(D.val (Value.bool true))]) ∧
 (k [(D.val (Value.bool true))])) ∨
 ((Says C 16 [D.nil, (D.sl (n15) 1 (List.take (n15 * 1) (List.drop 0 cs3)))] [(D.val (Value.bool false))]) ∧
 (k [(D.val (Value.bool false))])))
 False)))))
 False)
 (k [(D.val (Value.bool false))]))
 (k [(D.val (Value.bool false))]))
 (k [(D.val (Value.bool false))])))))))))
 False)
 False))))))
 False))))))) ∨
 ((Says C 14 [(D.agg [(D.sl (n0) 1 (List.take (n0 * 1) (List.drop 0 l0))), (D.val (vI x1))]), (D.val (vI x2)), (D.sl (n9) 1 (List.take (n9 * 1) (List.drop 0 cs1)))] [(D.agg [(D.val (vI n10)), (D.val (vI n11))]), (D.val (Value.bool false))]) ∧
 (((Qv (Value.bool false)) ∧
 ((Qv (Value.agg [(vI n10), (vI n11)].toArray)) ∧
 ((Qv (Value.tuple [(Value.agg [(vI n10), (vI n11)].toArray), (Value.bool false)].toArray)) ∧
 (((Qv (Pt 1005 0)) ∧
 (Qv (some (AObj.cells [(vI 0), (vI 0)] 31 false 2)))) ∧
 True)))) ∧
 (((Qv (Value.bool false)) ∧
 True) ∧
 (True ∧
 (bcase (n5 == 12)
 (bcase (n6 == 12)
 (bcase (if Bool.false = Bool.true then !(n3 == 0 && (n4 == 0 && Bool.true)) else n3 == 0 && (n4 == 0 && Bool.true))
 (k [(D.val (Value.bool true))])
 (k [(D.val (Value.bool false))]))
 (k [(D.val (Value.bool false))]))
 (k [(D.val (Value.bool false))])))))))))
 False)
 False))))))
 False))
 (bcase (n8 != 0)
 (bcase (n5 == n8)
 (bcase (n6 == n8)
 (bcase (if Bool.false = Bool.true then !(n3 == 0 && (n4 == 0 && Bool.true)) else n3 == 0 && (n4 == 0 && Bool.true))
 (k [(D.val (Value.bool true))])
 (k [(D.val (Value.bool false))]))
 (k [(D.val (Value.bool false))]))
 (k [(D.val (Value.bool false))]))
 ((((Qv (Pt 1005 0)) ∧
 (Qv (some (AObj.cells [(vI 0), (vI 0)] 31 false 2)))) ∧
 ((Qv (Value.agg [(Sl 500 (n0) (c0)), (vI x1)].toArray)) ∧
 ((Qv (vI x2)) ∧
 ((Qv (Value.agg [(Sl 500 (n0) (c0)), (vI x1)].toArray)) ∧
 True)))) ∧
 (bcase (decide (0 + n0 * 1 ≤ List.length l0))
 (((Says C 15 [(D.agg [(D.sl (n0) 1 (List.take (n0 * 1) (List.drop 0 l0))), (D.val (vI x1))])] [D.nil]) ∧
 ((((Qv (Pt 1005 0)) ∧
 (Qv (some (AObj.cells [(vI 0), (vI 0)] 31 false 2)))) ∧
 ((Qv (vI x2)) ∧
 ((Qv (Value.agg [(Sl 500 (n0) (c0)), (vI x1)].toArray)) ∧
 True))) ∧
 (bcase (decide (0 + n0 * 1 ≤ List.length l0))
 (∃ n9 : Int,
 (∃ n10 : Int,
 (((Says C 14 [(D.agg [(D.sl (n0) 1 (List.take (n0 * 1) (List.drop 0 l0))), (D.val (vI x1))]), (D.val (vI x2)), D.nil] [(D.agg [(D.val (vI n9)), (D.val (vI n10))]), (D.val (Value.bool true))]) ∧
 (((Qv (Value.bool true)) ∧
 ((Qv (Value.agg [(vI n9), (vI n10)].toArray)) ∧
 ((Qv (Value.tuple [(Value.agg [(vI n9), (vI n10)].toArray), (Value.bool true)].toArray)) ∧
 (((Qv (Pt 1005 0)) ∧
 (Qv (some (AObj.cells [(vI 0), (vI 0)] 31 false 2)))) ∧
 True)))) ∧
 (((Qv (Value.bool true)) ∧
 True) ∧
 (True ∧
 (bcase (n5 == 0)
 (bcase (if Bool.false = Bool.true then !(n3 == n9 && (n4 == n10 && Bool.true)) else n3 == n9 && (n4 == n10 && Bool.true))
 (bcase (n6 == 0)
 (bcase (decide (0 + n0 * 1 ≤ List.length l0))
 (((Says C 17 [(D.agg [(D.sl (n0) 1 (List.take (n0 * 1) (List.drop 0 l0))), (D.val (vI x1))]), (D.val (vI x2)), (D.val (vI n9))] [D.nil]) ∧
 (((Says C 16 [D.nil, D.nil] [(D.val (Value.bool true))]) ∧
 (k [(D.val (Value.bool true))])) ∨
 ((Says C 16 [D.nil, D.nil] [(D.val (Value.bool false))]) ∧
 (k [(D.val (Value.bool false))])))) ∨
 (∃ n11 : Nat,
 (∃ cs1 : List Go.Value,
 ((Says C 17 [(D.agg [(D.sl (n0) 1 (List.take (n0 * 1) (List.drop 0 l0))), (D.val (vI x1))]), (D.val (vI x2)), (D.val (vI n9))] [(D.sl (n11) 1 (cs1))]) ∧
 (bcase (decide (0 + n11 * 1 ≤ List.length cs1))
 (((Says C 16 [D.nil, (D.sl (n11) 1 (List.take (n11 * 1) (List.drop 0 cs1)))] [(D.val (Value.bool true))]) ∧
 (k [(D.val (Value.bool true))])) ∨
 ((Says C 16 [D.nil, (D.sl (n11) 1 (List.take (n11 * 1) (List.drop 0 cs1)))] [(D.val (Value.bool false))]) ∧
 (k [(D.val (Value.bool false))])))
 False)))))
 False)
 (k [(D.val (Value.bool false))]))
 (k [(D.val (Value.bool false))]))
 (k [(D.val (Value.bool false))])))))) ∨
 ((Says C 14 [(D.agg [(D.sl (n0) 1 (List.take (n0 * 1) (List.drop 0 l0))), (D.val (vI x1))]), (D.val (vI x2)), D.nil] [(D.agg [(D.val (vI n9)), (D.val (vI n10))]), (D.val (Value.bool false))]) ∧
 (((Qv (Value.bool false)) ∧
 ((Qv (Value.agg [(vI n9), (vI n10)].toArray)) ∧
 ((Qv (Value.tuple [(Value.agg [(vI n9), (vI n10)].toArray), (Value.bool false)].toArray)) ∧
 (((Qv (Pt 1005 0)) ∧
 (Qv (some (AObj.cells [(vI 0), (vI 0)] 31 false 2)))) ∧
 True)))) ∧
 (((Qv (Value.bool false)) ∧
 True) ∧
 (True ∧
 (bcase (n5 == 0)
 (bcase (if Bool.false = Bool.true then !(n3 == n9 && (n4 == n10 && Bool.true)) else n3 == n9 && (n4 == n10 && Bool.true))
 (bcase (n6 == 0)
 (bcase (decide (0 + n0 * 1 ≤ List.length l0))
 (((Says C 17 [(D.agg [(D.sl (n0) 1 (List.take (n0 * 1) (List.drop 0 l0))), (D.val (vI x1))]), (D.val (vI x2)), (D.val (vI n9))] [D.nil]) ∧
 (((Says C 16 [D.nil, D.nil] [(D.val (Value.bool true))]) ∧
 (k [(D.val (Value.bool true))])) ∨
 ((Says C 16 [D.nil, D.nil] [(D.val (Value.bool false))]) ∧
 (k [(D.val (Value.bool false))])))) ∨
 (∃ n11 : Nat,
 (∃ cs1 : List Go.Value,
 ((Says C 17 [(D.agg [(D.sl (n0) 1 (List.take (n0 * 1) (List.drop 0 l0))), (D.val (vI x1))]), (D.val (vI x2)), (D.val (vI n9))] [(D.sl (n11) 1 (cs1))]) ∧
 (bcase (decide (0 + n11 * 1 ≤ List.length cs1))
 (((Says C 16 [D.nil, (D.sl (n11) 1 (List.take (n11 * 1) (List.drop 0 cs1)))] [(D.val (Value.bool true))]) ∧
 (k [(D.val (Value.bool true))])) ∨
 ((Says C 16 [D.nil, (D.sl (n11) 1 (List.take (n11 * 1) (List.drop 0 cs1)))] [(D.val (Value.bool false))]) ∧
 (k [(D.val (Value.bool false))])))
 False)))))
 False)
 (k [(D.val (Value.bool false))]))
 (k [(D.val (Value.bool false))]))
 (k [(D.val (Value.bool false))])))))))))
 False))) ∨
 (∃ n9 : Nat,
 (∃ cs1 : List Go.Value,
 ((Says C 15 [(D.agg [(D.sl (n0) 1 (List.take (n0 * 1) (List.drop 0 l0))), (D.val (vI x1))])] [(D.sl (n9) 1 (cs1))]) ∧
 ((((Qv (Pt 1005 0)) ∧
 (Qv (some (AObj.cells [(vI 0), (vI 0)] 31 false 2)))) ∧
 ((Qv (vI x2)) ∧
 ((Qv (Value.agg [(Sl 500 (n0) (c0)), (vI x1)].toArray)) ∧
 True))) ∧
 (bcase (decide (0 + n0 * 1 ≤ List.length l0))
 (bcase (decide (0 + n9 * 1 ≤ List.length cs1))
 (∃ n10 : Int,
 (∃ n11 : Int,
 (((Says C 14 [(D.agg [(D.sl (n0) 1 (List.take (n0 * 1) (List.drop 0 l0))), (D.val (vI x1))]), (D.val (vI x2)), (D.sl (n9) 1 (List.take (n9 * 1) (List.drop 0 cs1)))] [(D.agg [(D.val (vI n10)), (D.val (vI n11))]), (D.val (Value.bool true))]) ∧
 (((Qv (Value.bool true)) ∧
 ((Qv (Value.agg [(vI n10), (vI n11)].toArray)) ∧
 ((Qv (Value.tuple [(Value.agg [(vI n10), (vI n11)].toArray), (Value.bool true)].toArray)) ∧
 (((Qv (Pt 1005 0)) ∧
 (Qv (some (AObj.cells [(vI 0), (vI 0)] 31 false 2)))) ∧
 True)))) ∧
 (((Qv (Value.bool true)) ∧
 True) ∧
 (True ∧
 (bcase (n5 == 0)
 (bcase (if Bool.false = Bool.true then !(n3 == n10 && (n4 == n11 && Bool.true)) else n3 == n10 && (n4 == n11 && Bool.true))
 (bcase (n6 == 0)
 (bcase (decide (0 + n0 * 1 ≤ List.length l0))
 (((Says C 17 [(D.agg [(D.sl (n0) 1 (List.take (n0 * 1) (List.drop 0 l0))), (D.val (vI x1))]), (D.val (vI x2)), (D.val (vI n10))] [D.nil]) ∧
 (((Says C 16 [D.nil, D.nil] [(D.val (Value.bool true))]) ∧
 (k [(D.val (Value.bool true))])) ∨
 ((Says C 16 [D.nil, D.nil] [(D.val (Value.bool false))]) ∧
 (k [(D.val (Value.bool false))])))) ∨
 (∃ n12 : Nat,
 (∃ cs2 : List Go.Value,
 ((Says C 17 [(D.agg [(D.sl (n0) 1 (List.take (n0 * 1) (List.drop 0 l0))), (D.val (vI x1))]), (D.val (vI x2)), (D.val (vI n10))] [(D.sl (n12) 1 (cs2))]) ∧
 (bcase (decide (0 + n12 * 1 ≤ List.length cs2))
 (((Says C 16 [D.nil, (D.sl (n12) 1 (List.take (n12 * 1) (List.drop 0 cs2)))] [(D.val (Value.bool true))]) ∧
 (k [(D.val (Value.bool true))])) ∨
 ((Says C 16 [D.nil, (D.sl (n12) 1 (List.take (n12 * 1) (List.drop 0 cs2)))] [(D.val (Value.bool false))]) ∧
 (k [(D.val (Value.bool false))])))
 False)))))
 False)
 (k [(D.val (Value.bool false))]))
 (k [(D.val (Value.bool false))]))
 (k [(D.val (Value.bool false))])))))) ∨
 ((Says C 14 [(D.agg [(D.sl (n0) 1 (List.take (n0 * 1) (List.drop 0 l0))), (D.val (vI x1))]), (D.val (vI x2)), (D.sl (n9) 1 (List.take (n9 * 1) (List.drop 0 cs1)))] [(D.agg [(D.val (vI n10)), (D.val (vI n11))]), (D.val (Value.bool false))]) ∧
 (((Qv (Value.bool false)) ∧
 ((Qv (Value.agg [(vI n10), (vI n11)].toArray)) ∧
 ((Qv (Value.tuple [(Value.agg [(vI n10), (vI n11)].toArray), (Value.bool false)].toArray)) ∧
 (((Qv (Pt 1005 0)) ∧
 (Qv (some (AObj.cells [(vI 0), (vI 0)] 31 false 2)))) ∧
 True)))) ∧
 (((Qv (Value.bool false)) ∧
 True) ∧
 (True ∧
 (bcase (n5 == 0)
 (bcase (if Bool.false = Bool.true then !(n3 == n10 && (n4 == n11 && Bool.true)) else n3 == n10 && (n4 == n11 && Bool.true))
 (bcase (n6 == 0)
 (bcase (decide (0 + n0 * 1 ≤ List.length l0))
 (((Says C 17 [(D.agg [(D.sl (n0) 1 (List.take (n0 * 1) (List.drop 0 l0))), (D.val (vI x1))]), (D.val (vI x2)), (D.val (vI n10))] [D.nil]) ∧
 (((Says C 16 [D.nil, D.nil] [(D.val (Value.bool true))]) ∧
 (k [(D.val (Value.bool true))])) ∨
 ((Says C 16 [D.nil, D.nil] [(D.val (Value.bool false))]) ∧
 (k [(D.val (Value.bool false))])))) ∨
 (∃ n12 : Nat,
 (∃ cs2 : List Go.Value,
 ((Says C 17 [(D.agg [(D.sl (n0) 1 (List.take (n0 * 1) (List.drop 0 l0))), (D.val (vI x1))]), (D.val (vI x2)), (D.val (vI n10))] [(D.sl (n12) 1 (cs2))]) ∧
 (bcase (decide (0 + n12 * 1 ≤ List.length cs2))
 (((Says C 16 [D.nil, (D.sl (n12) 1 (List.take (n12 * 1) (List.drop 0 cs2)))] [(D.val (Value.bool true))]) ∧
 (k [(D.val (Value.bool true))])) ∨
 ((Says C 16 [D.nil, (D.sl (n12) 1 (List.take (n12 * 1) (List.drop 0 cs2)))] [(D.val (Value.bool false))]) ∧
 (k [(D.val (Value.bool false))])))
 False)))))
 False)
 (k [(D.val (Value.bool false))]))
 (k [(D.val (Value.bool false))]))
 (k [(D.val (Value.bool false))])))))))))
 False)
 False))))))
 False))))
 (bcase (n8 != 0)
 (bcase (n5 == n8)
 (bcase (n6 == n8)
 (bcase (if Bool.false = Bool.true then !(n3 == 0 && (n4 == 0 && Bool.true)) else n3 == 0 && (n4 == 0 && Bool.true))
 (k [(D.val (Value.bool true))])
 (k [(D.val (Value.bool false))]))
 (k [(D.val (Value.bool false))]))
 (k [(D.val (Value.bool false))]))
 ((((Qv (Pt 1005 0)) ∧
 (Qv (some (AObj.cells [(vI 0), (vI 0)] 31 false 2)))) ∧
 ((Qv (Value.agg [(Sl 500 (n0) (c0)), (vI x1)].toArray)) ∧
 ((Qv (vI x2)) ∧
 ((Qv (Value.agg [(Sl 500 (n0) (c0)), (vI x1)].toArray)) ∧
 True)))) ∧
 (bcase (decide (0 + n0 * 1 ≤ List.length l0))
 (((Says C 15 [(D.agg [(D.sl (n0) 1 (List.take (n0 * 1) (List.drop 0 l0))), (D.val (vI x1))])] [D.nil]) ∧
 ((((Qv (Pt 1005 0)) ∧
 (Qv (some (AObj.cells [(vI 0), (vI 0)] 31 false 2)))) ∧
 ((Qv (vI x2)) ∧
 ((Qv (Value.agg [(Sl 500 (n0) (c0)), (vI x1)].toArray)) ∧
 True))) ∧
 (bcase (decide (0 + n0 * 1 ≤ List.length l0))
 (∃ n9 : Int,
 (∃ n10 : Int,
 (((Says C 14 [(D.agg [(D.sl (n0) 1 (List.take (n0 * 1) (List.drop 0 l0))), (D.val (vI x1))]), (D.val (vI x2)), D.nil] [(D.agg [(D.val (vI n9)), (D.val (vI n10))]), (D.val (Value.bool true))]) ∧
 (((Qv (Value.bool true)) ∧
 ((Qv (Value.agg [(vI n9), (vI n10)].toArray)) ∧
 ((Qv (Value.tuple [(Value.agg [(vI n9), (vI n10)].toArray), (Value.bool true)].toArray)) ∧
 (((Qv (Pt 1005 0)) ∧
 (Qv (some (AObj.cells [(vI 0), (vI 0)] 31 false 2)))) ∧
 True)))) ∧
 (((Qv (Value.bool true)) ∧
 True) ∧
 (True ∧
 (bcase (n5 == 0)
 (bcase (if Bool.false = Bool.true then !(n3 == n9 && (n4 == n10 && Bool.true)) else n3 == n9 && (n4 == n10 && Bool.true))
 (bcase (n6 == 0)
 (bcase (decide (0 + n0 * 1 ≤ List.length l0))
 (((Says C 17 [(D.agg [(D.sl (n0) 1 (List.take (n0 * 1) (List.drop 0 l0))), (D.val (vI x1))]), (D.val (vI x2)), (D.val (vI n9))] [D.nil]) ∧
 (((Says C 16 [D.nil, D.nil] [(D.val (Value.bool true))]) ∧
 (k [(D.val (Value.bool true))])) ∨
 ((Says C 16 [D.nil, D.nil] [(D.val (Value.bool false))]) ∧
 (k [(D.val (Value.bool false))])))) ∨
 (∃ n11 : Nat,
 (∃ cs1 : List Go.Value,
 ((Says C 17 [(D.agg [(D.sl (n0) 1 (List.take (n0 * 1) (List.drop 0 l0))), (D.val (vI x1))]), (D.val (vI x2)), (D.val (vI n9))] [(D.sl (n11) 1 (cs1))]) ∧
 (bcase (decide (0 + n11 * 1 ≤ List.length cs1))
 (((Says C 16 [D.nil, (D.sl (n11) 1 (List.take (n11 * 1) (List.drop 0 cs1)))] [(D.val (Value.bool true))]) ∧
 (k [(D.val (Value.bool true))])) ∨
 ((Says C 16 [D.nil, (D.sl (n11) 1 (List.take (n11 * 1) (List.drop 0 cs1)))] [(D.val (Value.bool false))]) ∧
 (k [(D.val (Value.bool false))])))
 False)))))
 False)
 (k [(D.val (Value.bool false))]))
 (k [(D.val (Value.bool false))]))
 (k [(D.val (Value.bool false))])))))) ∨
 ((Says C 14 [(D.agg [(D.sl (n0) 1 (List.take (n0 * 1) (List.drop 0 l0))), (D.val (vI x1))]), (D.val (vI x2)), D.nil] [(D.agg [(D.val (vI n9)), (D.val (vI n10))]), (D.val (Value.bool false))]) ∧
 (((Qv (Value.bool false)) ∧
 ((Qv (Value.agg [(vI n9), (vI n10)].toArray)) ∧
 ((Qv (Value.tuple [(Value.agg [(vI n9), (vI n10)].toArray), (Value.bool false)].toArray)) ∧
 (((Qv (Pt 1005 0)) ∧
 (Qv (some (AObj.cells [(vI 0), (vI 0)] 31 false 2)))) ∧
 True)))) ∧
 (((Qv (Value.bool false)) ∧
 True) ∧
 (True ∧
 (bcase (n5 == 0)
 (bcase (if Bool.false = Bool.true then !(n3 == n9 && (n4 == n10 && Bool.true)) else n3 == n9 && (n4 == n10 && Bool.true))
 (bcase (n6 == 0)
 (bcase (decide (0 + n0 * 1 ≤ List.length l0))
 (((Says C 17 [(D.agg [(D.sl (n0) 1 (List.take (n0 * 1) (List.drop 0 l0))), (D.val (vI x1))]), (D.val (vI x2)), (D.val (vI n9))] [D.nil]) ∧
 (((Says C 16 [D.nil, D.nil] [(D.val (Value.bool true))]) ∧
 (k [(D.val (Value.bool true))])) ∨
 ((Says C 16 [D.nil, D.nil] [(D.val (Value.bool false))]) ∧
 (k [(D.val (Value.bool false))])))) ∨
 (∃ n11 : Nat,
 (∃ cs1 : List Go.Value,
 ((Says C 17 [(D.agg [(D.sl (n0) 1 (List.take (n0 * 1) (List.drop 0 l0))), (D.val (vI x1))]), (D.val (vI x2)), (D.val (vI n9))] [(D.sl (n11) 1 (cs1))]) ∧
 (bcase (decide (0 + n11 * 1 ≤ List.length cs1))
 (((Says C 16 [D.nil, (D.sl (n11) 1 (List.take (n11 * 1) (List.drop 0 cs1)))] [(D.val (Value.bool true))]) ∧
 (k [(D.val (Value.bool true))])) ∨
 ((Says C 16 [D.nil, (D.sl (n11) 1 (List.take (n11 * 1) (List.drop 0 cs1)))] [(D.val (Value.bool false))]) ∧
 (k [(D.val (Value.bool false))])))
 False)))))
 False)
 (k [(D.val (Value.bool false))]))
 (k [(D.val (Value.bool false))]))
 (k [(D.val (Value.bool false))])))))))))
 False))) ∨
 (∃ n9 : Nat,
 (∃ cs1 : List Go.Value,
 ((Says C 15 [(D.agg [(D.sl (n0) 1 (List.take (n0 * 1) (List.drop 0 l0))), (D.val (vI x1))])] [(D.sl (n9) 1 (cs1))]) ∧
 ((((Qv (Pt 1005 0)) ∧
 (Qv (some (AObj.cells [(vI 0), (vI 0)] 31 false 2)))) ∧
 ((Qv (vI x2)) ∧
 ((Qv (Value.agg [(Sl 500 (n0) (c0)), (vI x1)].toArray)) ∧
 True))) ∧
 (bcase (decide (0 + n0 * 1 ≤ List.length l0))
 (bcase (decide (0 + n9 * 1 ≤ List.length cs1))
 (∃ n10 : Int,
 (∃ n11 : Int,
 (((Says C 14 [(D.agg [(D.sl (n0) 1 (List.take (n0 * 1) (List.drop 0 l0))), (D.val (vI x1))]), (D.val (vI x2)), (D.sl (n9) 1 (List.take (n9 * 1) (List.drop 0 cs1)))] [(D.agg [(D.val (vI n10)), (D.val (vI n11))]), (D.val (Value.bool true))]) ∧
 (((Qv (Value.bool true)) ∧
 ((Qv (Value.agg [(vI n10), (vI n11)].toArray)) ∧
 ((Qv (Value.tuple [(Value.agg [(vI n10), (vI n11)].toArray), (Value.bool true)].toArray)) ∧
 (((Qv (Pt 1005 0)) ∧
 (Qv (some (AObj.cells [(vI 0), (vI 0)] 31 false 2)))) ∧
 True)))) ∧
 (((Qv (Value.bool true)) ∧
 True) ∧
 (True ∧
 (bcase (n5 == 0)
 (bcase (if Bool.false = Bool.true then !(n3 == n10 && (n4 == n11 && Bool.true)) else n3 == n10 && (n4 == n11 && Bool.true))
 (bcase (n6 == 0)
 (bcase (decide (0 + n0 * 1 ≤ List.length l0))
 (((Says C 17 [(D.agg [(D.sl (n0) 1 (List.take (n0 * 1) (List.drop 0 l0))), (D.val (vI x1))]), (D.val (vI x2)), (D.val (vI n10))] [D.nil]) ∧
 (((Says C 16 [D.nil, D.nil] [(D.val (Value.bool true))]) ∧
 (k [(D.val (Value.bool true))])) ∨
 ((Says C 16 [D.nil, D.nil] [(D.val (Value.bool false))]) ∧
 (k [(D.val (Value.bool false))])))) ∨
 (∃ n12 : Nat,
 (∃ cs2 : List Go.Value,
 ((Says C 17 [(D.agg [(D.sl (n0) 1 (List.take (n0 * 1) (List.drop 0 l0))), (D.val (vI x1))]), (D.val (vI x2)), (D.val (vI n10))] [(D.sl (n12) 1 (cs2))]) ∧
 (bcase (decide (0 + n12 * 1 ≤ List.length cs2))
 (((Says C 16 [D.nil, (D.sl (n12) 1 (List.take (n12 * 1) (List.drop 0 cs2)))] [(D.val (Value.bool true))]) ∧
 (k [(D.val (Value.bool true))])) ∨
 ((Says C 16 [D.nil, (D.sl (n12) 1 (List.take (n12 * 1) (List.drop 0 cs2)))] [(D.val (Value.bool false))]) ∧
 (k [(D.val (Value.bool false))])))
 False)))))
 False)
 (k [(D.val (Value.bool false))]))
 (k [(D.val (Value.bool false))]))
 (k [(D.val (Value.bool false))])))))) ∨
 ((Says C 14 [(D.agg [(D.sl (n0) 1 (List.take (n0 * 1) (List.drop 0 l0))), (D.val (vI x1))]), (D.val (vI x2)), (D.sl (n9) 1 (List.take (n9 * 1) (List.drop 0 cs1)))] [(D.agg [(D.val (vI n10)), (D.val (vI n11))]), (D.val (Value.bool false))]) ∧
 (((Qv (Value.bool false)) ∧
 ((Qv (Value.agg [(vI n10), (vI n11)].toArray)) ∧
 ((Qv (Value.tuple [(Value.agg [(vI n10), (vI n11)].toArray), (Value.bool false)].toArray)) ∧
 (((Qv (Pt 1005 0)) ∧
 (Qv (some (AObj.cells [(vI 0), (vI 0)] 31 false 2)))) ∧
 True)))) ∧
 (((Qv (Value.bool false)) ∧
 True) ∧
 (True ∧
 (bcase (n5 == 0)
 (bcase (if Bool.false = Bool.true then !(n3 == n10 && (n4 == n11 && Bool.true)) else n3 == n10 && (n4 == n11 && Bool.true))
 (bcase (n6 == 0)
 (bcase (decide (0 + n0 * 1 ≤ List.length l0))
 (((Says C 17 [(D.agg [(D.sl (n0) 1 (List.take (n0 * 1) (List.drop 0 l0))), (D.val (vI x1))]), (D.val (vI x2)), (D.val (vI n10))] [D.nil]) ∧
 (((Says C 16 [D.nil, D.nil] [(D.val (Value.bool true))]) ∧
 (k [(D.val (Value.bool true))])) ∨
 ((Says C 16 [D.nil, D.nil] [(D.val (Value.bool false))]) ∧
 (k [(D.val (Value.bool false))])))) ∨
 (∃ n12 : Nat,
 (∃ cs2 : List Go.Value,
 ((Says C 17 [(D.agg [(D.sl (n0) 1 (List.take (n0 * 1) (List.drop 0 l0))), (D.val (vI x1))]), (D.val (vI x2)), (D.val (vI n10))] [(D.sl (n12) 1 (cs2))]) ∧
 (bcase (decide (0 + n12 * 1 ≤ List.length cs2))
 (((Says C 16 [D.nil, (D.sl (n12) 1 (List.take (n12 * 1) (List.drop 0 cs2)))] [(D.val (Value.bool true))]) ∧
 (k [(D.val (Value.bool true))])) ∨
 ((Says C 16 [D.nil, (D.sl (n12) 1 (List.take (n12 * 1) (List.drop 0 cs2)))] [(D.val (Value.bool false))]) ∧
 (k [(D.val (Value.bool false))])))
 False)))))
 False)
 (k [(D.val (Value.bool false))]))
 (k [(D.val (Value.bool false))]))
 (k [(D.val (Value.bool false))])))))))))
 False)
 False))))))
 False))))))))))
 False))) ∨
 (∃ n6 : Nat,
 (∃ cs1 : List Go.Value,
 (∃ n7 : Int,
 ((Says C 11 [(D.agg [(D.sl (n0) 1 (List.take (n0 * 1) (List.drop 0 (List.take (n0 * 1) (List.drop 0 l0))))), (D.val (vI x1))]), (D.val (vI x2))] [(D.sl (n6) 1 (cs1)), (D.val (vI n7))]) ∧
 (bcase (decide (0 + n0 * 1 ≤ List.length l0))
 (∃ n8 : Int,
 (∃ n9 : Int,
 ((Says C 12 [(D.agg [(D.sl (n0) 1 (List.take (n0 * 1) (List.drop 0 l0))), (D.val (vI x1))])] [(D.val (vI n8)), (D.val (vI n9))]) ∧
 (bcase (n2 != n9)
 (k [(D.val (Value.bool false))])
 (bcase (n1 != n8)
 (k [(D.val (Value.bool false))])
 (bcase (n9 == 0)
 (bcase (decide (0 + n0 * 1 ≤ List.length l0))
 (∃ n10 : Int,
 ((Says C 13 [(D.agg [(D.sl (n0) 1 (List.take (n0 * 1) (List.drop 0 l0))), (D.val (vI x1))]), (D.val (vI x2))] [(D.val (vI n10))]) ∧
 (bcase (n10 == 0)
 (bcase (decide ((↑n0 : Int) > 0))
 ((((Qv (Pt 1006 0)) ∧
 (Qv (some (AObj.cells [(vI 0), (vI 0)] 31 false 2)))) ∧
 ((Qv (Value.agg [(Sl 500 (n0) (c0)), (vI x1)].toArray)) ∧
 ((Qv (vI x2)) ∧
 ((Qv (Value.agg [(Sl 500 (n0) (c0)), (vI x1)].toArray)) ∧
 True)))) ∧
 (bcase (decide (0 + n0 * 1 ≤ List.length l0))
 (((Says C 15 [(D.agg [(D.sl (n0) 1 (List.take (n0 * 1) (List.drop 0 l0))), (D.val (vI x1))])] [D.nil]) ∧
 ((((Qv (Pt 1006 0)) ∧
 (Qv (some (AObj.cells [(vI 0), (vI 0)] 31 false 2)))) ∧
 ((Qv (vI x2)) ∧
 ((Qv (Value.agg [(Sl 500 (n0) (c0)), (vI x1)].toArray)) ∧
 True))) ∧
 (bcase (decide (0 + n0 * 1 ≤ List.length l0))
 (∃ n11 : Int,
 (∃ n12 : Int,
 (((Says C 14 [(D.agg [(D.sl (n0) 1 (List.take (n0 * 1) (List.drop 0 l0))), (D.val (vI x1))]), (D.val (vI x2)), D.nil] [(D.agg [(D.val (vI n11)), (D.val (vI n12))]), (D.val (Value.bool true))]) ∧
 (((Qv (Value.bool true)) ∧
 ((Qv (Value.agg [(vI n11), (vI n12)].toArray)) ∧
 ((Qv (Value.tuple [(Value.agg [(vI n11), (vI n12)].toArray), (Value.bool true)].toArray)) ∧
 (((Qv (Pt 1006 0)) ∧
 (Qv (some (AObj.cells [(vI 0), (vI 0)] 31 false 2)))) ∧
 True)))) ∧
 (((Qv (Value.bool true)) ∧
 True) ∧
 (True ∧
 (bcase (n10 != 0)
 (bcase (n5 == n10)
 (bcase (n7 == n10)
 (bcase (if Bool.false = Bool.true then !(n3 == 0 && (n4 == 0 && Bool.true)) else n3 == 0 && (n4 == 0 && Bool.true))
 (bcase ((↑n6 : Int) == 0)
 (k [(D.val (Value.bool true))])
 (k [(D.val (Value.bool false))]))
 (k [(D.val (Value.bool false))]))
 (k [(D.val (Value.bool false))]))
 (k [(D.val (Value.bool false))]))
 ((((Qv (Pt 1007 0)) ∧
 (Qv (some (AObj.cells [(vI 0), (vI 0)] 31 false 2)))) ∧
 ((Qv (Value.agg [(Sl 500 (n0) (c0)), (vI x1)].toArray)) ∧
 ((Qv (vI x2)) ∧
 ((Qv (Value.agg [(Sl 500 (n0) (c0)), (vI x1)].toArray)) ∧
 True)))) ∧
 (bcase (decide (0 + n0 * 1 ≤ List.length l0))
 (((Says C 15 [(D.agg [(D.sl (n0) 1 (List.take (n0 * 1) (List.drop 0 l0))), (D.val (vI x1))])] [D.nil]) ∧
 ((((Qv (Pt 1007 0)) ∧
 (Qv (some (AObj.cells [(vI 0), (vI 0)] 31 false 2)))) ∧
 ((Qv (vI x2)) ∧
 ((Qv (Value.agg [(Sl 500 (n0) (c0)), (vI x1)].toArray)) ∧
 True))) ∧
 (bcase (decide (0 + n0 * 1 ≤ List.length l0))
 (∃ n13 : Int,
 (∃ n14 : Int,
 (((Says C 14 [(D.agg [(D.sl (n0) 1 (List.take (n0 * 1) (List.drop 0 l0))), (D.val (vI x1))]), (D.val (vI x2)), D.nil] [(D.agg [(D.val (vI n13)), (D.val (vI n14))]), (D.val (Value.bool true))]) ∧
 (((Qv (Value.bool true)) ∧
 ((Qv (Value.agg [(vI n13), (vI n14)].toArray)) ∧
 ((Qv (Value.tuple [(Value.agg [(vI n13), (vI n14)].toArray), (Value.bool true)].toArray)) ∧
 (((Qv (Pt 1007 0)) ∧
 (Qv (some (AObj.cells [(vI 0), (vI 0)] 31 false 2)))) ∧
 True)))) ∧
 (((Qv (Value.bool true)) ∧
 True) ∧
 (True ∧
 (bcase (n5 == 0)
 (bcase (if Bool.false = Bool.true then !(n3 == n13 && (n4 == n14 && Bool.true)) else n3 == n13 && (n4 == n14 && Bool.true))
 (bcase (n7 == 0)
 (bcase (decide (0 + n0 * 1 ≤ List.length l0))
 (((Says C 17 [(D.agg [(D.sl (n0) 1 (List.take (n0 * 1) (List.drop 0 l0))), (D.val (vI x1))]), (D.val (vI x2)), (D.val (vI n13))] [D.nil]) ∧
 (bcase (decide (0 + n6 * 1 ≤ List.length cs1))
 (((Says C 16 [(D.sl (n6) 1 (List.take (n6 * 1) (List.drop 0 cs1))), D.nil] [(D.val (Value.bool true))]) ∧
 (k [(D.val (Value.bool true))])) ∨
 ((Says C 16 [(D.sl (n6) 1 (List.take (n6 * 1) (List.drop 0 cs1))), D.nil] [(D.val (Value.bool false))]) ∧
 (k [(D.val (Value.bool false))])))
 False)) ∨
 (∃ n15 : Nat,
 (∃ cs2 : List Go.Value,
 ((Says C 17 [(D.agg [(D.sl (n0) 1 (List.take (n0 * 1) (List.drop 0 l0))), (D.val (vI x1))]), (D.val (vI x2)), (D.val (vI n13))] [(D.sl (n15) 1 (cs2))]) ∧
 (bcase (decide (0 + n6 * 1 ≤ List.length cs1))
 (bcase (decide (0 + n15 * 1 ≤ List.length cs2))
 (((Says C 16 [(D.sl (n6) 1 (List.take (n6 * 1) (List.drop 0 cs1))), (D.sl (n15) 1 (List.take (n15 * 1) (List.drop 0 cs2)))] [(D.val (Value.bool true))]) ∧
 (k [(D.val (Value.bool true))])) ∨
 ((Says C 16 [(D.sl (n6) 1 (List.take (n6 * 1) (List.drop 0 cs1))), (D.sl (n15) 1 (List.take (n15 * 1) (List.drop 0 cs2)))] [(D.val (Value.bool false))]) ∧
 (k [(D.val (Value.bool false))])))
 False)
 False)))))
 False)
 (k [(D.val (Value.bool false))]))
 (k [(D.val (Value.bool false))]))
 (k [(D.val (Value.bool false))])))))) ∨
 ((Says C 14 [(D.agg [(D.sl (n0) 1 (List.take (n0 * 1) (List.drop 0 l0))), (D.val (vI x1))]), (D.val (vI x2)), D.nil] [(D.agg [(D.val (vI n13)), (D.val (vI n14))]), (D.val (Value.bool false))]) ∧
 (((Qv (Value.bool false)) ∧
 ((Qv (Value.agg [(vI n13), (vI n14)].toArray)) ∧
 ((Qv (Value.tuple [(Value.agg [(vI n13), (vI n14)].toArray), (Value.bool false)].toArray)) ∧
 (((Qv (Pt 1007 0)) ∧
 (Qv (some (AObj.cells [(vI 0), (vI 0)] 31 false 2)))) ∧
 True)))) ∧
 (((Qv (Value.bool false)) ∧
 True) ∧
 (True ∧
 (bcase (n5 == 0)
 (bcase (if Bool.false = Bool.true then !(n3 == n13 && (n4 == n14 && Bool.true)) else n3 == n13 && (n4 == n14 && Bool.true))
 (bcase (n7 == 0)
 (bcase (decide (0 + n0 * 1 ≤ List.length l0))
 (((Says C 17 [(D.agg [(D.sl (n0) 1 (List.take (n0 * 1) (List.drop 0 l0))), (D.val (vI x1))]), (D.val (vI x2)), (D.val (vI n13))] [D.nil]) ∧
 (bcase (decide (0 + n6 * 1 ≤ List.length cs1))
 (((Says C 16 [(D.sl (n6) 1 (List.take (n6 * 1) (List.drop 0 cs1))), D.nil] [(D.val (Value.bool true))]) ∧
 (k [(D.val (Value.bool true))])) ∨
 ((Says C 16 [(D.sl (n6) 1 (List.take (n6 * 1) (List.drop 0 cs1))), D.nil] [(D.val (Value.bool false))]) ∧
 (k [(D.val (Value.bool false))])))
 False)) ∨
 (∃ n15 : Nat,
 (∃ cs2 : List Go.Value,
 ((Says C 17 [(D.agg [(D.sl (n0) 1 (List.take (n0 * 1) (List.drop 0 l0))), (D.val (vI x1))]), (D.val (vI x2)), (D.val (vI n13))] [(D.sl (n15) 1 (cs2))]) ∧
 (bcase (decide (0 + n6 * 1 ≤ List.length cs1))
 (bcase (decide (0 + n15 * 1 ≤ List.length cs2))
 (((Says C 16 [(D.sl (n6) 1 (List.take (n6 * 1) (List.drop 0 cs1))), (D.sl (n15) 1 (List.take (n15 * 1) (List.drop 0 cs2)))] [(D.val (Value.bool true))]) ∧
 (k [(D.val (Value.bool true))])) ∨
 ((Says C 16 [(D.sl (n6) 1 (List.take (n6 * 1) (List.drop 0 cs1))), (D.sl (n15) 1 (List.take (n15 * 1) (List.drop 0 cs2)))] [(D.val (Value.bool false))]) ∧
 (k [(D.val (Value.bool false))])))
 False)
 False)))))
 False)
 (k [(D.val (Value.bool false))]))
 (k [(D.val (Value.bool false))]))
 (k [(D.val (Value.bool false))])))))))))
 False))) ∨
 (∃ n13 : Nat,
 (∃ cs2 : List Go.Value,
 ((Says C 15 [(D.agg [(D.sl (n0) 1 (List.take (n0 * 1) (List.drop 0 l0))), (D.val (vI x1))])] [(D.sl (n13) 1 (cs2))]) ∧
 ((((Qv (Pt 1007 0)) ∧
 (Qv (some (AObj.cells [(vI 0), (vI 0)] 31 false 2)))) ∧
 ((Qv (vI x2)) ∧
 ((Qv (Value.agg [(Sl 500 (n0) (c0)), (vI x1)].toArray)) ∧
 True))) ∧
 (bcase (decide (0 + n0 * 1 ≤ List.length l0))
 (bcase (decide (0 + n13 * 1 ≤ List.length cs2))
 (∃ n14 : Int,
 (∃ n15 : Int,
 (((Says C 14 [(D.agg [(D.sl (n0) 1 (List.take (n0 * 1) (List.drop 0 l0))), (D.val (vI x1))]), (D.val (vI x2)), (D.sl (n13) 1 (List.take (n13 * 1) (List.drop 0 cs2)))] [(D.agg [(D.val (vI n14)), (D.val (vI n15))]), (D.val (Value.bool true))]) ∧
 (((Qv (Value.bool true)) ∧
 ((Qv (Value.agg [(vI n14), (vI n15)].toArray)) ∧
 ((Qv (Value.tuple [(Value.agg [(vI n14), (vI n15)].toArray), (Value.bool true)].toArray)) ∧
 (((Qv (Pt 1007 0)) ∧
 (Qv (some (AObj.cells [(vI 0), (vI 0)] 31 false 2)))) ∧
 True)))) ∧
 (((Qv (Value.bool true)) ∧
 True) ∧
 (True ∧
 (bcase (n5 == 0)
 (bcase (if Bool.false = Bool.true then !(n3 == n14 && (n4 == n15 && Bool.true)) else n3 == n14 && (n4 == n15 && Bool.true))
 (bcase (n7 == 0)
 (bcase (decide (0 + n0 * 1 ≤ List.length l0))
 (((Says C 17 [(D.agg [(D.sl (n0) 1 (List.take (n0 * 1) (List.drop 0 l0))), (D.val (vI x1))]), (D.val (vI x2)), (D.val (vI n14))] [D.nil]) ∧
 (bcase (decide (0 + n6 * 1 ≤ List.length cs1))
 (((Says C 16 [(D.sl (n6) 1 (List.take (n6 * 1) (List.drop 0 cs1))), D.nil] [(D.val (Value.bool true))]) ∧
 (k [(D.val (Value.bool true))])) ∨
 ((Says C 16 [(D.sl (n6) 1 (List.take (n6 * 1) (List.drop 0 cs1))), D.nil] [(D.val (Value.bool false))]) ∧
 (k [(D.val (Value.bool false))])))
 False)) ∨
 (∃ n16 : Nat,
 (∃ cs3 : List Go.Value,
 ((Says C 17 [(D.agg [(D.sl (n0) 1 (List.take (n0 * 1) (List.drop 0 l0))), (D.val (vI x1))]), (D.val (vI x2)), (D.val (vI n14))] [(D.sl (n16) 1 (cs3))]) ∧
 (bcase (decide (0 + n6 * 1 ≤ List.length cs1))
 (bcase (decide (0 + n16 * 1 ≤ List.length cs3))
 (((Says C 16 [(D.sl (n6) 1 (List.take (n6 * 1) (List.drop 0 cs1))), (D.sl (n16) 1 (List.take (n16 * 1) (List.drop 0 cs3)))] [(D.val (Value.bool true))]) ∧
 (k [(D.val (Value.bool true))])) ∨
 ((Says C 16 [(D.sl (n6) 1 (List.take (n6 * 1) (List.drop 0 cs1))), (D.sl (n16) 1 (List.take (n16 * 1) (List.drop 0 cs3)))] [(D.val (Value.bool false))]) ∧
 (k [(D.val (Value.bool false))])))
 False)
 False)))))
 False)
 (k [(D.val (Value.bool false))]))
 (k [(D.val (Value.bool false))]))
 (k [(D.val (Value.bool false))])))))) ∨
 ((Says C 14 [(D.agg [(D.sl (n0) 1 (List.take (n0 * 1) (List.drop 0 l0))), (D.val (vI x1))]), (D.val (vI x2)), (D.sl (n13) 1 (List.take (n13 * 1) (List.drop 0 cs2)))] [(D.agg [(D.val (vI n14)), (D.val (vI n15))]), (D.val (Value.bool false))]) ∧
 (((Qv (Value.bool false)) ∧
 ((Qv (Value.agg [(vI n14), (vI n15)].toArray)) ∧
 ((Qv (Value.tuple [(Value.agg [(vI n14), (vI n15)].toArray), (Value.bool false)].toArray)) ∧
 (((Qv (Pt 1007 0)) ∧
 (Qv (some (AObj.cells [(vI 0), (vI 0)] 31 false 2)))) ∧
 True)))) ∧
 (((Qv (Value.bool false)) ∧
 True) ∧
 (True ∧
 (bcase (n5 == 0)
 (bcase (if Bool.false = Bool.true then !(n3 == n14 && (n4 == n15 && Bool.true)) else n3 == n14 && (n4 == n15 && Bool.true))
 (bcase (n7 == 0)
 (bcase (decide (0 + n0 * 1 ≤ List.length l0))
 (((Says C 17 [(D.agg [(D.sl (n0) 1 (List.take (n0 * 1) (List.drop 0 l0))), (D.val (vI x1))]), (D.val (vI x2)), (D.val (vI n14))] [D.nil]) ∧
 (bcase (decide (0 + n6 * 1 ≤ List.length cs1))
 (((Says C 16 [(D.sl (n6) 1 (List.take (n6 * 1) (List.drop 0 cs1))), D.nil] [(D.val (Value.bool true))]) ∧
 (k [(D.val (Value.bool true))])) ∨
 ((Says C 16 [(D.sl (n6) 1 (List.take (n6 * 1) (List.drop 0 cs1))), D.nil] [(D.val (Value.bool false))]) ∧
 (k [(D.val (Value.bool false))])))
 False)) ∨
 (∃ n16 : Nat,
 (∃ cs3 : List Go.Value,
 ((Says C 17 [(D.agg [(D.sl (n0) 1 (List.take (n0 * 1) (List.drop 0 l0))), (D.val (vI x1))]), (D.val (vI x2)), (D.val (vI n14))] [(D.sl (n16) 1 (cs3))]) ∧
 (bcase (decide (0 + n6 * 1 ≤ List.length cs1))
 (bcase (decide (0 + n16 * 1 ≤ List.length cs3))
 (((Says C 16 [(D.sl (n6) 1 (List.take (n6 * 1) (List.drop 0 cs1))), (D.sl (n16) 1 (List.take (n16 * 1) (List.drop 0 cs3)))] [(D.val (Value.bool true))]) ∧
 (k [(D.val (Value.bool true))])) ∨
 ((Says C 16 [(D.sl (n6) 1 (List.take (n6 * 1) (List.drop 0 cs1))), (D.sl (n16) 1 (List.take (n16 * 1) (List.drop 0 cs3)))] [(D.val (Value.bool false))]) ∧
 (k [(D.val (Value.bool false))])))
 False)
 False)))))
 False)
 (k [(D.val (Value.bool false))]))
 (k [(D.val (Value.bool false))]))
 (k [(D.val (Value.bool false))])))))))))
 False)
 False))))))
 False))))))) ∨
 ((Says C 14 [(D.agg [(D.sl (n0) 1 (List.take (n0 * 1) (List.drop 0 l0))), (D.val (vI x1))]), (D.val (vI x2)), D.nil] [(D.agg [(D.val (vI n11)), (D.val (vI n12))]), (D.val (Value.bool false))]) ∧
 (((Qv (Value.bool false)) ∧
 ((Qv (Value.agg [(vI n11), (vI n12)].toArray)) ∧
 ((Qv (Value.tuple [(Value.agg [(vI n11), (vI n12)].toArray), (Value.bool false)].toArray)) ∧
 (((Qv (Pt 1006 0)) ∧
 (Qv (some (AObj.cells [(vI 0), (vI 0)] 31 false 2)))) ∧
 True)))) ∧
 (((Qv (Value.bool false)) ∧
 True) ∧
 (True ∧
 (bcase (n5 == 12)
 (bcase (n7 == 12)
 (bcase (if Bool.false = Bool.true then !(n3 == 0 && (n4 == 0 && Bool.true)) else n3 == 0 && (n4 == 0 && Bool.true))
 (bcase ((↑n6 : Int) == 0)
 (k [(D.val (Value.bool true))])
 (k [(D.val (Value.bool false))]))
 (k [(D.val (Value.bool false))]))
 (k [(D.val (Value.bool false))]))
 (k [(D.val (Value.bool false))])))))))))
 False))) ∨
 (∃ n11 : Nat,
 (∃ cs2 : List Go.Value,
 ((Says C 15 [(D.agg [(D.sl (n0) 1 (List.take (n0 * 1) (List.drop 0 l0))), (D.val (vI x1))])] [(D.sl (n11) 1 (cs2))]) ∧
 ((((Qv (Pt 1006 0)) ∧
 (Qv (some (AObj.cells [(vI 0), (vI 0)] 31 false 2)))) ∧
 ((Qv (vI x2)) ∧
 ((Qv (Value.agg [(Sl 500 (n0) (c0)), (vI x1)].toArray)) ∧
 True))) ∧
 (bcase (decide (0 + n0 * 1 ≤ List.length l0))
 (bcase (decide (0 + n11 * 1 ≤ List.length cs2))
 (∃ n12 : Int,
 (∃ n13 : Int,
 (((Says C 14 [(D.agg [(D.sl (n0) 1 (List.take (n0 * 1) (List.drop 0 l0))), (D.val (vI x1))]), (D.val (vI x2)), (D.sl (n11) 1 (List.take (n11 * 1) (List.drop 0 cs2)))] [(D.agg [(D.val (vI n12)), (D.val (vI n13))]), (D.val (Value.bool true))]) ∧
 (((Qv (Value.bool true)) ∧
 ((Qv (Value.agg [(vI n12), (vI n13)].toArray)) ∧
 ((Qv (Value.tuple [(Value.agg [(vI n12), (vI n13)].toArray), (Value.bool true)].toArray)) ∧
 (((Qv (Pt 1006 0)) ∧
 (Qv (some (AObj.cells [(vI 0), (vI 0)] 31 false 2)))) ∧
 True)))) ∧
 (((Qv (Value.bool true)) ∧
 True) ∧
 (True ∧
 (bcase (n10 != 0)
 (bcase (n5 == n10)
 (bcase (n7 == n10)
 (bcase (if Bool.false = Bool.true then !(n3 == 0 && (n4 == 0 && Bool.true)) else n3 == 0 && (n4 == 0 && Bool.true))
 (bcase ((↑n6 : Int) == 0)
 (k [(D.val (Value.bool true))])
 (k [(D.val (Value.bool false))]))
 (k [(D.val (Value.bool false))]))
 (k [(D.val (Value.bool false))]))
 (k [(D.val (Value.bool false))]))
 ((((Qv (Pt 1008 0)) ∧
 (Qv (some (AObj.cells [(vI 0), (vI 0)] 31 false 2)))) ∧
 ((Qv (Value.agg [(Sl 500 (n0) (c0)), (vI x1)].toArray)) ∧
 ((Qv (vI x2)) ∧
 ((Qv (Value.agg [(Sl 500 (n0) (c0)), (vI x1)].toArray)) ∧
 True)))) ∧
 (bcase (decide (0 + n0 * 1 ≤ List.length l0))
 (((Says C 15 [(D.agg [(D.sl (n0) 1 (List.take (n0 * 1) (List.drop 0 l0))), (D.val (vI x1))])] [D.nil]) ∧
 ((((Qv (Pt 1008 0)) ∧
 (Qv (some (AObj.cells [(vI 0), (vI 0)] 31 false 2)))) ∧
 ((Qv (vI x2)) ∧
 ((Qv (Value.agg [(Sl 500 (n0) (c0)), (vI x1)].toArray)) ∧
 True))) ∧
 (bcase (decide (0 + n0 * 1 ≤ List.length l0))
 (∃ n14 : Int,
 (∃ n15 : Int,
 (((Says C 14 [(D.agg [(D.sl (n0) 1 (List.take (n0 * 1) (List.drop 0 l0))), (D.val (vI x1))]), (D.val (vI x2)), D.nil] [(D.agg [(D.val (vI n14)), (D.val (vI n15))]), (D.val (Value.bool true))]) ∧
 (((Qv (Value.bool true)) ∧
 ((Qv (Value.agg [(vI n14), (vI n15)].toArray)) ∧
 ((Qv (Value.tuple [(Value.agg [(vI n14), (vI n15)].toArray), (Value.bool true)].toArray)) ∧
 (((Qv (Pt 1008 0)) ∧
 (Qv (some (AObj.cells [(vI 0), (vI 0)] 31 false 2)))) ∧
 True)))) ∧
 (((Qv (Value.bool true)) ∧
 True) ∧
 (True ∧
 (bcase (n5 == 0)
 (bcase (if Bool.false = Bool.true then !(n3 == n14 && (n4 == n15 && Bool.true)) else n3 == n14 && (n4 == n15 && Bool.true))
 (bcase (n7 == 0)
 (bcase (decide (0 + n0 * 1 ≤ List.length l0))
 (((Says C 17 [(D.agg [(D.sl (n0) 1 (List.take (n0 * 1) (List.drop 0 l0))), (D.val (vI x1))]), (D.val (vI x2)), (D.val (vI n14))] [D.nil]) ∧
 (bcase (decide (0 + n6 * 1 ≤ List.length cs1))
 (((Says C 16 [(D.sl (n6) 1 (List.take (n6 * 1) (List.drop 0 cs1))), D.nil] [(D.val (Value.bool true))]) ∧
 (k [(D.val (Value.bool true))])) ∨
 ((Says C 16 [(D.sl (n6) 1 (List.take (n6 * 1) (List.drop 0 cs1))), D.nil] [(D.val (Value.bool false))]) ∧
 (k [(D.val (Value.bool false))])))
 False)) ∨
 (∃ n16 : Nat,
 (∃ cs3 : List Go.Value,
 ((Says C 17 [(D.agg [(D.sl (n0) 1 (List.take (n0 * 1) (List.drop 0 l0))), (D.val (vI x1))]), (D.val (vI x2)), (D.val (vI n14))] [(D.sl (n16) 1 (cs3))]) ∧
 (bcase (decide (0 + n6 * 1 ≤ List.length cs1))
 (bcase (decide (0 + n16 * 1 ≤ List.length cs3))
 (((Says C 16 [(D.sl (n6) 1 (List.take (n6 * 1) (List.drop 0 cs1))), (D.sl (n16) 1 (List.take (n16 * 1) (List.drop 0 cs3)))] [(D.val (Value.bool true))]) ∧
 (k [(D.val (Value.bool true))])) ∨
 ((Says C 16 [(D.sl (n6) 1 (List.take (n6 * 1) (List.drop 0 cs1))), (D.sl (n16) 1 (List.take (n16 * 1) (List.drop 0 cs3)))] [(D.val (Value.bool false))]) ∧
 (k [(D.val (Value.bool false))])))
 False)
 False)))))
 False)
 (k [(D.val (Value.bool false))]))
 (k [(D.val (Value.bool false))]))
 (k [(D.val (Value.bool false))])))))) ∨
 ((Says C 14 [(D.agg [(D.sl (n0) 1 (List.take (n0 * 1) (List.drop 0 l0))), (D.val (vI x1))]), (D.val (vI x2)), D.nil] [(D.agg [(D.val (vI n14)), (D.val (vI n15))]), (D.val (Value.bool false))]) ∧
 (((Qv (Value.bool false)) ∧
 ((Qv (Value.agg [(vI n14), (vI n15)].toArray)) ∧
 ((Qv (Value.tuple [(Value.agg [(vI n14), (vI n15)].toArray), (Value.bool false)].toArray)) ∧
 (((Qv (Pt 1008 0)) ∧
 (Qv (some (AObj.cells [(vI 0), (vI 0)] 31 false 2)))) ∧
 True)))) ∧
 (((Qv (Value.bool false)) ∧
 True) ∧
 (True ∧
 (bcase (n5 == 0)
 (bcase (if Bool.false = Bool.true then !(n3 == n14 && (n4 == n15 && Bool.true)) else n3 == n14 && (n4 == n15 && Bool.true))
 (bcase (n7 == 0)
 (bcase (decide (0 + n0 * 1 ≤ List.length l0))
 (((Says C 17 [(D.agg [(D.sl (n0) 1 (List.take (n0 * 1) (List.drop 0 l0))), (D.val (vI x1))]), (D.val (vI x2)), (D.val (vI n14))] [D.nil]) ∧
 (bcase (decide (0 + n6 * 1 ≤ List.length cs1))
 (((Says C 16 [(D.sl (n6) 1 (List.take (n6 * 1) (List.drop 0 cs1))), D.nil] [(D.val (Value.bool true))]) ∧
 (k [(D.val (Value.bool true))])) ∨
 ((Says C 16 [(D.sl (n6) 1 (List.take (n6 * 1) (List.drop 0 cs1))), D.nil] [(D.val (Value.bool false))]) ∧
 (k [(D.val (Value.bool false))])))
 False)) ∨
 (∃ n16 : Nat,
 (∃ cs3 : List Go.Value,
 ((Says C 17 [(D.agg [(D.sl (n0) 1 (List.take (n0 * 1) (List.drop 0 l0))), (D.val (vI x1))]), (D.val (vI x2)), (D.val (vI n14))] [(D.sl (n16) 1 (cs3))]) ∧
 (bcase (decide (0 + n6 * 1 ≤ List.length cs1))
 (bcase (decide (0 + n16 * 1 ≤ List.length cs3))
 (((Says C 16 [(D.sl (n6) 1 (List.take (n6 * 1) (List.drop 0 cs1))), (D.sl (n16) 1 (List.take (n16 * 1) (List.drop 0 cs3)))] [(D.val (Value.bool true))]) ∧
 (k [(D.val (Value.bool true))])) ∨
 ((Says C 16 [(D.sl (n6) 1 (List.take (n6 * 1) (List.drop 0 cs1))), (D.sl (n16) 1 (List.take (n16 * 1) (List.drop 0 cs3)))] [(D.val (Value.bool false))]) ∧
 (k [(D.val (Value.bool false))])))
 False)
 False)))))
 False)
 (k [(D.val (Value.bool false))]))
 (k [(D.val (Value.bool false))]))
 (k [(D.val (Value.bool false))])))))))))
 False))) ∨
 (∃ n14 : Nat,
 (∃ cs3 : List Go.Value,
 ((Says C 15 [(D.agg [(D.sl (n0) 1 (List.take (n0 * 1) (List.drop 0 l0))), (D.val (vI x1))])] [(D.sl (n14) 1 (cs3))]) ∧
 ((((Qv (Pt 1008 0)) ∧
 (Qv (some (AObj.cells [(vI 0), (vI 0)] 31 false 2)))) ∧
 ((Qv (vI x2)) ∧
 ((Qv (Value.agg [(Sl 500 (n0) (c0)), (vI x1)].toArray)) ∧
 True))) ∧
 (bcase (decide (0 + n0 * 1 ≤ List.length l0))
 (bcase (decide (0 + n14 * 1 ≤ List.length cs3))
 (∃ n15 : Int,
 (∃ n16 : Int,
 (((Says C 14 [(D.agg [(D.sl (n0) 1 (List.take (n0 * 1) (List.drop 0 l0))), (D.val (vI x1))]), (D.val (vI x2)), (D.sl (n14) 1 (List.take (n14 * 1) (List.drop 0 cs3)))] [(D.agg [(D.val (vI n15)), (D.val (vI n16))]), (D.val (Value.bool true))]) ∧
 (((Qv (Value.bool true)) ∧
 ((Qv (Value.agg [(vI n15), (vI n16)].toArray)) ∧
 ((Qv (Value.tuple [(Value.agg [(vI n15), (vI n16)].toArray), (Value.bool true)].toArray)) ∧
 (((Qv (Pt 1008 0)) ∧
 (Qv (some (AObj.cells [(vI 0), (vI 0)] 31 false 2)))) ∧
 True)))) ∧
 (((Qv (Value.bool true)) ∧
 True) ∧
 (True ∧
 (bcase (n5 == 0)
 (bcase (if Bool.false = Bool.true then !(n3 == n15 && (n4 == n16 && Bool.true)) else n3 == n15 && (n4 == n16 && Bool.true))
 (bcase (n7 == 0)
 (bcase (decide (0 + n0 * 1 ≤ List.length l0))
 (((Says C 17 [(D.agg [(D.sl (n0) 1 (List.take (n0 * 1) (List.drop 0 l0))), (D.val (vI x1))]), (D.val (vI x2)), (D.val (vI n15))] [D.nil]) ∧
 (bcase (decide (0 + n6 * 1 ≤ List.length cs1))
 (((Says C 16 [(D.sl (n6) 1 (List.take (n6 * 1) (List.drop 0 cs1))), D.nil] [(D.val (Value.bool true))]) ∧
 (k [(D.val (Value.bool true))])) ∨
 ((Says C 16 [(D.sl (n6) 1 (List.take (n6 * 1) (List.drop 0 cs1))), D.nil] [(D.val (Value.bool false))]) ∧
 (k [(D.val (Value.bool false))])))
 False)) ∨
 (∃ n17 : Nat,
 (∃ cs4 : List Go.Value,
 ((Says C 17 [(D.agg [(D.sl (n0) 1 (List.take (n0 * 1) (List.drop 0 l0))), (D.val (vI x1))]), (D.val (vI x2)), (D.val (vI n15))] [(D.sl (n17) 1 (cs4))]) ∧
 (bcase (decide (0 + n6 * 1 ≤ List.length cs1))
 (bcase (decide (0 + n17 * 1 ≤ List.length cs4))
 (((Says C 16 [(D.sl (n6) 1 (List.take (n6 * 1) (List.drop 0 cs1))), (D.sl (n17) 1 (List.take (n17 * 1) (List.drop 0 cs4)))] [(D.val (Value.bool true))]) ∧
 (k [(D.val (Value.bool true))])) ∨
 ((Says C 16 [(D.sl (n6) 1 (List.take (n6 * 1) (List.drop 0 cs1))), (D.sl (n17) 1 (List.take (n17 * 1) (List.drop 0 cs4)))] [(D.val (Value.bool false))]) ∧
 (k [(D.val (Value.bool false))])))
 False)
 False)))))
 False)
 (k [(D.val (Value.bool false))]))
 (k [(D.val (Value.bool false))]))
 (k [(D.val (Value.bool false))])))))) ∨
 ((Says C 14 [(D.agg [(D.sl (n0) 1 (List.take (n0 * 1) (List.drop 0 l0))), (D.val (vI x1))]), (D.val (vI x2)), (D.sl (n14) 1 (List.take (n14 * 1) (List.drop 0 cs3)))] [(D.agg [(D.val (vI n15)), (D.val (vI n16))]), (D.val (Value.bool false))]) ∧
 (((Qv (Value.bool false)) ∧
 ((Qv (Value.agg [(vI n15), (vI n16)].toArray)) ∧
 ((Qv (Value.tuple [(Value.agg [(vI n15), (vI n16)].toArray), (Value.bool false)].toArray)) ∧
 (((Qv (Pt 1008 0)) ∧
 (Qv (some (AObj.cells [(vI 0), (vI 0)] 31 false 2)))) ∧
 True)))) ∧
 (((Qv (Value.bool false)) ∧
 True) ∧
 (True ∧
 (bcase (n5 == 0)
 (bcase (if Bool.false = Bool.true then !(n3 == n15 && (n4 == n16 && Bool.true)) else n3 == n15 && (n4 == n16 && Bool.true))
 (bcase (n7 == 0)
 (bcase (decide (0 + n0 * 1 ≤ List.length l0))
 (((Says C 17 [(D.agg [(D.sl (n0) 1 (List.take (n0 * 1) (List.drop 0 l0))), (D.val (vI x1))]), (D.val (vI x2)), (D.val (vI n15))] [D.nil]) ∧
 (bcase (decide (0 + n6 * 1 ≤ List.length cs1))
 (((Says C 16 [(D.sl (n6) 1 (List.take (n6 * 1) (List.drop 0 cs1))), D.nil] [(D.val (Value.bool true))]) ∧
 (k [(D.val (Value.bool true))])) ∨
 ((Says C 16 [(D.sl (n6) 1 (List.take (n6 * 1) (List.drop 0 cs1))), D.nil] [(D.val (Value.bool false))]) ∧
 (k [(D.val (Value.bool false))])))
 False)) ∨
 (∃ n17 : Nat,
 (∃ cs4 : List Go.Value,
 ((Says C 17 [(D.agg [(D.sl (n0) 1 (List.take (n0 * 1) (List.drop 0 l0))), (D.val (vI x1))]), (D.val (vI x2)), (D.val (vI n15))] [(D.sl (n17) 1 (cs4))]) ∧
 (bcase (decide (0 + n6 * 1 ≤ List.length cs1))
 (bcase (decide (0 + n17 * 1 ≤ List.length cs4))
 (((Says C 16 [(D.sl (n6) 1 (List.take (n6 * 1) (List.drop 0 cs1))), (D.sl (n17) 1 (List.take (n17 * 1) (List.drop 0 cs4)))] [(D.val (Value.bool true))]) ∧
 (k [(D.val (Value.bool true))])) ∨
 ((Says C 16 [(D.sl (n6) 1 (List.take (n6 * 1) (List.drop 0 cs1))), (D.sl (n17) 1 (List.take (n17 * 1) (List.drop 0 cs4)))] [(D.val (Value.bool false))]) ∧
 (k [(D.val (Value.bool false))])))
 False)
 False)))))
 False)
 (k [(D.val (Value.bool false))]))
 (k [(D.val (Value.bool false))]))
 (k [(D.val (Value.bool false))])))))))))
 False)
 False))))))
 False))))))) ∨
 ((Says C 14 [(D.agg [(D.sl (n0) 1 (List.take (n0 * 1) (List.drop 0 l0))), (D.val (vI x1))]), (D.val (vI x2)), (D.sl (n11) 1 (List.take (n11 * 1) (List.drop 0 cs2)))] [(D.agg [(D.val (vI n12)), (D.val (vI n13))]), (D.val (Value.bool false))]) ∧
 (((Qv (Value.bool false)) ∧
 ((Qv (Value.agg [(vI n12), (vI n13)].toArray)) ∧
 ((Qv (Value.tuple [(Value.agg [(vI n12), (vI n13)].toArray), (Value.bool false)].toArray)) ∧
 (((Qv (Pt 1006 0)) ∧
 (Qv (some (AObj.cells [(vI 0), (vI 0)] 31 false 2)))) ∧
 True)))) ∧
 (((Qv (Value.bool false)) ∧
 True) ∧
 (True ∧
 (bcase (n5 == 12)
 (bcase (n7 == 12)
 (bcase (if Bool.false = Bool.true then !(n3 == 0 && (n4 == 0 && Bool.true)) else n3 == 0 && (n4 == 0 && Bool.true))
 (bcase ((↑n6 : Int) == 0)
 (k [(D.val (Value.bool true))])
 (k [(D.val (Value.bool false))]))
 (k [(D.val (Value.bool false))]))
 (k [(D.val (Value.bool false))]))
 (k [(D.val (Value.bool false))])))))))))
 False)
 False))))))
 False))
 (bcase (n10 != 0)
 (bcase (n5 == n10)
 (bcase (n7 == n10)
 (bcase (if Bool.false = Bool.true then !(n3 == 0 && (n4 == 0 && Bool.true)) else n3 == 0 && (n4 == 0 && Bool.true))
 (bcase ((↑n6 : Int) == 0)
 (k [(D.val (Value.bool true))])
 (k [(D.val (Value.bool false))]))
 (k [(D.val (Value.bool false))]))
 (k [(D.val (Value.bool false))]))
 (k [(D.val (Value.bool false))]))
 ((((Qv (Pt 1006 0)) ∧
 (Qv (some (AObj.cells [(vI 0), (vI 0)] 31 false 2)))) ∧
 ((Qv (Value.agg [(Sl 500 (n0) (c0)), (vI x1)].toArray)) ∧
 ((Qv (vI x2)) ∧
 ((Qv (Value.agg [(Sl 500 (n0) (c0)), (vI x1)].toArray)) ∧
 True)))) ∧
 (bcase (decide (0 + n0 * 1 ≤ List.length l0))
 (((Says C 15 [(D.agg [(D.sl (n0) 1 (List.take (n0 * 1) (List.drop 0 l0))), (D.val (vI x1))])] [D.nil]) ∧
 ((((Qv (Pt 1006 0)) ∧
 (Qv (some (AObj.cells [(vI 0), (vI 0)] 31 false 2)))) ∧
 ((Qv (vI x2)) ∧
 ((Qv (Value.agg [(Sl 500 (n0) (c0)), (vI x1)].toArray)) ∧
 True))) ∧
 (bcase (decide (0 + n0 * 1 ≤ List.length l0))
 (∃ n11 : Int,
 (∃ n12 : Int,
 (((Says C 14 [(D.agg [(D.sl (n0) 1 (List.take (n0 * 1) (List.drop 0 l0))), (D.val (vI x1))]), (D.val (vI x2)), D.nil] [(D.agg [(D.val (vI n11)), (D.val (vI n12))]), (D.val (Value.bool true))]) ∧
 (((Qv (Value.bool true)) ∧
 ((Qv (Value.agg [(vI n11), (vI n12)].toArray)) ∧
 ((Qv (Value.tuple [(Value.agg [(vI n11), (vI n12)].toArray), (Value.bool true)].toArray)) ∧
 (((Qv (Pt 1006 0)) ∧
 (Qv (some (AObj.cells [(vI 0), (vI 0)] 31 false 2)))) ∧
 True)))) ∧
 (((Qv (Value.bool true)) ∧
 True) ∧
 (True ∧
 (bcase (n5 == 0)
 (bcase (if Bool.false = Bool.true then !(n3 == n11 && (n4 == n12 && Bool.true)) else n3 == n11 && (n4 == n12 && Bool.true))
 (bcase (n7 == 0)
 (bcase (decide (0 + n0 * 1 ≤ List.length l0))
 (((Says C 17 [(D.agg [(D.sl (n0) 1 (List.take (n0 * 1) (List.drop 0 l0))), (D.val (vI x1))]), (D.val (vI x2)), (D.val (vI n11))] [D.nil]) ∧
 (bcase (decide (0 + n6 * 1 ≤ List.length cs1))
 (((Says C 16 [(D.sl (n6) 1 (List.take (n6 * 1) (List.drop 0 cs1))), D.nil] [(D.val (Value.bool true))]) ∧
 (k [(D.val (Value.bool true))])) ∨
 ((Says C 16 [(D.sl (n6) 1 (List.take (n6 * 1) (List.drop 0 cs1))), D.nil] [(D.val (Value.bool false))]) ∧
 (k [(D.val (Value.bool false))])))
 False)) ∨
 (∃ n13 : Nat,
 (∃ cs2 : List Go.Value,
 ((Says C 17 [(D.agg [(D.sl (n0) 1 (List.take (n0 * 1) (List.drop 0 l0))), (D.val (vI x1))]), (D.val (vI x2)), (D.val (vI n11))] [(D.sl (n13) 1 (cs2))]) ∧
 (bcase (decide (0 + n6 * 1 ≤ List.length cs1))
 (bcase (decide (0 + n13 * 1 ≤ List.length cs2))
 (((Says C 16 [(D.sl (n6) 1 (List.take (n6 * 1) (List.drop 0 cs1))), (D.sl (n13) 1 (List.take (n13 * 1) (List.drop 0 cs2)))] [(D.val (Value.bool true))]) ∧
 (k [(D.val (Value.bool true))])) ∨
 ((Says C 16 [(D.sl (n6) 1 (List.take (n6 * 1) (List.drop 0 cs1))), (D.sl (n13) 1 (List.take (n13 * 1) (List.drop 0 cs2)))] [(D.val (Value.bool false))]) ∧
 (k [(D.val (Value.bool false))])))
 False)
 False)))))
 False)
 (k [(D.val (Value.bool false))]))
 (k [(D.val (Value.bool false))]))
 (k [(D.val (Value.bool false))])))))) ∨
 ((Says C 14 [(D.agg [(D.sl (n0) 1 (List.take (n0 * 1) (List.drop 0 l0))), (D.val (vI x1))]), (D.val (vI x2)), D.nil] [(D.agg [(D.val (vI n11)), (D.val (vI n12))]), (D.val (Value.bool false))]) ∧
 (((Qv (Value.bool false)) ∧
 ((Qv (Value.agg [(vI n11), (vI n12)].toArray)) ∧
 ((Qv (Value.tuple [(Value.agg [(vI n11), (vI n12)].toArray), (Value.bool false)].toArray)) ∧
 (((Qv (Pt 1006 0)) ∧
 (Qv (some (AObj.cells [(vI 0), (vI 0)] 31 false 2)))) ∧
 True)))) ∧
 (((Qv (Value.bool false)) ∧
 True) ∧
 (True ∧
 (bcase (n5 == 0)
 (bcase (if Bool.false = Bool.true then !(n3 == n11 && (n4 == n12 && Bool.true)) else n3 == n11 && (n4 == n12 && Bool.true))
 (bcase (n7 == 0)
 (bcase (decide (0 + n0 * 1 ≤ List.length l0))
 (((Says C 17 [(D.agg [(D.sl (n0) 1 (List.take (n0 * 1) (List.drop 0 l0))), (D.val (vI x1))]), (D.val (vI x2)), (D.val (vI n11))] [D.nil]) ∧
 (bcase (decide (0 + n6 * 1 ≤ List.length cs1))
 (((Says C 16 [(D.sl (n6) 1 (List.take (n6 * 1) (List.drop 0 cs1))), D.nil] [(D.val (Value.bool true))]) ∧
 (k [(D.val (Value.bool true))])) ∨
 ((Says C 16 [(D.sl (n6) 1 (List.take (n6 * 1) (List.drop 0 cs1))), D.nil] [(D.val (Value.bool false))]) ∧
 (k [(D.val (Value.bool false))])))
 False)) ∨
 (∃ n13 : Nat,
 (∃ cs2 : List Go.Value,
 ((Says C 17 [(D.agg [(D.sl (n0) 1 (List.take (n0 * 1) (List.drop 0 l0))), (D.val (vI x1))]), (D.val (vI x2)), (D.val (vI n11))] [(D.sl (n13) 1 (cs2))]) ∧
 (bcase (decide (0 + n6 * 1 ≤ List.length cs1))
 (bcase (decide (0 + n13 * 1 ≤ List.length cs2))
 (((Says C 16 [(D.sl (n6) 1 (List.take (n6 * 1) (List.drop 0 cs1))), (D.sl (n13) 1 (List.take (n13 * 1) (List.drop 0 cs2)))] [(D.val (Value.bool true))]) ∧
 (k [(D.val (Value.bool true))])) ∨
 ((Says C 16 [(D.sl (n6) 1 (List.take (n6 * 1) (List.drop 0 cs1))), (D.sl (n13) 1 (List.take (n13 * 1) (List.drop 0 cs2)))] [(D.val (Value.bool false))]) ∧
 (k [(D.val (Value.bool false))])))
 False)
 False)))))
 False)
 (k [(D.val (Value.bool false))]))
 (k [(D.val (Value.bool false))]))
 (k [(D.val (Value.bool false))])))))))))
 False))) ∨
 (∃ n11 : Nat,
 (∃ cs2 : List Go.Value,
 ((Says C 15 [(D.agg [(D.sl (n0) 1 (List.take (n0 * 1) (List.drop 0 l0))), (D.val (vI x1))])] [(D.sl (n11) 1 (cs2))]) ∧
 ((((Qv (Pt 1006 0)) ∧
 (Qv (some (AObj.cells [(vI 0), (vI 0)] 31 false 2)))) ∧
 ((Qv (vI x2)) ∧
 ((Qv (Value.agg [(Sl 500 (n0) (c0)), (vI x1)].toArray)) ∧
 True))) ∧
 (bcase (decide (0 + n0 * 1 ≤ List.length l0))
 (bcase (decide (0 + n11 * 1 ≤ List.length cs2))
 (∃ n12 : Int,
 (∃ n13 : Int,
 (((Says C 14 [(D.agg [(D.sl (n0) 1 (List.take (n0 * 1) (List.drop 0 l0))), (D.val (vI x1))]), (D.val (vI x2)), (D.sl (n11) 1 (List.take (n11 * 1) (List.drop 0 cs2)))] [(D.agg [(D.val (vI n12)), (D.val (vI n13))]), (D.val (Value.bool true))]) ∧
 (((Qv (Value.bool true)) ∧
 ((Qv (Value.agg [(vI n12), (vI n13)].toArray)) ∧
 ((Qv (Value.tuple [(Value.agg [(vI n12), (vI n13)].toArray), (Value.bool true)].toArray)) ∧
 (((Qv (Pt 1006 0)) ∧
 (Qv (some (AObj.cells [(vI 0), (vI 0)] 31 false 2)))) ∧
 True)))) ∧
 (((Qv (Value.bool true)) ∧
 True) ∧
 (True ∧
 (bcase (n5 == 0)
 (bcase (if Bool.false = Bool.true then !(n3 == n12 && (n4 == n13 && Bool.true)) else n3 == n12 && (n4 == n13 && Bool.true))
 (bcase (n7 == 0)
 (bcase (decide (0 + n0 * 1 ≤ List.length l0))
 (((Says C 17 [(D.agg [(D.sl (n0) 1 (List.take (n0 * 1) (List.drop 0 l0))), (D.val (vI x1))]), (D.val (vI x2)), (D.val (vI n12))] [D.nil]) ∧
 (bcase (decide (0 + n6 * 1 ≤ List.length cs1))
 (((Says C 16 [(D.sl (n6) 1 (List.take (n6 * 1) (List.drop 0 cs1))), D.nil] [(D.val (Value.bool true))]) ∧
 (k [(D.val (Value.bool true))])) ∨
 ((Says C 16 [(D.sl (n6) 1 (List.take (n6 * 1) (List.drop 0 cs1))), D.nil] [(D.val (Value.bool false))]) ∧
 (k [(D.val (Value.bool false))])))
 False)) ∨
 (∃ n14 : Nat,
 (∃ cs3 : List Go.Value,
 ((Says C 17 [(D.agg [(D.sl (n0) 1 (List.take (n0 * 1) (List.drop 0 l0))), (D.val (vI x1))]), (D.val (vI x2)), (D.val (vI n12))] [(D.sl (n14) 1 (cs3))]) ∧
 (bcase (decide (0 + n6 * 1 ≤ List.length cs1))
 (bcase (decide (0 + n14 * 1 ≤ List.length cs3))
 (((Says C 16 [(D.sl (n6) 1 (List.take (n6 * 1) (List.drop 0 cs1))), (D.sl (n14) 1 (List.take (n14 * 1) (List.drop 0 cs3)))] [(D.val (Value.bool true))]) ∧
 (k [(D.val (Value.bool true))])) ∨
 ((Says C 16 [(D.sl (n6) 1 (List.take (n6 * 1) (List.drop 0 cs1))), (D.sl (n14) 1 (List.take (n14 * 1) (List.drop 0 cs3)))] [(D.val (Value.bool false))]) ∧
 (k [(D.val (Value.bool false))])))
 False)
 False)))))
 False)
 (k [(D.val (Value.bool false))]))
 (k [(D.val (Value.bool false))]))
 (k [(D.val (Value.bool false))])))))) ∨
 ((Says C 14 [(D.agg [(D.sl (n0) 1 (List.take (n0 * 1) (List.drop 0 l0))), (D.val (vI x1))]), (D.val (vI x2)), (D.sl (n11) 1 (List.take (n11 * 1) (List.drop 0 cs2)))] [(D.agg [(D.val (vI n12)), (D.val (vI n13))]), (D.val (Value.bool false))]) ∧
 (((Qv (Value.bool false)) ∧
 ((Qv (Value.agg [(vI n12), (vI n13)].toArray)) ∧
 ((Qv (Value.tuple [(Value.agg [(vI n12), (vI n13)].toArray), (Value.bool false)].toArray)) ∧
 (((Qv (Pt 1006 0)) ∧
 (Qv (some (AObj.cells [(vI 0), (vI 0)] 31 false 2)))) ∧
 True)))) ∧
 (((Qv (Value.bool false)) ∧
 True) ∧
 (True ∧
 (bcase (n5 == 0)
 (bcase (if Bool.false = Bool.true then !(n3 == n12 && (n4 == n13 && Bool.true)) else n3 == n12 && (n4 == n13 && Bool.true))
 (bcase (n7 == 0)
 (bcase (decide (0 + n0 * 1 ≤ List.length l0))
 (((Says C 17 [(D.agg [(D.sl (n0) 1 (List.take (n0 * 1) (List.drop 0 l0))), (D.val (vI x1))]), (D.val (vI x2)), (D.val (vI n12))] [D.nil]) ∧
 (bcase (decide (0 + n6 * 1 ≤ List.length cs1))
 (((Says C 16 [(D.sl (n6) 1 (List.take (n6 * 1) (List.drop 0 cs1))), D.nil] [(D.val (Value.bool true))]) ∧
 (k [(D.val (Value.bool true))])) ∨
 ((Says C 16 [(D.sl (n6) 1 (List.take (n6 * 1) (List.drop 0 cs1))), D.nil] [(D.val (Value.bool false))]) ∧
 (k [(D.val (Value.bool false))])))
 False)) ∨
 (∃ n14 : Nat,
 (∃ cs3 : List Go.Value,
 ((Says C 17 [(D.agg [(D.sl (n0) 1 (List.take (n0 * 1) (List.drop 0 l0))), (D.val (vI x1))]), (D.val (vI x2)), (D.val (vI n12))] [(D.sl (n14) 1 (cs3))]) ∧
 (bcase (decide (0 + n6 * 1 ≤ List.length cs1))
 (bcase (decide (0 + n14 * 1 ≤ List.length cs3))
 (((Says C 16 [(D.sl (n6) 1 (List.take (n6 * 1) (List.drop 0 cs1))), (D.sl (n14) 1 (List.take (n14 * 1) (List.drop 0 cs3)))] [(D.val (Value.bool true))]) ∧
 (k [(D.val (Value.bool true))])) ∨
 ((Says C 16 [(D.sl (n6) 1 (List.take (n6 * 1) (List.drop 0 cs1))), (D.sl (n14) 1 (List.take (n14 * 1) (List.drop 0 cs3)))] [(D.val (Value.bool false))]) ∧
 (k [(D.val (Value.bool false))])))
 False)
 False)))))
 False)
 (k [(D.val (Value.bool false))]))
 (k [(D.val (Value.bool false))]))
 (k [(D.val (Value.bool false))])))))))))
 False)
 False))))))
 False))))
 (bcase (n10 != 0)
 (bcase (n5 == n10)
 (bcase (n7 == n10)
 (bcase (if Bool.false = Bool.true then !(n3 == 0 && (n4 == 0 && Bool.true)) else n3 == 0 && (n4 == 0 && Bool.true))
 (bcase ((↑n6 : Int) == 0)
 (k [(D.val (Value.bool true))])
 (k [(D.val (Value.bool false))]))
 (k [(D.val (Value.bool false))]))
 (k [(D.val (Value.bool false))]))
 (k [(D.val (Value.bool false))]))
 ((((Qv (Pt 1006 0)) ∧
 (Qv (some (AObj.cells [(vI 0), (vI 0)] 31 false 2)))) ∧
 ((Qv (Value.agg [(Sl 500 (n0) (c0)), (vI x1)].toArray)) ∧
 ((Qv (vI x2)) ∧
 ((Qv (Value.agg [(Sl 500 (n0) (c0)), (vI x1)].toArray)) ∧
 True)))) ∧
 (bcase (decide (0 + n0 * 1 ≤ List.length l0))
 (((Says C 15 [(D.agg [(D.sl (n0) 1 (List.take (n0 * 1) (List.drop 0 l0))), (D.val (vI x1))])] [D.nil]) ∧
 ((((Qv (Pt 1006 0)) ∧
 (Qv (some (AObj.cells [(vI 0), (vI 0)] 31 false 2)))) ∧
 ((Qv (vI x2)) ∧
 ((Qv (Value.agg [(Sl 500 (n0) (c0)), (vI x1)].toArray)) ∧
 True))) ∧
 (bcase (decide (0 + n0 * 1 ≤ List.length l0))
 (∃ n11 : Int,
 (∃ n12 : Int,
 (((Says C 14 [(D.agg [(D.sl (n0) 1 (List.take (n0 * 1) (List.drop 0 l0))), (D.val (vI x1))]), (D.val (vI x2)), D.nil] [(D.agg [(D.val (vI n11)), (D.val (vI n12))]), (D.val (Value.bool true))]) ∧
 (((Qv (Value.bool true)) ∧
 ((Qv (Value.agg [(vI n11), (vI n12)].toArray)) ∧
 ((Qv (Value.tuple [(Value.agg [(vI n11), (vI n12)].toArray), (Value.bool true)].toArray)) ∧
 (((Qv (Pt 1006 0)) ∧
 (Qv (some (AObj.cells [(vI 0), (vI 0)] 31 false 2)))) ∧
 True)))) ∧
 (((Qv (Value.bool true)) ∧
 True) ∧
 (True ∧
 (bcase (n5 == 0)
 (bcase (if Bool.false = Bool.true then !(n3 == n11 && (n4 == n12 && Bool.true)) else n3 == n11 && (n4 == n12 && Bool.true))
 (bcase (n7 == 0)
 (bcase (decide (0 + n0 * 1 ≤ List.length l0))
 (((Says C 17 [(D.agg [(D.sl (n0) 1 (List.take (n0 * 1) (List.drop 0 l0))), (D.val (vI x1))]), (D.val (vI x2)), (D.val (vI n11))] [D.nil]) ∧
 (bcase (decide (0 + n6 * 1 ≤ List.length cs1))
 (((Says C 16 [(D.sl (n6) 1 (List.take (n6 * 1) (List.drop 0 cs1))), D.nil] [(D.val (Value.bool true))]) ∧
 (k [(D.val (Value.bool true))])) ∨
 ((Says C 16 [(D.sl (n6) 1 (List.take (n6 * 1) (List.drop 0 cs1))), D.nil] [(D.val (Value.bool false))]) ∧
 (k [(D.val (Value.bool false))])))
 False)) ∨
 (∃ n13 : Nat,
 (∃ cs2 : List Go.Value,
 ((Says C 17 [(D.agg [(D.sl (n0) 1 (List.take (n0 * 1) (List.drop 0 l0))), (D.val (vI x1))]), (D.val (vI x2)), (D.val (vI n11))] [(D.sl (n13) 1 (cs2))]) ∧
 (bcase (decide (0 + n6 * 1 ≤ List.length cs1))
 (bcase (decide (0 + n13 * 1 ≤ List.length cs2))
 (((Says C 16 [(D.sl (n6) 1 (List.take (n6 * 1) (List.drop 0 cs1))), (D.sl (n13) 1 (List.take (n13 * 1) (List.drop 0 cs2)))] [(D.val (Value.bool true))]) ∧
 (k [(D.val (Value.bool true))])) ∨
 ((Says C 16 [(D.sl (n6) 1 (List.take (n6 * 1) (List.drop 0 cs1))), (D.sl (n13) 1 (List.take (n13 * 1) (List.drop 0 cs2)))] [(D.val (Value.bool false))]) ∧
 (k [(D.val (Value.bool false))])))
 False)
 False)))))
 False)
 (k [(D.val (Value.bool false))]))
 (k [(D.val (Value.bool false))]))
 (k [(D.val (Value.bool false))])))))) ∨
 ((Says C 14 [(D.agg [(D.sl (n0) 1 (List.take (n0 * 1) (List.drop 0 l0))), (D.val (vI x1))]), (D.val (vI x2)), D.nil] [(D.agg [(D.val (vI n11)), (D.val (vI n12))]), (D.val (Value.bool false))]) ∧
 (((Qv (Value.bool false)) ∧
 ((Qv (Value.agg [(vI n11), (vI n12)].toArray)) ∧
 ((Qv (Value.tuple [(Value.agg [(vI n11), (vI n12)].toArray), (Value.bool false)].toArray)) ∧
 (((Qv (Pt 1006 0)) ∧
 (Qv (some (AObj.cells [(vI 0), (vI 0)] 31 false 2)))) ∧
 True)))) ∧
 (((Qv (Value.bool false)) ∧
 True) ∧
 (True ∧
 (bcase (n5 == 0)
 (bcase (if Bool.false = Bool.true then !(n3 == n11 && (n4 == n12 && Bool.true)) else n3 == n11 && (n4 == n12 && Bool.true))
 (bcase (n7 == 0)
 (bcase (decide (0 + n0 * 1 ≤ List.length l0))
 (((Says C 17 [(D.agg [(D.sl (n0) 1 (List.take (n0 * 1) (List.drop 0 l0))), (D.val (vI x1))]), (D.val (vI x2)), (D.val (vI n11))] [D.nil]) ∧
 (bcase (decide (0 + n6 * 1 ≤ List.length cs1))
 (((Says C 16 [(D.sl (n6) 1 (List.take (n6 * 1) (List.drop 0 cs1))), D.nil] [(D.val (Value.bool true))]) ∧
 (k [(D.val (Value.bool true))])) ∨
 ((Says C 16 [(D.sl (n6) 1 (List.take (n6 * 1) (List.drop 0 cs1))), D.nil] [(D.val (Value.bool false))]) ∧
 (k [(D.val (Value.bool false))])))
 False)) ∨
 (∃ n13 : Nat,
 (∃ cs2 : List Go.Value,
 ((Says C 17 [(D.agg [(D.sl (n0) 1 (List.take (n0 * 1) (List.drop 0 l0))), (D.val (vI x1))]), (D.val (vI x2)), (D.val (vI n11))] [(D.sl (n13) 1 (cs2))]) ∧
 (bcase (decide (0 + n6 * 1 ≤ List.length cs1))
 (bcase (decide (0 + n13 * 1 ≤ List.length cs2))
 (((Says C 16 [(D.sl (n6) 1 (List.take (n6 * 1) (List.drop 0 cs1))), (D.sl (n13) 1 (List.take (n13 * 1) (List.drop 0 cs2)))] [(D.val (Value.bool true))]) ∧
 (k [(D.val (Value.bool true))])) ∨
 ((Says C 16 [(D.sl (n6) 1 (List.take (n6 * 1) (List.drop 0 cs1))), (D.sl (n13) 1 (List.take (n13 * 1) (List.drop 0 cs2)))] [(D.val (Value.bool false))]) ∧
 (k [(D.val (Value.bool false))])))
 False)
 False)))))
 False)
 (k [(D.val (Value.bool false))]))
 (k [(D.val (Value.bool false))]))
 (k [(D.val (Value.bool false))])))))))))
 False))) ∨
 (∃ n11 : Nat,
 (∃ cs2 : List Go.Value,
 ((Says C 15 [(D.agg [(D.sl (n0) 1 (List.take (n0 * 1) (List.drop 0 l0))), (D.val (vI x1))])] [(D.sl (n11) 1 (cs2))]) ∧
 ((((Qv (Pt 1006 0)) ∧
 (Qv (some (AObj.cells [(vI 0), (vI 0)] 31 false 2)))) ∧
 ((Qv (vI x2)) ∧
 ((Qv (Value.agg [(Sl 500 (n0) (c0)), (vI x1)].toArray)) ∧
 True))) ∧
 (bcase (decide (0 + n0 * 1 ≤ List.length l0))
 (bcase (decide (0 + n11 * 1 ≤ List.length cs2))
 (∃ n12 : Int,
 (∃ n13 : Int,
 (((Says C 14 [(D.agg [(D.sl (n0) 1 (List.take (n0 * 1) (List.drop 0 l0))), (D.val (vI x1))]), (D.val (vI x2)), (D.sl (n11) 1 (List.take (n11 * 1) (List.drop 0 cs2)))] [(D.agg [(D.val (vI n12)), (D.val (vI n13))]), (D.val (Value.bool true))]) ∧
 (((Qv (Value.bool true)) ∧
 ((Qv (Value.agg [(vI n12), (vI n13)].toArray)) ∧
 ((Qv (Value.tuple [(Value.agg [(vI n12), (vI n13)].toArray), (Value.bool true)].toArray)) ∧
 (((Qv (Pt 1006 0)) ∧
 (Qv (some (AObj.cells [(vI 0), (vI 0)] 31 false 2)))) ∧
 True)))) ∧
 (((Qv (Value.bool true)) ∧
 True) ∧
 (True ∧
 (bcase (n5 == 0)
 (bcase (if Bool.false = Bool.true then !(n3 == n12 && (n4 == n13 && Bool.true)) else n3 == n12 && (n4 == n13 && Bool.true))
 (bcase (n7 == 0)
 (bcase (decide (0 + n0 * 1 ≤ List.length l0))
 (((Says C 17 [(D.agg [(D.sl (n0) 1 (List.take (n0 * 1) (List.drop 0 l0))), (D.val (vI x1))]), (D.val (vI x2)), (D.val (vI n12))] [D.nil]) ∧
 (bcase (decide (0 + n6 * 1 ≤ List.length cs1))
 (((Says C 16 [(D.sl (n6) 1 (List.take (n6 * 1) (List.drop 0 cs1))), D.nil] [(D.val (Value.bool true))]) ∧
 (k [(D.val (Value.bool true))])) ∨
 ((Says C 16 [(D.sl (n6) 1 (List.take (n6 * 1) (List.drop 0 cs1))), D.nil] [(D.val (Value.bool false))]) ∧
 (k [(D.val (Value.bool false))])))
 False)) ∨
 (∃ n14 : Nat,
 (∃ cs3 : List Go.Value,
 ((Says C 17 [(D.agg [(D.sl (n0) 1 (List.take (n0 * 1) (List.drop 0 l0))), (D.val (vI x1))]), (D.val (vI x2)), (D.val (vI n12))] [(D.sl (n14) 1 (cs3))]) ∧
 (bcase (decide (0 + n6 * 1 ≤ List.length cs1))
 (bcase (decide (0 + n14 * 1 ≤ List.length cs3))
 (((Says C 16 [(D.sl (n6) 1 (List.take (n6 * 1) (List.drop 0 cs1))), (D.sl (n14) 1 (List.take (n14 * 1) (List.drop 0 cs3)))] [(D.val (Value.bool true))]) ∧
 (k [(D.val (Value.bool true))])) ∨
 ((Says C 16 [(D.sl (n6) 1 (List.take (n6 * 1) (List.drop 0 cs1))), (D.sl (n14) 1 (List.take (n14 * 1) (List.drop 0 cs3)))] [(D.val (Value.bool false))]) ∧
 (k [(D.val (Value.bool false))])))
 False)
 False)))))
 False)
 (k [(D.val (Value.bool false))]))
 (k [(D.val (Value.bool false))]))
 (k [(D.val (Value.bool false))])))))) ∨
 ((Says C 14 [(D.agg [(D.sl (n0) 1 (List.take (n0 * 1) (List.drop 0 l0))), (D.val (vI x1))]), (D.val (vI x2)), (D.sl (n11) 1 (List.take (n11 * 1) (List.drop 0 cs2)))] [(D.agg [(D.val (vI n12)), (D.val (vI n13))]), (D.val (Value.bool false))]) ∧
 (((Qv (Value.bool false)) ∧
 ((Qv (Value.agg [(vI n12), (vI n13)].toArray)) ∧
 ((Qv (Value.tuple [(Value.agg [(vI n12), (vI n13)].toArray), (Value.bool false)].toArray)) ∧
 (((Qv (Pt 1006 0)) ∧
 (Qv (some (AObj.cells [(vI 0), (vI 0)] 31 false 2)))) ∧
 True)))) ∧
 (((Qv (Value.bool false)) ∧
 True) ∧
 (True ∧
 (bcase (n5 == 0)
 (bcase (if Bool.false = Bool.true then !(n3 == n12 && (n4 == n13 && Bool.true)) else n3 == n12 && (n4 == n13 && Bool.true))
 (bcase (n7 == 0)
 (bcase (decide (0 + n0 * 1 ≤ List.length l0))
 (((Says C 17 [(D.agg [(D.sl (n0) 1 (List.take (n0 * 1) (List.drop 0 l0))), (D.val (vI x1))]), (D.val (vI x2)), (D.val (vI n12))] [D.nil]) ∧
 (bcase (decide (0 + n6 * 1 ≤ List.length cs1))
 (((Says C 16 [(D.sl (n6) 1 (List.take (n6 * 1) (List.drop 0 cs1))), D.nil] [(D.val (Value.bool true))]) ∧
 (k [(D.val (Value.bool true))])) ∨
 ((Says C 16 [(D.sl (n6) 1 (List.take (n6 * 1) (List.drop 0 cs1))), D.nil] [(D.val (Value.bool false))]) ∧
 (k [(D.val (Value.bool false))])))
 False)) ∨
 (∃ n14 : Nat,
 (∃ cs3 : List Go.Value,
 ((Says C 17 [(D.agg [(D.sl (n0) 1 (List.take (n0 * 1) (List.drop 0 l0))), (D.val (vI x1))]), (D.val (vI x2)), (D.val (vI n12))] [(D.sl (n14) 1 (cs3))]) ∧
 (bcase (decide (0 + n6 * 1 ≤ List.length cs1))
 (bcase (decide (0 + n14 * 1 ≤ List.length cs3))
 (((Says C 16 [(D.sl (n6) 1 (List.take (n6 * 1) (List.drop 0 cs1))), (D.sl (n14) 1 (List.take (n14 * 1) (List.drop 0 cs3)))] [(D.val (Value.bool true))]) ∧
 (k [(D.val (Value.bool true))])) ∨
 ((Says C 16 [(D.sl (n6) 1 (List.take (n6 * 1) (List.drop 0 cs1))), (D.sl (n14) 1 (List.take (n14 * 1) (List.drop 0 cs3)))] [(D.val (Value.bool false))]) ∧
 (k [(D.val (Value.bool false))])))
 False)
 False)))))
 False)
 (k [(D.val (Value.bool false))]))
 (k [(D.val (Value.bool false))]))
 (k [(D.val (Value.bool false))])))))))))
 False)
 False))))))
 False))))))
 False)
 (bcase (n9 == 0)
 (bcase (decide ((↑n0 : Int) > 0))
 ((((Qv (Pt 1006 0)) ∧
 (Qv (some (AObj.cells [(vI 0), (vI 0)] 31 false 2)))) ∧
 ((Qv (Value.agg [(Sl 500 (n0) (c0)), (vI x1)].toArray)) ∧
 ((Qv (vI x2)) ∧
 ((Qv (Value.agg [(Sl 500 (n0) (c0)), (vI x1)].toArray)) ∧
 True)))) ∧
 (bcase (decide (0 + n0 * 1 ≤ List.length l0))
 (((Says C 15 [(D.agg [(D.sl (n0) 1 (List.take (n0 * 1) (List.drop 0 l0))), (D.val (vI x1))])] [D.nil]) ∧
 ((((Qv (Pt 1006 0)) ∧
 (Qv (some (AObj.cells [(vI 0), (vI 0)] 31 false 2)))) ∧
 ((Qv (vI x2)) ∧
 ((Qv (Value.agg [(Sl 500 (n0) (c0)), (vI x1)].toArray)) ∧
 True))) ∧
 (bcase (decide (0 + n0 * 1 ≤ List.length l0))
 (∃ n10 : Int,
 (∃ n11 : Int,
 (((Says C 14 [(D.agg [(D.sl (n0) 1 (List.take (n0 * 1) (List.drop 0 l0))), (D.val (vI x1))]), (D.val (vI x2)), D.nil] [(D.agg [(D.val (vI n10)), (D.val (vI n11))]), (D.val (Value.bool true))]) ∧
 (((Qv (Value.bool true)) ∧
 ((Qv (Value.agg [(vI n10), (vI n11)].toArray)) ∧
 ((Qv (Value.tuple [(Value.agg [(vI n10), (vI n11)].toArray), (Value.bool true)].toArray)) ∧
 (((Qv (Pt 1006 0)) ∧
 (Qv (some (AObj.cells [(vI 0), (vI 0)] 31 false 2)))) ∧
 True)))) ∧
 (((Qv (Value.bool true)) ∧
 True) ∧
 (True ∧
 (bcase (n9 != 0)
 (bcase (n5 == n9)
 (bcase (n7 == n9)
 (bcase (if Bool.false = Bool.true then !(n3 == 0 && (n4 == 0 && Bool.true)) else n3 == 0 && (n4 == 0 && Bool.true))
 (bcase ((↑n6 : Int) == 0)
 (k [(D.val (Value.bool true))])
 (k [(D.val (Value.bool false))]))
 (k [(D.val (Value.bool false))]))
 (k [(D.val (Value.bool false))]))
 (k [(D.val (Value.bool false))]))
 ((((Qv (Pt 1007 0)) ∧
 (Qv (some (AObj.cells [(vI 0), (vI 0)] 31 false 2)))) ∧
 ((Qv (Value.agg [(Sl 500 (n0) (c0)), (vI x1)].toArray)) ∧
 ((Qv (vI x2)) ∧
 ((Qv (Value.agg [(Sl 500 (n0) (c0)), (vI x1)].toArray)) ∧
 True)))) ∧
 (bcase (decide (0 + n0 * 1 ≤ List.length l0))
 (((Says C 15 [(D.agg [(D.sl (n0) 1 (List.take (n0 * 1) (List.drop 0 l0))), (D.val (vI x1))])] [D.nil]) ∧
 ((((Qv (Pt 1007 0)) ∧
 (Qv (some (AObj.cells [(vI 0), (vI 0)] 31 false 2)))) ∧
 ((Qv (vI x2)) ∧
 ((Qv (Value.agg [(Sl 500 (n0) (c0)), (vI x1)].toArray)) ∧
 True))) ∧
 (bcase (decide (0 + n0 * 1 ≤ List.length l0))
 (∃ n12 : Int,
 (∃ n13 : Int,
 (((Says C 14 [(D.agg [(D.sl (n0) 1 (List.take (n0 * 1) (List.drop 0 l0))), (D.val (vI x1))]), (D.val (vI x2)), D.nil] [(D.agg [(D.val (vI n12)), (D.val (vI n13))]), (D.val (Value.bool true))]) ∧
 (((Qv (Value.bool true)) ∧
 ((Qv (Value.agg [(vI n12), (vI n13)].toArray)) ∧
 ((Qv (Value.tuple [(Value.agg [(vI n12), (vI n13)].toArray), (Value.bool true)].toArray)) ∧
 (((Qv (Pt 1007 0)) ∧
 (Qv (some (AObj.cells [(vI 0), (vI 0)] 31 false 2)))) ∧
 True)))) ∧
 (((Qv (Value.bool true)) ∧
 True) ∧
 (True ∧
 (bcase (n5 == 0)
 (bcase (if Bool.false = Bool.true then !(n3 == n12 && (n4 == n13 && Bool.true)) else n3 == n12 && (n4 == n13 && Bool.true))
 (bcase (n7 == 0)
 (bcase (decide (0 + n0 * 1 ≤ List.length l0))
 (((Says C 17 [(D.agg [(D.sl (n0) 1 (List.take (n0 * 1) (List.drop 0 l0))), (D.val (vI x1))]), (D.val (vI x2)), (D.val (vI n12))] [D.nil]) ∧
 (bcase (decide (0 + n6 * 1 ≤ List.length cs1))
 (((Says C 16 [(D.sl (n6) 1 (List.take (n6 * 1) (List.drop 0 cs1))), D.nil] [(D.val (Value.bool true))]) ∧
 (k [(D.val (Value.bool true))])) ∨
 ((Says C 16 [(D.sl (n6) 1 (List.take (n6 * 1) (List.drop 0 cs1))), D.nil] [(D.val (Value.bool false))]) ∧
 (k [(D.val (Value.bool false))])))
 False)) ∨
 (∃ n14 : Nat,
 (∃ cs2 : List Go.Value,
 ((Says C 17 [(D.agg [(D.sl (n0) 1 (List.take (n0 * 1) (List.drop 0 l0))), (D.val (vI x1))]), (D.val (vI x2)), (D.val (vI n12))] [(D.sl (n14) 1 (cs2))]) ∧
 (bcase (decide (0 + n6 * 1 ≤ List.length cs1))
 (bcase (decide (0 + n14 * 1 ≤ List.length cs2))
 (((Says C 16 [(D.sl (n6) 1 (List.take (n6 * 1) (List.drop 0 cs1))), (D.sl (n14) 1 (List.take (n14 * 1) (List.drop 0 cs2)))] [(D.val (Value.bool true))]) ∧
 (k [(D.val (Value.bool true))])) ∨
 ((Says C 16 [(D.sl (n6) 1 (List.take (n6 * 1) (List.drop 0 cs1))), (D.sl (n14) 1 (List.take (n14 * 1) (List.drop 0 cs2)))] [(D.val (Value.bool false))]) ∧
 (k [(D.val (Value.bool false))])))
 False)
 False)))))
 False)
 (k [(D.val (Value.bool false))]))
 (k [(D.val (Value.bool false))]))
 (k [(D.val (Value.bool false))])))))) ∨
 ((Says C 14 [(D.agg [(D.sl (n0) 1 (List.take (n0 * 1) (List.drop 0 l0))), (D.val (vI x1))]), (D.val (vI x2)), D.nil] [(D.agg [(D.val (vI n12)), (D.val (vI n13))]), (D.val (Value.bool false))]) ∧
 (((Qv (Value.bool false)) ∧
 ((Qv (Value.agg [(vI n12), (vI n13)].toArray)) ∧
 ((Qv (Value.tuple [(Value.agg [(vI n12), (vI n13)].toArray), (Value.bool false)].toArray)) ∧
 (((Qv (Pt 1007 0)) ∧
 (Qv (some (AObj.cells [(vI 0), (vI 0)] 31 false 2)))) ∧
 True)))) ∧
 (((Qv (Value.bool false)) ∧
 True) ∧
 (True ∧
 (bcase (n5 == 0)
 (bcase (if Bool.false = Bool.true then !(n3 == n12 && (n4 == n13 && Bool.true)) else n3 == n12 && (n4 == n13 && Bool.true))
 (bcase (n7 == 0)
 (bcase (decide (0 + n0 * 1 ≤ List.length l0))
 (((Says C 17 [(D.agg [(D.sl (n0) 1 (List.take (n0 * 1) (List.drop 0 l0))), (D.val (vI x1))]), (D.val (vI x2)), (D.val (vI n12))] [D.nil]) ∧
 (bcase (decide (0 + n6 * 1 ≤ List.length cs1))
 (((Says C 16 [(D.sl (n6) 1 (List.take (n6 * 1) (List.drop 0 cs1))), D.nil] [(D.val (Value.bool true))]) ∧
 (k [(D.val (Value.bool true))])) ∨
 ((Says C 16 [(D.sl (n6) 1 (List.take (n6 * 1) (List.drop 0 cs1))), D.nil] [(D.val (Value.bool false))]) ∧
 (k [(D.val (Value.bool false))])))
 False)) ∨
 (∃ n14 : Nat,
 (∃ cs2 : List Go.Value,
 ((Says C 17 [(D.agg [(D.sl (n0) 1 (List.take (n0 * 1) (List.drop 0 l0))), (D.val (vI x1))]), (D.val (vI x2)), (D.val (vI n12))] [(D.sl (n14) 1 (cs2))]) ∧
 (bcase (decide (0 + n6 * 1 ≤ List.length cs1))
 (bcase (decide (0 + n14 * 1 ≤ List.length cs2))
 (((Says C 16 [(D.sl (n6) 1 (List.take (n6 * 1) (List.drop 0 cs1))), (D.sl (n14) 1 (List.take (n14 * 1) (List.drop 0 cs2)))] [(D.val (Value.bool true))]) ∧
 (k [(D.val (Value.bool true))])) ∨
 ((Says C 16 [(D.sl (n6) 1 (List.take (n6 * 1) (List.drop 0 cs1))), (D.sl (n14) 1 (List.take (n14 * 1) (List.drop 0 cs2)))] [(D.val (Value.bool false))]) ∧
 (k [(D.val (Value.bool false))])))
 False)
 False)))))
 False)
 (k [(D.val (Value.bool false))]))
 (k [(D.val (Value.bool false))]))
 (k [(D.val (Value.bool false))])))))))))
 False))) ∨
 (∃ n12 : Nat,
 (∃ cs2 : List Go.Value,
 ((Says C 15 [(D.agg [(D.sl (n0) 1 (List.take (n0 * 1) (List.drop 0 l0))), (D.val (vI x1))])] [(D.sl (n12) 1 (cs2))]) ∧
 ((((Qv (Pt 1007 0)) ∧
 (Qv (some (AObj.cells [(vI 0), (vI 0)] 31 false 2)))) ∧
 ((Qv (vI x2)) ∧
 ((Qv (Value.agg [(Sl 500 (n0) (c0)), (vI x1)].toArray)) ∧
 True))) ∧
 (bcase (decide (0 + n0 * 1 ≤ List.length l0))
 (bcase (decide (0 + n12 * 1 ≤ List.length cs2))
 (∃ n13 : Int,
 (∃ n14 : Int,
 (((Says C 14 [(D.agg [(D.sl (n0) 1 (List.take (n0 * 1) (List.drop 0 l0))), (D.val (vI x1))]), (D.val (vI x2)), (D.sl (n12) 1 (List.take (n12 * 1) (List.drop 0 cs2)))] [(D.agg [(D.val (vI n13)), (D.val (vI n14))]), (D.val (Value.bool true))]) ∧
 (((Qv (Value.bool true)) ∧
 ((Qv (Value.agg [(vI n13), (vI n14)].toArray)) ∧
 ((Qv (Value.tuple [(Value.agg [(vI n13), (vI n14)].toArray), (Value.bool true)].toArray)) ∧
 (((Qv (Pt 1007 0)) ∧
 (Qv (some (AObj.cells [(vI 0), (vI 0)] 31 false 2)))) ∧
 True)))) ∧
 (((Qv (Value.bool true)) ∧
 True) ∧
 (True ∧
 (bcase (n5 == 0)
 (bcase (if Bool.false = Bool.true then !(n3 == n13 && (n4 == n14 && Bool.true)) else n3 == n13 && (n4 == n14 && Bool.true))
 (bcase (n7 == 0)
 (bcase (decide (0 + n0 * 1 ≤ List.length l0))
 (((Says C 17 [(D.agg [(D.sl (n0) 1 (List.take (n0 * 1) (List.drop 0 l0))), (D.val (vI x1))]), (D.val (vI x2)), (D.val (vI n13))] [D.nil]) ∧
 (bcase (decide (0 + n6 * 1 ≤ List.length cs1))
 (((Says C 16 [(D.sl (n6) 1 (List.take (n6 * 1) (List.drop 0 cs1))), D.nil] [(D.val (Value.bool true))]) ∧
 (k [(D.val (Value.bool true))])) ∨
 ((Says C 16 [(D.sl (n6) 1 (List.take (n6 * 1) (List.drop 0 cs1))), D.nil] [(D.val (Value.bool false))]) ∧
 (k [(D.val (Value.bool false))])))
 False)) ∨
 (∃ n15 : Nat,
 (∃ cs3 : List Go.Value,
 ((Says C 17 [(D.agg [(D.sl (n0) 1 (List.take (n0 * 1) (List.drop 0 l0))), (D.val (vI x1))]), (D.val (vI x2)), (D.val (vI n13))] [(D.sl (n15) 1 (cs3))]) ∧
 (bcase (decide (0 + n6 * 1 ≤ List.length cs1))
 (bcase (decide (0 + n15 * 1 ≤ List.length cs3))
 (((Says C 16 [(D.sl (n6) 1 (List.take (n6 * 1) (List.drop 0 cs1))), (D.sl (n15) 1 (List.take (n15 * 1) (List.drop 0 cs3)))] [(D.val (Value.bool true))]) ∧
 (k [(D.val (Value.bool true))])) ∨
 ((Says C 16 [(D.sl (n6) 1 (List.take (n6 * 1) (List.drop 0 cs1))), (D.sl (n15) 1 (List.take (n15 * 1) (List.drop 0 cs3)))] [(D.val (Value.bool false))]) ∧
 (k [(D.val (Value.bool false))])))
 False)
 False)))))
 False)
 (k [(D.val (Value.bool false))]))
 (k [(D.val (Value.bool false))]))
 (k [(D.val (Value.bool false))])))))) ∨
 ((Says C 14 [(D.agg [(D.sl (n0) 1 (List.take (n0 * 1) (List.drop 0 l0))), (D.val (vI x1))]), (D.val (vI x2)), (D.sl (n12) 1 (List.take (n12 * 1) (List.drop 0 cs2)))] [(D.agg [(D.val (vI n13)), (D.val (vI n14))]), (D.val (Value.bool false))]) ∧
 (((Qv (Value.bool false)) ∧
 ((Qv (Value.agg [(vI n13), (vI n14)].toArray)) ∧
 ((Qv (Value.tuple [(Value.agg [(vI n13), (vI n14)].toArray), (Value.bool false)].toArray)) ∧
 (((Qv (Pt 1007 0)) ∧
 (Qv (some (AObj.cells [(vI 0), (vI 0)] 31 false 2)))) ∧
 True)))) ∧
 (((Qv (Value.bool false)) ∧
 True) ∧
 (True ∧
 (bcase (n5 == 0)
 (bcase (if Bool.false = Bool.true then !(n3 == n13 && (n4 == n14 && Bool.true)) else n3 == n13 && (n4 == n14 && Bool.true))
 (bcase (n7 == 0)
 (bcase (decide (0 + n0 * 1 ≤ List.length l0))
 (((Says C 17 [(D.agg [(D.sl (n0) 1 (List.take (n0 * 1) (List.drop 0 l0))), (D.val (vI x1))]), (D.val (vI x2)), (D.val (vI n13))] [D.nil]) ∧
 (bcase (decide (0 + n6 * 1 ≤ List.length cs1))
 (((Says C 16 [(D.sl (n6) 1 (List.take (n6 * 1) (List.drop 0 cs1))), D.nil] [(D.val (Value.bool true))]) ∧
 (k [(D.val (Value.bool true))])) ∨
 ((Says C 16 [(D.sl (n6) 1 (List.take (n6 * 1) (List.drop 0 cs1))), D.nil] [(D.val (Value.bool false))]) ∧
 (k [(D.val (Value.bool false))])))
 False)) ∨
 (∃ n15 : Nat,
 (∃ cs3 : List Go.Value,
 ((Says C 17 [(D.agg [(D.sl (n0) 1 (List.take (n0 * 1) (List.drop 0 l0))), (D.val (vI x1))]), (D.val (vI x2)), (D.val (vI n13))] [(D.sl (n15) 1 (cs3))]) ∧
 (bcase (decide (0 + n6 * 1 ≤ List.length cs1))
 (bcase (decide (0 + n15 * 1 ≤ List.length cs3))
 (((Says C 16 [(D.sl (n6) 1 (List.take (n6 * 1) (List.drop 0 cs1))), (D.sl (n15) 1 (List.take (n15 * 1) (List.drop 0 cs3)))] [(D.val (Value.bool true))]) ∧
 (k [(D.val (Value.bool true))])) ∨
 ((Says C 16 [(D.sl (n6) 1 (List.take (n6 * 1) (List.drop 0 cs1))), (D.sl (n15) 1 (List.take (n15 * 1) (List.drop 0 cs3)))] [(D.val (Value.bool false))]) ∧
 (k [(D.val (Value.bool false))])))
 False)
 False)))))
 False)
 (k [(D.val (Value.bool false))]))
 (k [(D.val (Value.bool false))]))
 (k [(D.val (Value.bool false))])))))))))
 False)
 False))))))
 False))))))) ∨
 ((Says C 14 [(D.agg [(D.sl (n0) 1 (List.take (n0 * 1) (List.drop 0 l0))), (D.val (vI x1))]), (D.val (vI x2)), D.nil] [(D.agg [(D.val (vI n10)), (D.val (vI n11))]), (D.val (Value.bool false))]) ∧
 (((Qv (Value.bool false)) ∧
 ((Qv (Value.agg [(vI n10), (vI n11)].toArray)) ∧
 ((Qv (Value.tuple [(Value.agg [(vI n10), (vI n11)].toArray), (Value.bool false)].toArray)) ∧
 (((Qv (Pt 1006 0)) ∧
 (Qv (some (AObj.cells [(vI 0), (vI 0)] 31 false 2)))) ∧
 True)))) ∧
 (((Qv (Value.bool false)) ∧
 True) ∧
 (True ∧
 (bcase (n5 == 12)
 (bcase (n7 == 12)
 (bcase (if Bool.false = Bool.true then !(n3 == 0 && (n4 == 0 && Bool.true)) else n3 == 0 && (n4 == 0 && Bool.true))
 (bcase ((↑n6 : Int) == 0)
 (k [(D.val (Value.bool true))])
 (k [(D.val (Value.bool false))]))
 (k [(D.val (Value.bool false))]))
 (k [(D.val (Value.bool false))]))
 (k [(D.val (Value.bool false))])))))))))
 False))) ∨
 (∃ n10 : Nat,
 (∃ cs2 : List Go.Value,
 ((Says C 15 [(D.agg [(D.sl (n0) 1 (List.take (n0 * 1) (List.drop 0 l0))), (D.val (vI x1))])] [(D.sl (n10) 1 (cs2))]) ∧
 ((((Qv (Pt 1006 0)) ∧
 (Qv (some (AObj.cells [(vI 0), (vI 0)] 31 false 2)))) ∧
 ((Qv (vI x2)) ∧
 ((Qv (Value.agg [(Sl 500 (n0) (c0)), (vI x1)].toArray)) ∧
 True))) ∧
 (bcase (decide (0 + n0 * 1 ≤ List.length l0))
 (bcase (decide (0 + n10 * 1 ≤ List.length cs2))
 (∃ n11 : Int,
 (∃ n12 : Int,
 (((Says C 14 [(D.agg [(D.sl (n0) 1 (List.take (n0 * 1) (List.drop 0 l0))), (D.val (vI x1))]), (D.val (vI x2)), (D.sl (n10) 1 (List.take (n10 * 1) (List.drop 0 cs2)))] [(D.agg [(D.val (vI n11)), (D.val (vI n12))]), (D.val (Value.bool true))]) ∧
 (((Qv (Value.bool true)) ∧
 ((Qv (Value.agg [(vI n11), (vI n12)].toArray)) ∧
 ((Qv (Value.tuple [(Value.agg [(vI n11), (vI n12)].toArray), (Value.bool true)].toArray)) ∧
 (((Qv (Pt 1006 0)) ∧
 (Qv (some (AObj.cells [(vI 0), (vI 0)] 31 false 2)))) ∧
 True)))) ∧
 (((Qv (Value.bool true)) ∧
 True) ∧
 (True ∧
 (bcase (n9 != 0)
 (bcase (n5 == n9)
 (bcase (n7 == n9)
 (bcase (if Bool.false = Bool.true then !(n3 == 0 && (n4 == 0 && Bool.true)) else n3 == 0 && (n4 == 0 && Bool.true))
 (bcase ((↑n6 : Int) == 0)
 (k [(D.val (Value.bool true))])
 (k [(D.val (Value.bool false))]))
 (k [(D.val (Value.bool false))]))
 (k [(D.val (Value.bool false))]))
 (k [(D.val (Value.bool false))]))
 ((((Qv (Pt 1008 0)) ∧
 (Qv (some (AObj.cells [(vI 0), (vI 0)] 31 false 2)))) ∧
 ((Qv (Value.agg [(Sl 500 (n0) (c0)), (vI x1)].toArray)) ∧
 ((Qv (vI x2)) ∧
 ((Qv (Value.agg [(Sl 500 (n0) (c0)), (vI x1)].toArray)) ∧
 True)))) ∧
 (bcase (decide (0 + n0 * 1 ≤ List.length l0))
 (((Says C 15 [(D.agg [(D.sl (n0) 1 (List.take (n0 * 1) (List.drop 0 l0))), (D.val (vI x1))])] [D.nil]) ∧
 ((((Qv (Pt 1008 0)) ∧
 (Qv (some (AObj.cells [(vI 0), (vI 0)] 31 false 2)))) ∧
 ((Qv (vI x2)) ∧
 ((Qv (Value.agg [(Sl 500 (n0) (c0)), (vI x1)].toArray)) ∧
 True))) ∧
 (bcase (decide (0 + n0 * 1 ≤ List.length l0))
 (∃ n13 : Int,
 (∃ n14 : Int,
 (((Says C 14 [(D.agg [(D.sl (n0) 1 (List.take (n0 * 1) (List.drop 0 l0))), (D.val (vI x1))]), (D.val (vI x2)), D.nil] [(D.agg [(D.val (vI n13)), (D.val (vI n14))]), (D.val (Value.bool true))]) ∧
 (((Qv (Value.bool true)) ∧
 ((Qv (Value.agg [(vI n13), (vI n14)].toArray)) ∧
 ((Qv (Value.tuple [(Value.agg [(vI n13), (vI n14)].toArray), (Value.bool true)].toArray)) ∧
 (((Qv (Pt 1008 0)) ∧
 (Qv (some (AObj.cells [(vI 0), (vI 0)] 31 false 2)))) ∧
 True)))) ∧
 (((Qv (Value.bool true)) ∧
 True) ∧
 (True ∧
 (bcase (n5 == 0)
 (bcase (if Bool.false = Bool.true then !(n3 == n13 && (n4 == n14 && Bool.true)) else n3 == n13 && (n4 == n14 && Bool.true))
 (bcase (n7 == 0)
 (bcase (decide (0 + n0 * 1 ≤ List.length l0))
 (((Says C 17 [(D.agg [(D.sl (n0) 1 (List.take (n0 * 1) (List.drop 0 l0))), (D.val (vI x1))]), (D.val (vI x2)), (D.val (vI n13))] [D.nil]) ∧
 (bcase (decide (0 + n6 * 1 ≤ List.length cs1))
 (((Says C 16 [(D.sl (n6) 1 (List.take (n6 * 1) (List.drop 0 cs1))), D.nil] [(D.val (Value.bool true))]) ∧
 (k [(D.val (Value.bool true))])) ∨
 ((Says C 16 [(D.sl (n6) 1 (List.take (n6 * 1) (List.drop 0 cs1))), D.nil] [(D.val (Value.bool false))]) ∧
 (k [(D.val (Value.bool false))])))
 False)) ∨
 (∃ n15 : Nat,
 (∃ cs3 : List Go.Value,
 ((Says C 17 [(D.agg [(D.sl (n0) 1 (List.take (n0 * 1) (List.drop 0 l0))), (D.val (vI x1))]), (D.val (vI x2)), (D.val (vI n13))] [(D.sl (n15) 1 (cs3))]) ∧
 (bcase (decide (0 + n6 * 1 ≤ List.length cs1))
 (bcase (decide (0 + n15 * 1 ≤ List.length cs3))
 (((Says C 16 [(D.sl (n6) 1 (List.take (n6 * 1) (List.drop 0 cs1))), (D.sl (n15) 1 (List.take (n15 * 1) (List.drop 0 cs3)))] [(D.val (Value.bool true))]) ∧
 (k [(D.val (Value.bool true))])) ∨
 ((Says C 16 [(D.sl (n6) 1 (List.take (n6 * 1) (List.drop 0 cs1))), (D.sl (n15) 1 (List.take (n15 * 1) (List.drop 0 cs3)))] [(D.val (Value.bool false))]) ∧
 (k [(D.val (Value.bool false))])))
 False)
 False)))))
 False)
 (k [(D.val (Value.bool false))]))
 (k [(D.val (Value.bool false))]))
 (k [(D.val (Value.bool false))])))))) ∨
 ((Says C 14 [(D.agg [(D.sl (n0) 1 (List.take (n0 * 1) (List.drop 0 l0))), (D.val (vI x1))]), (D.val (vI x2)), D.nil] [(D.agg [(D.val (vI n13)), (D.val (vI n14))]), (D.val (Value.bool false))]) ∧
 (((Qv (Value.bool false)) ∧
 ((Qv (Value.agg [(vI n13), (vI n14)].toArray)) ∧
 ((Qv (Value.tuple [(Value.agg [(vI n13), (vI n14)].toArray), (Value.bool false)].toArray)) ∧
 (((Qv (Pt 1008 0)) ∧
 (Qv (some (AObj.cells [(vI 0), (vI 0)] 31 false 2)))) ∧
 True)))) ∧
 (((Qv (Value.bool false)) ∧
 True) ∧
 (True ∧
 (bcase (n5 == 0)
 (bcase (if Bool.false = Bool.true then !(n3 == n13 && (n4 == n14 && Bool.true)) else n3 == n13 && (n4 == n14 && Bool.true))
 (bcase (n7 == 0)
 (bcase (decide (0 + n0 * 1 ≤ List.length l0))
 (((Says C 17 [(D.agg [(D.sl (n0) 1 (List.take (n0 * 1) (List.drop 0 l0))), (D.val (vI x1))]), (D.val (vI x2)), (D.val (vI n13))] [D.nil]) ∧
 (bcase (decide (0 + n6 * 1 ≤ List.length cs1))
 (((Says C 16 [(D.sl (n6) 1 (List.take (n6 * 1) (List.drop 0 cs1))), D.nil] [(D.val (Value.bool true))]) ∧
 (k [(D.val (Value.bool true))])) ∨
 ((Says C 16 [(D.sl (n6) 1 (List.take (n6 * 1) (List.drop 0 cs1))), D.nil] [(D.val (Value.bool false))]) ∧
 (k [(D.val (Value.bool false))])))
 False)) ∨
 (∃ n15 : Nat,
 (∃ cs3 : List Go.Value,
 ((Says C 17 [(D.agg [(D.sl (n0) 1 (List.take (n0 * 1) (List.drop 0 l0))), (D.val (vI x1))]), (D.val (vI x2)), (D.val (vI n13))] [(D.sl (n15) 1 (cs3))]) ∧
 (bcase (decide (0 + n6 * 1 ≤ List.length cs1))
 (bcase (decide (0 + n15 * 1 ≤ List.length cs3))
 (((Says C 16 [(D.sl (n6) 1 (List.take (n6 * 1) (List.drop 0 cs1))), (D.sl (n15) 1 (List.take (n15 * 1) (List.drop 0 cs3)))] [(D.val (Value.bool true))]) ∧
 (k [(D.val (Value.bool true))])) ∨
 ((Says C 16 [(D.sl (n6) 1 (List.take (n6 * 1) (List.drop 0 cs1))), (D.sl (n15) 1 (List.take (n15 * 1) (List.drop 0 cs3)))] [(D.val (Value.bool false))]) ∧
 (k [(D.val (Value.bool false))])))
 False)
 False)))))
 False)
 (k [(D.val (Value.bool false))]))
 (k [(D.val (Value.bool false))]))
 (k [(D.val (Value.bool false))])))))))))
 False))) ∨
 (∃ n13 : Nat,
 (∃ cs3 : List Go.Value,
 ((Says C 15 [(D.agg [(D.sl (n0) 1 (List.take (n0 * 1) (List.drop 0 l0))), (D.val (vI x1))])] [(D.sl (n13) 1 (cs3))]) ∧
 ((((Qv (Pt 1008 0)) ∧
 (Qv (some (AObj.cells [(vI 0), (vI 0)] 31 false 2)))) ∧
 ((Qv (vI x2)) ∧
 ((Qv (Value.agg [(Sl 500 (n0) (c0)), (vI x1)].toArray)) ∧
 True))) ∧
 (bcase (decide (0 + n0 * 1 ≤ List.length l0))
 (bcase (decide (0 + n13 * 1 ≤ List.length cs3))
 (∃ n14 : Int,
 (∃ n15 : Int,
 (((Says C 14 [(D.agg [(D.sl (n0) 1 (List.take (n0 * 1) (List.drop 0 l0))), (D.val (vI x1))]), (D.val (vI x2)), (D.sl (n13) 1 (List.take (n13 * 1) (List.drop 0 cs3)))] [(D.agg [(D.val (vI n14)), (D.val (vI n15))]), (D.val (Value.bool true))]) ∧
 (((Qv (Value.bool true)) ∧
 ((Qv (Value.agg [(vI n14), (vI n15)].toArray)) ∧
 ((Qv (Value.tuple [(Value.agg [(vI n14), (vI n15)].toArray), (Value.bool true)].toArray)) ∧
 (((Qv (Pt 1008 0)) ∧
 (Qv (some (AObj.cells [(vI 0), (vI 0)] 31 false 2)))) ∧
 True)))) ∧
 (((Qv (Value.bool true)) ∧
 True) ∧
 (True ∧
 (bcase (n5 == 0)
 (bcase (if Bool.false = Bool.true then !(n3 == n14 && (n4 == n15 && Bool.true)) else n3 == n14 && (n4 == n15 && Bool.true))
 (bcase (n7 == 0)
 (bcase (decide (0 + n0 * 1 ≤ List.length l0))
 (((Says C 17 [(D.agg [(D.sl (n0) 1 (List.take (n0 * 1) (List.drop 0 l0))), (D.val (vI x1))]), (D.val (vI x2)), (D.val (vI n14))] [D.nil]) ∧
 (bcase (decide (0 + n6 * 1 ≤ List.length cs1))
 (((Says C 16 [(D.sl (n6) 1 (List.take (n6 * 1) (List.drop 0 cs1))), D.nil] [(D.val (Value.bool true))]) ∧
 (k [(D.val (Value.bool true))])) ∨
 ((Says C 16 [(D.sl (n6) 1 (List.take (n6 * 1) (List.drop 0 cs1))), D.nil] [(D.val (Value.bool false))]) ∧
 (k [(D.val (Value.bool false))])))
 False)) ∨
 (∃ n16 : Nat,
 (∃ cs4 : List Go.Value,
 ((Says C 17 [(D.agg [(D.sl (n0) 1 (List.take (n0 * 1) (List.drop 0 l0))), (D.val (vI x1))]), (D.val (vI x2)), (D.val (vI n14))] [(D.sl (n16) 1 (cs4))]) ∧
 (bcase (decide (0 + n6 * 1 ≤ List.length cs1))
 (bcase (decide (0 + n16 * 1 ≤ List.length cs4))
 (((Says C 16 [(D.sl (n6) 1 (List.take (n6 * 1) (List.drop 0 cs1))), (D.sl (n16) 1 (List.take (n16 * 1) (List.drop 0 cs4)))] [(D.val (Value.bool true))]) ∧
 (k [(D.val (Value.bool true))])) ∨
 ((Says C 16 [(D.sl (n6) 1 (List.take (n6 * 1) (List.drop 0 cs1))), (D.sl (n16) 1 (List.take (n16 * 1) (List.drop 0 cs4)))] [(D.val (Value.bool false))]) ∧
 (k [(D.val (Value.bool false))])))
 False)
 False)))))
 False)
 (k [(D.val (Value.bool false))]))
 (k [(D.val (Value.bool false))]))
 (k [(D.val (Value.bool false))])))))) ∨
 ((Says C 14 [(D.agg [(D.sl (n0) 1 (List.take (n0 * 1) (List.drop 0 l0))), (D.val (vI x1))]), (D.val (vI x2)), (D.sl (n13) 1 (List.take (n13 * 1) (List.drop 0 cs3)))] [(D.agg [(D.val (vI n14)), (D.val (vI n15))]), (D.val (Value.bool false))]) ∧
 (((Qv (Value.bool false)) ∧
 ((Qv (Value.agg [(vI n14), (vI n15)].toArray)) ∧
 ((Qv (Value.tuple [(Value.agg [(vI n14), (vI n15)].toArray), (Value.bool false)].toArray)) ∧
 (((Qv (Pt 1008 0)) ∧
 (Qv (some (AObj.cells [(vI 0), (vI 0)] 31 false 2)))) ∧
 True)))) ∧
 (((Qv (Value.bool false)) ∧
 True) ∧
 (True ∧
 (bcase (n5 == 0)
 (bcase (if Bool.false = Bool.true then !(n3 == n14 && (n4 == n15 && Bool.true)) else n3 == n14 && (n4 == n15 && Bool.true))
 (bcase (n7 == 0)
 (bcase (decide (0 + n0 * 1 ≤ List.length l0))
 (((Says C 17 [(D.agg [(D.sl (n0) 1 (List.take (n0 * 1) (List.drop 0 l0))), (D.val (vI x1))]), (D.val (vI x2)), (D.val (vI n14))] [D.nil]) ∧
 (bcase (decide (0 + n6 * 1 ≤ List.length cs1))
 (((Says C 16 [(D.sl (n6) 1 (List.take (n6 * 1) (List.drop 0 cs1))), D.nil] [(D.val (Value.bool true))]) ∧
 (k [(D.val (Value.bool true))])) ∨
 ((Says C 16 [(D.sl (n6) 1 (List.take (n6 * 1) (List.drop 0 cs1))), D.nil] [(D.val (Value.bool false))]) ∧
 (k [(D.val (Value.bool false))])))
 False)) ∨
 (∃ n16 : Nat,
 (∃ cs4 : List Go.Value,
 ((Says C 17 [(D.agg [(D.sl (n0) 1 (List.take (n0 * 1) (List.drop 0 l0))), (D.val (vI x1))]), (D.val (vI x2)), (D.val (vI n14))] [(D.sl (n16) 1 (cs4))]) ∧
 (bcase (decide (0 + n6 * 1 ≤ List.length cs1))
 (bcase (decide (0 + n16 * 1 ≤ List.length cs4))
 (((Says C 16 [(D.sl (n6) 1 (List.take (n6 * 1) (List.drop 0 cs1))), (D.sl (n16) 1 (List.take (n16 * 1) (List.drop 0 cs4)))] [(D.val (Value.bool true))]) ∧
 (k [(D.val (Value.bool true))])) ∨
 ((Says C 16 [(D.sl (n6) 1 (List.take (n6 * 1) (List.drop 0 cs1))), (D.sl (n16) 1 (List.take (n16 * 1) (List.drop 0 cs4)))] [(D.val (Value.bool false))]) ∧
 (k [(D.val (Value.bool false))])))
 False)
 False)))))
 False)
 (k [(D.val (Value.bool false))]))
 (k [(D.val (Value.bool false))]))
 (k [(D.val (Value.bool false))])))))))))
 False)
 False))))))
 False))))))) ∨
 ((Says C 14 [(D.agg [(D.sl (n0) 1 (List.take (n0 * 1) (List.drop 0 l0))), (D.val (vI x1))]), (D.val (vI x2)), (D.sl (n10) 1 (List.take (n10 * 1) (List.drop 0 cs2)))] [(D.agg [(D.val (vI n11)), (D.val (vI n12))]), (D.val (Value.bool false))]) ∧
 (((Qv (Value.bool false)) ∧
 ((Qv (Value.agg [(vI n11), (vI n12)].toArray)) ∧
 ((Qv (Value.tuple [(Value.agg [(vI n11), (vI n12)].toArray), (Value.bool false)].toArray)) ∧
 (((Qv (Pt 1006 0)) ∧
 (Qv (some (AObj.cells [(vI 0), (vI 0)] 31 false 2)))) ∧
 True)))) ∧
 (((Qv (Value.bool false)) ∧
 True) ∧
 (True ∧
 (bcase (n5 == 12)
 (bcase (n7 == 12)
 (bcase (if Bool.false = Bool.true then !(n3 == 0 && (n4 == 0 && Bool.true)) else n3 == 0 && (n4 == 0 && Bool.true))
 (bcase ((↑n6 : Int) == 0)
 (k [(D.val (Value.bool true))])
 (k [(D.val (Value.bool false))]))
 (k [(D.val (Value.bool false))]))
 (k [(D.val (Value.bool false))]))
 (k [(D.val (Value.bool false))])))))))))
 False)
 False))))))
 False))
 (bcase (n9 != 0)
 (bcase (n5 == n9)
 (bcase (n7 == n9)
 (bcase (if Bool.false = Bool.true then !(n3 == 0 && (n4 == 0 && Bool.true)) else n3 == 0 && (n4 == 0 && Bool.true))
 (bcase ((↑n6 : Int) == 0)
 (k [(D.val (Value.bool true))])
 (k [(D.val (Value.bool false))]))
 (k [(D.val (Value.bool false))]))
 (k [(D.val (Value.bool false))]))
 (k [(D.val (Value.bool false))]))
 ((((Qv (Pt 1006 0)) ∧
 (Qv (some (AObj.cells [(vI 0), (vI 0)] 31 false 2)))) ∧
 ((Qv (Value.agg [(Sl 500 (n0) (c0)), (vI x1)].toArray)) ∧
 ((Qv (vI x2)) ∧
 ((Qv (Value.agg [(Sl 500 (n0) (c0)), (vI x1)].toArray)) ∧
 True)))) ∧
 (bcase (decide (0 + n0 * 1 ≤ List.length l0))
 (((Says C 15 [(D.agg [(D.sl (n0) 1 (List.take (n0 * 1) (List.drop 0 l0))), (D.val (vI x1))])] [D.nil]) ∧
 ((((Qv (Pt 1006 0)) ∧
 (Qv (some (AObj.cells [(vI 0), (vI 0)] 31 false 2)))) ∧
 ((Qv (vI x2)) ∧
 ((Qv (Value.agg [(Sl 500 (n0) (c0)), (vI x1)].toArray)) ∧
 True))) ∧
 (bcase (decide (0 + n0 * 1 ≤ List.length l0))
 (∃ n10 : Int,
 (∃ n11 : Int,
 (((Says C 14 [(D.agg [(D.sl (n0) 1 (List.take (n0 * 1) (List.drop 0 l0))), (D.val (vI x1))]), (D.val (vI x2)), D.nil] [(D.agg [(D.val (vI n10)), (D.val (vI n11))]), (D.val (Value.bool true))]) ∧
 (((Qv (Value.bool true)) ∧
 ((Qv (Value.agg [(vI n10), (vI n11)].toArray)) ∧
 ((Qv (Value.tuple [(Value.agg [(vI n10), (vI n11)].toArray), (Value.bool true)].toArray)) ∧
 (((Qv (Pt 1006 0)) ∧
 (Qv (some (AObj.cells [(vI 0), (vI 0)] 31 false 2)))) ∧
 True)))) ∧
 (((Qv (Value.bool true)) ∧
 True) ∧
 (True ∧
 (bcase (n5 == 0)
 (bcase (if Bool.false = Bool.true then !(n3 == n10 && (n4 == n11 && Bool.true)) else n3 == n10 && (n4 == n11 && Bool.true))
 (bcase (n7 == 0)
 (bcase (decide (0 + n0 * 1 ≤ List.length l0))
 (((Says C 17 [(D.agg [(D.sl (n0) 1 (List.take (n0 * 1) (List.drop 0 l0))), (D.val (vI x1))]), (D.val (vI x2)), (D.val (vI n10))] [D.nil]) ∧
 (bcase (decide (0 + n6 * 1 ≤ List.length cs1))
 (((Says C 16 [(D.sl (n6) 1 (List.take (n6 * 1) (List.drop 0 cs1))), D.nil] [(D.val (Value.bool true))]) ∧
 (k [(D.val (Value.bool true))])) ∨
 ((Says C 16 [(D.sl (n6) 1 (List.take (n6 * 1) (List.drop 0 cs1))), D.nil] [(D.val (Value.bool false))]) ∧
 (k [(D.val (Value.bool false))])))
 False)) ∨
 (∃ n12 : Nat,
 (∃ cs2 : List Go.Value,
 ((Says C 17 [(D.agg [(D.sl (n0) 1 (List.take (n0 * 1) (List.drop 0 l0))), (D.val (vI x1))]), (D.val (vI x2)), (D.val (vI n10))] [(D.sl (n12) 1 (cs2))]) ∧
 (bcase (decide (0 + n6 * 1 ≤ List.length cs1))
 (bcase (decide (0 + n12 * 1 ≤ List.length cs2))
 (((Says C 16 [(D.sl (n6) 1 (List.take (n6 * 1) (List.drop 0 cs1))), (D.sl (n12) 1 (List.take (n12 * 1) (List.drop 0 cs2)))] [(D.val (Value.bool true))]) ∧
 (k [(D.val (Value.bool true))])) ∨
 ((Says C 16 [(D.sl (n6) 1 (List.take (n6 * 1) (List.drop 0 cs1))), (D.sl (n12) 1 (List.take (n12 * 1) (List.drop 0 cs2)))] [(D.val (Value.bool false))]) ∧
 (k [(D.val (Value.bool false))])))
 False)
 False)))))
 False)
 (k [(D.val (Value.bool false))]))
 (k [(D.val (Value.bool false))]))
 (k [(D.val (Value.bool false))])))))) ∨
 ((Says C 14 [(D.agg [(D.sl (n0) 1 (List.take (n0 * 1) (List.drop 0 l0))), (D.val (vI x1))]), (D.val (vI x2)), D.nil] [(D.agg [(D.val (vI n10)), (D.val (vI n11))]), (D.val (Value.bool false))]) ∧
 (((Qv (Value.bool false)) ∧
 ((Qv (Value.agg [(vI n10), (vI n11)].toArray)) ∧
 ((Qv (Value.tuple [(Value.agg [(vI n10), (vI n11)].toArray), (Value.bool false)].toArray)) ∧
 (((Qv (Pt 1006 0)) ∧
 (Qv (some (AObj.cells [(vI 0), (vI 0)] 31 false 2)))) ∧
 True)))) ∧
 (((Qv (Value.bool false)) ∧
 True) ∧
 (True ∧
 (bcase (n5 == 0)
 (bcase (if Bool.false = Bool.true then !(n3 == n10 && (n4 == n11 && Bool.true)) else n3 == n10 && (n4 == n11 && Bool.true))
 (bcase (n7 == 0)
 (bcase (decide (0 + n0 * 1 ≤ List.length l0))
 (((Says C 17 [(D.agg [(D.sl (n0) 1 (List.take (n0 * 1) (List.drop 0 l0))), (D.val (vI x1))]), (D.val (vI x2)), (D.val (vI n10))] [D.nil]) ∧
 (bcase (decide (0 + n6 * 1 ≤ List.length cs1))
 (((Says C 16 [(D.sl (n6) 1 (List.take (n6 * 1) (List.drop 0 cs1))), D.nil] [(D.val (Value.bool true))]) ∧
 (k [(D.val (Value.bool true))])) ∨
 ((Says C 16 [(D.sl (n6) 1 (List.take (n6 * 1) (List.drop 0 cs1))), D.nil] [(D.val (Value.bool false))]) ∧
 (k [(D.val (Value.bool false))])))
 False)) ∨
 (∃ n12 : Nat,
 (∃ cs2 : List Go.Value,
 ((Says C 17 [(D.agg [(D.sl (n0) 1 (List.take (n0 * 1) (List.drop 0 l0))), (D.val (vI x1))]), (D.val (vI x2)), (D.val (vI n10))] [(D.sl (n12) 1 (cs2))]) ∧
 (bcase (decide (0 + n6 * 1 ≤ List.length cs1))
 (bcase (decide (0 + n12 * 1 ≤ List.length cs2))
 (((Says C 16 [(D.sl (n6) 1 (List.take (n6 * 1) (List.drop 0 cs1))), (D.sl (n12) 1 (List.take (n12 * 1) (List.drop 0 cs2)))] [(D.val (Value.bool true))]) ∧
 (k [(D.val (Value.bool true))])) ∨
 ((Says C 16 [(D.sl (n6) 1 (List.take (n6 * 1) (List.drop 0 cs1))), (D.sl (n12) 1 (List.take (n12 * 1) (List.drop 0 cs2)))] [(D.val (Value.bool false))]) ∧
 (k [(D.val (Value.bool false))])))
 False)
 False)))))
 False)
 (k [(D.val (Value.bool false))]))
 (k [(D.val (Value.bool false))]))
 (k [(D.val (Value.bool false))])))))))))
 False))) ∨
 (∃ n10 : Nat,
 (∃ cs2 : List Go.Value,
 ((Says C 15 [(D.agg [(D.sl (n0) 1 (List.take (n0 * 1) (List.drop 0 l0))), (D.val (vI x1))])] [(D.sl (n10) 1 (cs2))]) ∧
 ((((Qv (Pt 1006 0)) ∧
 (Qv (some (AObj.cells [(vI 0), (vI 0)] 31 false 2)))) ∧
 ((Qv (vI x2)) ∧
 ((Qv (Value.agg [(Sl 500 (n0) (c0)), (vI x1)].toArray)) ∧
 True))) ∧
 (bcase (decide (0 + n0 * 1 ≤ List.length l0))
 (bcase (decide (0 + n10 * 1 ≤ List.length cs2))
 (∃ n11 : Int,
 (∃ n12 : Int,
 (((Says C 14 [(D.agg [(D.sl (n0) 1 (List.take (n0 * 1) (List.drop 0 l0))), (D.val (vI x1))]), (D.val (vI x2)), (D.sl (n10) 1 (List.take (n10 * 1) (List.drop 0 cs2)))] [(D.agg [(D.val (vI n11)), (D.val (vI n12))]), (D.val (Value.bool true))]) ∧
 (((Qv (Value.bool true)) ∧
 ((Qv (Value.agg [(vI n11), (vI n12)].toArray)) ∧
 ((Qv (Value.tuple [(Value.agg [(vI n11), (vI n12)].toArray), (Value.bool true)].toArray)) ∧
 (((Qv (Pt 1006 0)) ∧
 (Qv (some (AObj.cells [(vI 0), (vI 0)] 31 false 2)))) ∧
 True)))) ∧
 (((Qv (Value.bool true)) ∧
 True) ∧
 (True ∧
 (bcase (n5 == 0)
 (bcase (if Bool.false = Bool.true then !(n3 == n11 && (n4 == n12 && Bool.true)) else n3 == n11 && (n4 == n12 && Bool.true))
 (bcase (n7 == 0)
 (bcase (decide (0 + n0 * 1 ≤ List.length l0))
 (((Says C 17 [(D.agg [(D.sl (n0) 1 (List.take (n0 * 1) (List.drop 0 l0))), (D.val (vI x1))]), (D.val (vI x2)), (D.val (vI n11))] [D.nil]) ∧
 (bcase (decide (0 + n6 * 1 ≤ List.length cs1))
 (((Says C 16 [(D.sl (n6) 1 (List.take (n6 * 1) (List.drop 0 cs1))), D.nil] [(D.val (Value.bool true))]) ∧
 (k [(D.val (Value.bool true))])) ∨
 ((Says C 16 [(D.sl (n6) 1 (List.take (n6 * 1) (List.drop 0 cs1))), D.nil] [(D.val (Value.bool false))]) ∧
 (k [(D.val (Value.bool false))])))
 False)) ∨
 (∃ n13 : Nat,
 (∃ cs3 : List Go.Value,
 ((Says C 17 [(D.agg [(D.sl (n0) 1 (List.take (n0 * 1) (List.drop 0 l0))), (D.val (vI x1))]), (D.val (vI x2)), (D.val (vI n11))] [(D.sl (n13) 1 (cs3))]) ∧
 (bcase (decide (0 + n6 * 1 ≤ List.length cs1))
 (bcase (decide (0 + n13 * 1 ≤ List.length cs3))
 (((Says C 16 [(D.sl (n6) 1 (List.take (n6 * 1) (List.drop 0 cs1))), (D.sl (n13) 1 (List.take (n13 * 1) (List.drop 0 cs3)))] [(D.val (Value.bool true))]) ∧
 (k [(D.val (Value.bool true))])) ∨
 ((Says C 16 [(D.sl (n6) 1 (List.take (n6 * 1) (List.drop 0 cs1))), (D.sl (n13) 1 (List.take (n13 * 1) (List.drop 0 cs3)))] [(D.val (Value.bool false))]) ∧
 (k [(D.val (Value.bool false))])))
 False)
 False)))))
 False)
 (k [(D.val (Value.bool false))]))
 (k [(D.val (Value.bool false))]))
 (k [(D.val (Value.bool false))])))))) ∨
 ((Says C 14 [(D.agg [(D.sl (n0) 1 (List.take (n0 * 1) (List.drop 0 l0))), (D.val (vI x1))]), (D.val (vI x2)), (D.sl (n10) 1 (List.take (n10 * 1) (List.drop 0 cs2)))] [(D.agg [(D.val (vI n11)), (D.val (vI n12))]), (D.val (Value.bool false))]) ∧
 (((Qv (Value.bool false)) ∧
 ((Qv (Value.agg [(vI n11), (vI n12)].toArray)) ∧
 ((Qv (Value.tuple [(Value.agg [(vI n11), (vI n12)].toArray), (Value.bool false)].toArray)) ∧
 (((Qv (Pt 1006 0)) ∧
 (Qv (some (AObj.cells [(vI 0), (vI 0)] 31 false 2)))) ∧
 True)))) ∧
 (((Qv (Value.bool false)) ∧
 True) ∧
 (True ∧
 (bcase (n5 == 0)
 (bcase (if Bool.false = Bool.true then !(n3 == n11 && (n4 == n12 && Bool.true)) else n3 == n11 && (n4 == n12 && Bool.true))
 (bcase (n7 == 0)
 (bcase (decide (0 + n0 * 1 ≤ List.length l0))
 (((Says C 17 [(D.agg [(D.sl (n0) 1 (List.take (n0 * 1) (List.drop 0 l0))), (D.val (vI x1))]), (D.val (vI x2)), (D.val (vI n11))] [D.nil]) ∧
 (bcase (decide (0 + n6 * 1 ≤ List.length cs1))
 (((Says C 16 [(D.sl (n6) 1 (List.take (n6 * 1) (List.drop 0 cs1))), D.nil] [(D.val (Value.bool true))]) ∧
 (k [(D.val (Value.bool true))])) ∨
 ((Says C 16 [(D.sl (n6) 1 (List.take (n6 * 1) (List.drop 0 cs1))), D.nil] [(D.val (Value.bool false))]) ∧
 (k [(D.val (Value.bool false))])))
 False)) ∨
 (∃ n13 : Nat,
 (∃ cs3 : List Go.Value,
 ((Says C 17 [(D.agg [(D.sl (n0) 1 (List.take (n0 * 1) (List.drop 0 l0))), (D.val (vI x1))]), (D.val (vI x2)), (D.val (vI n11))] [(D.sl (n13) 1 (cs3))]) ∧
 (bcase (decide (0 + n6 * 1 ≤ List.length cs1))
 (bcase (decide (0 + n13 * 1 ≤ List.length cs3))
 (((Says C 16 [(D.sl (n6) 1 (List.take (n6 * 1) (List.drop 0 cs1))), (D.sl (n13) 1 (List.take (n13 * 1) (List.drop 0 cs3)))] [(D.val (Value.bool true))]) ∧
 (k [(D.val (Value.bool true))])) ∨
 ((Says C 16 [(D.sl (n6) 1 (List.take (n6 * 1) (List.drop 0 cs1))), (D.sl (n13) 1 (List.take (n13 * 1) (List.drop 0 cs3)))] [(D.val (Value.bool false))]) ∧
 (k [(D.val (Value.bool false))])))
 False)
 False)))))
 False)
 (k [(D.val (Value.bool false))]))
 (k [(D.val (Value.bool false))]))
 (k [(D.val (Value.bool false))])))))))))
 False)
 False))))))
 False))))
 (bcase (n9 != 0)
 (bcase (n5 == n9)
 (bcase (n7 == n9)
 (bcase (if Bool.false = Bool.true then !(n3 == 0 && (n4 == 0 && Bool.true)) else n3 == 0 && (n4 == 0 && Bool.true))
 (bcase ((↑n6 : Int) == 0)
 (k [(D.val (Value.bool true))])
 (k [(D.val (Value.bool false))]))
 (k [(D.val (Value.bool false))]))
 (k [(D.val (Value.bool false))]))
 (k [(D.val (Value.bool false))]))
 ((((Qv (Pt 1006 0)) ∧
 (Qv (some (AObj.cells [(vI 0), (vI 0)] 31 false 2)))) ∧
 ((Qv (Value.agg [(Sl 500 (n0) (c0)), (vI x1)].toArray)) ∧
 ((Qv (vI x2)) ∧
 ((Qv (Value.agg [(Sl 500 (n0) (c0)), (vI x1)].toArray)) ∧
 True)))) ∧
 (bcase (decide (0 + n0 * 1 ≤ List.length l0))
 (((Says C 15 [(D.agg [(D.sl (n0) 1 (List.take (n0 * 1) (List.drop 0 l0))), (D.val (vI x1))])] [D.nil]) ∧
 ((((Qv (Pt 1006 0)) ∧
 (Qv (some (AObj.cells [(vI 0), (vI 0)] 31 false 2)))) ∧
 ((Qv (vI x2)) ∧
 ((Qv (Value.agg [(Sl 500 (n0) (c0)), (vI x1)].toArray)) ∧
 True))) ∧
 (bcase (decide (0 + n0 * 1 ≤ List.length l0))
 (∃ n10 : Int,
 (∃ n11 : Int,
 (((Says C 14 [(D.agg [(D.sl (n0) 1 (List.take (n0 * 1) (List.drop 0 l0))), (D.val (vI x1))]), (D.val (vI x2)), D.nil] [(D.agg [(D.val (vI n10)), (D.val (vI n11))]), (D.val (Value.bool true))]) ∧
 (((Qv (Value.bool true)) ∧
 ((Qv (Value.agg [(vI n10), (vI n11)].toArray)) ∧
 ((Qv (Value.tuple [(Value.agg [(vI n10), (vI n11)].toArray), (Value.bool true)].toArray)) ∧
 (((Qv (Pt 1006 0)) ∧
 (Qv (some (AObj.cells [(vI 0), (vI 0)] 31 false 2)))) ∧
 True)))) ∧
 (((Qv (Value.bool true)) ∧
 True) ∧
 (True ∧
 (bcase (n5 == 0)
 (bcase (if Bool.false = Bool.true then !(n3 == n10 && (n4 == n11 && Bool.true)) else n3 == n10 && (n4 == n11 && Bool.true))
 (bcase (n7 == 0)
 (bcase (decide (0 + n0 * 1 ≤ List.length l0))
 (((Says C 17 [(D.agg [(D.sl (n0) 1 (List.take (n0 * 1) (List.drop 0 l0))), (D.val (vI x1))]), (D.val (vI x2)), (D.val (vI n10))] [D.nil]) ∧
 (bcase (decide (0 + n6 * 1 ≤ List.length cs1))
 (((Says C 16 [(D.sl (n6) 1 (List.take (n6 * 1) (List.drop 0 cs1))), D.nil] [(D.val (Value.bool true))]) ∧
 (k [(D.val (Value.bool true))])) ∨
 ((Says C 16 [(D.sl (n6) 1 (List.take (n6 * 1) (List.drop 0 cs1))), D.nil] [(D.val (Value.bool false))]) ∧
 (k [(D.val (Value.bool false))])))
 False)) ∨
 (∃ n12 : Nat,
 (∃ cs2 : List Go.Value,
 ((Says C 17 [(D.agg [(D.sl (n0) 1 (List.take (n0 * 1) (List.drop 0 l0))), (D.val (vI x1))]), (D.val (vI x2)), (D.val (vI n10))] [(D.sl (n12) 1 (cs2))]) ∧
 (bcase (decide (0 + n6 * 1 ≤ List.length cs1))
 (bcase (decide (0 + n12 * 1 ≤ List.length cs2))
 (((Says C 16 [(D.sl (n6) 1 (List.take (n6 * 1) (List.drop 0 cs1))), (D.sl (n12) 1 (List.take (n12 * 1) (List.drop 0 cs2)))] [(D.val (Value.bool true))]) ∧
 (k [(D.val (Value.bool true))])) ∨
 ((Says C 16 [(D.sl (n6) 1 (List.take (n6 * 1) (List.drop 0 cs1))), (D.sl (n12) 1 (List.take (n12 * 1) (List.drop 0 cs2)))] [(D.val (Value.bool false))]) ∧
 (k [(D.val (Value.bool false))])))
 False)
 False)))))
 False)
 (k [(D.val (Value.bool false))]))
 (k [(D.val (Value.bool false))]))
 (k [(D.val (Value.bool false))])))))) ∨
 ((Says C 14 [(D.agg [(D.sl (n0) 1 (List.take (n0 * 1) (List.drop 0 l0))), (D.val (vI x1))]), (D.val (vI x2)), D.nil] [(D.agg [(D.val (vI n10)), (D.val (vI n11))]), (D.val (Value.bool false))]) ∧
 (((Qv (Value.bool false)) ∧
 ((Qv (Value.agg [(vI n10), (vI n11)].toArray)) ∧
 ((Qv (Value.tuple [(Value.agg [(vI n10), (vI n11)].toArray), (Value.bool false)].toArray)) ∧
 (((Qv (Pt 1006 0)) ∧
 (Qv (some (AObj.cells [(vI 0), (vI 0)] 31 false 2)))) ∧
 True)))) ∧
 (((Qv (Value.bool false)) ∧
 True) ∧
 (True ∧
 (bcase (n5 == 0)
 (bcase (if Bool.false = Bool.true then !(n3 == n10 && (n4 == n11 && Bool.true)) else n3 == n10 && (n4 == n11 && Bool.true))
 (bcase (n7 == 0)
 (bcase (decide (0 + n0 * 1 ≤ List.length l0))
 (((Says C 17 [(D.agg [(D.sl (n0) 1 (List.take (n0 * 1) (List.drop 0 l0))), (D.val (vI x1))]), (D.val (vI x2)), (D.val (vI n10))] [D.nil]) ∧
 (bcase (decide (0 + n6 * 1 ≤ List.length cs1))
 (((Says C 16 [(D.sl (n6) 1 (List.take (n6 * 1) (List.drop 0 cs1))), D.nil] [(D.val (Value.bool true))]) ∧
 (k [(D.val (Value.bool true))])) ∨
 ((Says C 16 [(D.sl (n6) 1 (List.take (n6 * 1) (List.drop 0 cs1))), D.nil] [(D.val (Value.bool false))]) ∧
 (k [(D.val (Value.bool false))])))
 False)) ∨
 (∃ n12 : Nat,
 (∃ cs2 : List Go.Value,
 ((Says C 17 [(D.agg [(D.sl (n0) 1 (List.take (n0 * 1) (List.drop 0 l0))), (D.val (vI x1))]), (D.val (vI x2)), (D.val (vI n10))] [(D.sl (n12) 1 (cs2))]) ∧
 (bcase (decide (0 + n6 * 1 ≤ List.length cs1))
 (bcase (decide (0 + n12 * 1 ≤ List.length cs2))
 (((Says C 16 [(D.sl (n6) 1 (List.take (n6 * 1) (List.drop 0 cs1))), (D.sl (n12) 1 (List.take (n12 * 1) (List.drop 0 cs2)))] [(D.val (Value.bool true))]) ∧
 (k [(D.val (Value.bool true))])) ∨
 ((Says C 16 [(D.sl (n6) 1 (List.take (n6 * 1) (List.drop 0 cs1))), (D.sl (n12) 1 (List.take (n12 * 1) (List.drop 0 cs2)))] [(D.val (Value.bool false))]) ∧
 (k [(D.val (Value.bool false))])))
 False)
 False)))))
 False)
 (k [(D.val (Value.bool false))]))
 (k [(D.val (Value.bool false))]))
 (k [(D.val (Value.bool false))])))))))))
 False))) ∨
 (∃ n10 : Nat,
 (∃ cs2 : List Go.Value,
 ((Says C 15 [(D.agg [(D.sl (n0) 1 (List.take (n0 * 1) (List.drop 0 l0))), (D.val (vI x1))])] [(D.sl (n10) 1 (cs2))]) ∧
 ((((Qv (Pt 1006 0)) ∧
 (Qv (some (AObj.cells [(vI 0), (vI 0)] 31 false 2)))) ∧
 ((Qv (vI x2)) ∧
 ((Qv (Value.agg [(Sl 500 (n0) (c0)), (vI x1)].toArray)) ∧
 True))) ∧
 (bcase (decide (0 + n0 * 1 ≤ List.length l0))
 (bcase (decide (0 + n10 * 1 ≤ List.length cs2))
 (∃ n11 : Int,
 (∃ n12 : Int,
 (((Says C 14 [(D.agg [(D.sl (n0) 1 (List.take (n0 * 1) (List.drop 0 l0))), (D.val (vI x1))]), (D.val (vI x2)), (D.sl (n10) 1 (List.take (n10 * 1) (List.drop 0 cs2)))] [(D.agg [(D.val (vI n11)), (D.val (vI n12))]), (D.val (Value.bool true))]) ∧
 (((Qv (Value.bool true)) ∧
 ((Qv (Value.agg [(vI n11), (vI n12)].toArray)) ∧
 ((Qv (Value.tuple [(Value.agg [(vI n11), (vI n12)].toArray), (Value.bool true)].toArray)) ∧
 (((Qv (Pt 1006 0)) ∧
 (Qv (some (AObj.cells [(vI 0), (vI 0)] 31 false 2)))) ∧
 True)))) ∧
 (((Qv (Value.bool true)) ∧
 True) ∧
 (True ∧
 (bcase (n5 == 0)
 (bcase (if Bool.false = Bool.true then !(n3 == n11 && (n4 == n12 && Bool.true)) else n3 == n11 && (n4 == n12 && Bool.true))
 (bcase (n7 == 0)
 (bcase (decide (0 + n0 * 1 ≤ List.length l0))
 (((Says C 17 [(D.agg [(D.sl (n0) 1 (List.take (n0 * 1) (List.drop 0 l0))), (D.val (vI x1))]), (D.val (vI x2)), (D.val (vI n11))] [D.nil]) ∧
 (bcase (decide (0 + n6 * 1 ≤ List.length cs1))
 (((Says C 16 [(D.sl (n6) 1 (List.take (n6 * 1) (List.drop 0 cs1))), D.nil] [(D.val (Value.bool true))]) ∧
 (k [(D.val (Value.bool true))])) ∨
 ((Says C 16 [(D.sl (n6) 1 (List.take (n6 * 1) (List.drop 0 cs1))), D.nil] [(D.val (Value.bool false))]) ∧
 (k [(D.val (Value.bool false))])))
 False)) ∨
 (∃ n13 : Nat,
 (∃ cs3 : List Go.Value,
 ((Says C 17 [(D.agg [(D.sl (n0) 1 (List.take (n0 * 1) (List.drop 0 l0))), (D.val (vI x1))]), (D.val (vI x2)), (D.val (vI n11))] [(D.sl (n13) 1 (cs3))]) ∧
 (bcase (decide (0 + n6 * 1 ≤ List.length cs1))
 (bcase (decide (0 + n13 * 1 ≤ List.length cs3))
 (((Says C 16 [(D.sl (n6) 1 (List.take (n6 * 1) (List.drop 0 cs1))), (D.sl (n13) 1 (List.take (n13 * 1) (List.drop 0 cs3)))] [(D.val (Value.bool true))]) ∧
 (k [(D.val (Value.bool true))])) ∨
 ((Says C 16 [(D.sl (n6) 1 (List.take (n6 * 1) (List.drop 0 cs1))), (D.sl (n13) 1 (List.take (n13 * 1) (List.drop 0 cs3)))] [(D.val (Value.bool false))]) ∧
 (k [(D.val (Value.bool false))])))
 False)
 False)))))
 False)
 (k [(D.val (Value.bool false))]))
 (k [(D.val (Value.bool false))]))
 (k [(D.val (Value.bool false))])))))) ∨
 ((Says C 14 [(D.agg [(D.sl (n0) 1 (List.take (n0 * 1) (List.drop 0 l0))), (D.val (vI x1))]), (D.val (vI x2)), (D.sl (n10) 1 (List.take (n10 * 1) (List.drop 0 cs2)))] [(D.agg [(D.val (vI n11)), (D.val (vI n12))]), (D.val (Value.bool false))]) ∧
 (((Qv (Value.bool false)) ∧
 ((Qv (Value.agg [(vI n11), (vI n12)].toArray)) ∧
 ((Qv (Value.tuple [(Value.agg [(vI n11), (vI n12)].toArray), (Value.bool false)].toArray)) ∧
 (((Qv (Pt 1006 0)) ∧
 (Qv (some (AObj.cells [(vI 0), (vI 0)] 31 false 2)))) ∧
 True)))) ∧
 (((Qv (Value.bool false)) ∧
 True) ∧
 (True ∧
 (bcase (n5 == 0)
 (bcase (if Bool.false = Bool.true then !(n3 == n11 && (n4 == n12 && Bool.true)) else n3 == n11 && (n4 == n12 && Bool.true))
 (bcase (n7 == 0)
 (bcase (decide (0 + n0 * 1 ≤ List.length l0))
 (((Says C 17 [(D.agg [(D.sl (n0) 1 (List.take (n0 * 1) (List.drop 0 l0))), (D.val (vI x1))]), (D.val (vI x2)), (D.val (vI n11))] [D.nil]) ∧
 (bcase (decide (0 + n6 * 1 ≤ List.length cs1))
 (((Says C 16 [(D.sl (n6) 1 (List.take (n6 * 1) (List.drop 0 cs1))), D.nil] [(D.val (Value.bool true))]) ∧
 (k [(D.val (Value.bool true))])) ∨
 ((Says C 16 [(D.sl (n6) 1 (List.take (n6 * 1) (List.drop 0 cs1))), D.nil] [(D.val (Value.bool false))]) ∧
 (k [(D.val (Value.bool false))])))
 False)) ∨
 (∃ n13 : Nat,
 (∃ cs3 : List Go.Value,
 ((Says C 17 [(D.agg [(D.sl (n0) 1 (List.take (n0 * 1) (List.drop 0 l0))), (D.val (vI x1))]), (D.val (vI x2)), (D.val (vI n11))] [(D.sl (n13) 1 (cs3))]) ∧
 (bcase (decide (0 + n6 * 1 ≤ List.length cs1))
 (bcase (decide (0 + n13 * 1 ≤ List.length cs3))
 (((Says C 16 [(D.sl (n6) 1 (List.take (n6 * 1) (List.drop 0 cs1))), (D.sl (n13) 1 (List.take (n13 * 1) (List.drop 0 cs3)))] [(D.val (Value.bool true))]) ∧
 (k [(D.val (Value.bool true))])) ∨
 ((Says C 16 [(D.sl (n6) 1 (List.take (n6 * 1) (List.drop 0 cs1))), (D.sl (n13) 1 (List.take (n13 * 1) (List.drop 0 cs3)))] [(D.val (Value.bool false))]) ∧
 (k [(D.val (Value.bool false))])))
 False)
 False)))))
 False)
 (k [(D.val (Value.bool false))]))
 (k [(D.val (Value.bool false))]))
 (k [(D.val (Value.bool false))])))))))))
 False)
 False))))))
 False))))))))))
 False))))))
 False))
 False)))))
 False))
 False))))
 False))
 False))) ∨
 ((Says C 7 [] [(D.val (Value.bool false))]) ∧
 (k [(D.val (Value.bool false))]))) := by kernel_rfl
def gLMn (C : Ct) (L : AtLoop) (x1 : Int) (x2 : Int) (k : List D → Prop) : Prop := wpFn Try.prog (hM C) L 0 3 #[.agg #[.slice none 0 0, .int .i64 x1], .int .i64 x2] (heapOf []) (dataK k)
theorem gLMn_text (C : Ct) (L : AtLoop) (x1 : Int) (x2 : Int) (k : List D → Prop) : gLMn C L x1 x2 k =
 (((Says C 7 [] [(D.val (Value.bool true))]) ∧
 ((Says C 9 [(D.agg [D.nil, (D.val (vI x1))])] [(D.agg [(D.sl 0 1 []), (D.val (vI x1))])]) ∧
 (∃ n1 : Int,
 (∃ n2 : Int,
 ((Says C 8 [(D.agg [(D.sl 0 1 []), (D.val (vI x1))])] [(D.val (vI n1)), (D.val (vI n2))]) ∧
 ((Says C 9 [(D.agg [D.nil, (D.val (vI x1))])] [(D.agg [(D.sl 0 1 []), (D.val (vI x1))])]) ∧
 (∃ n3 : Int,
 (∃ n4 : Int,
 (∃ n5 : Int,
 ((Says C 10 [(D.agg [(D.sl 0 1 []), (D.val (vI x1))]), (D.val (vI x2))] [(D.agg [(D.val (vI n3)), (D.val (vI n4))]), (D.val (vI n5))]) ∧
 ((Says C 9 [(D.agg [D.nil, (D.val (vI x1))])] [(D.agg [(D.sl 0 1 []), (D.val (vI x1))])]) ∧
 ((∃ n6 : Int,
 ((Says C 11 [(D.agg [(D.sl 0 1 []), (D.val (vI x1))]), (D.val (vI x2))] [D.nil, (D.val (vI n6))]) ∧
 (∃ n7 : Int,
 (∃ n8 : Int,
 ((Says C 12 [(D.agg [D.nil, (D.val (vI x1))])] [(D.val (vI n7)), (D.val (vI n8))]) ∧
 (bcase (n2 != n8)
 (k [(D.val (Value.bool false))])
 (bcase (n1 != n7)
 (k [(D.val (Value.bool false))])
 (bcase (n8 == 0)
 (∃ n9 : Int,
 ((Says C 13 [(D.agg [D.nil, (D.val (vI x1))]), (D.val (vI x2))] [(D.val (vI n9))]) ∧
 (bcase (n9 == 0)
 (bcase (n9 != 0)
 (bcase (n5 == n9)
 (bcase (n6 == n9)
 (bcase (if Bool.false = Bool.true then !(n3 == 0 && (n4 == 0 && Bool.true)) else n3 == 0 && (n4 == 0 && Bool.true))
 (k [(D.val (Value.bool true))])
 (k [(D.val (Value.bool false))]))
 (k [(D.val (Value.bool false))]))
 (k [(D.val (Value.bool false))]))
 ((((Qv (Pt 1005 0)) ∧
 (Qv (some (AObj.cells [(vI 0), (vI 0)] 31 false 2)))) ∧
 ((Qv (Value.agg [(Value.slice none 0 0), (vI x1)].toArray)) ∧
 ((Qv (vI x2)) ∧
 ((Qv (Value.agg [(Value.slice none 0 0), (vI x1)].toArray)) ∧
 True)))) ∧
 (((Says C 15 [(D.agg [D.nil, (D.val (vI x1))])] [D.nil]) ∧
 ((((Qv (Pt 1005 0)) ∧
 (Qv (some (AObj.cells [(vI 0), (vI 0)] 31 false 2)))) ∧
 ((Qv (vI x2)) ∧
 ((Qv (Value.agg [(Value.slice none 0 0), (vI x1)].toArray)) ∧
 True))) ∧
 (∃ n10 : Int,
 (∃ n11 : Int,
 (((Says C 14 [(D.agg [D.nil, (D.val (vI x1))]), (D.val (vI x2)), D.nil] [(D.agg [(D.val (vI n10)), (D.val (vI n11))]), (D.val (Value.bool true))]) ∧
 (((Qv (Value.bool true)) ∧
 ((Qv (Value.agg [(vI n10), (vI n11)].toArray)) ∧
 ((Qv (Value.tuple [(Value.agg [(vI n10), (vI n11)].toArray), (Value.bool true)].toArray)) ∧
 (((Qv (Pt 1005 0)) ∧
 (Qv (some (AObj.cells [(vI 0), (vI 0)] 31 false 2)))) ∧
 True)))) ∧
 (((Qv (Value.bool true)) ∧
 True) ∧
 (True ∧
 (bcase (n5 == 0)
 (bcase (if Bool.false = Bool.true then !(n3 == n10 && (n4 == n11 && Bool.true)) else n3 == n10 && (n4 == n11 && Bool.true))
 (bcase (n6 == 0)
 (((Says C 17 [(D.agg [D.nil, (D.val (vI x1))]), (D.val (vI x2)), (D.val (vI n10))] [D.nil]) ∧
 (((Says C 16 [D.nil, D.nil] [(D.val (Value.bool true))]) ∧
 (k [(D.val (Value.bool true))])) ∨
 ((Says C 16 [D.nil, D.nil] [(D.val (Value.bool false))]) ∧
 (k [(D.val (Value.bool false))])))) ∨
 (∃ n12 : Nat,
 (∃ cs1 : List Go.Value,
 ((Says C 17 [(D.agg [D.nil, (D.val (vI x1))]), (D.val (vI x2)), (D.val (vI n10))] [(D.sl (n12) 1 (cs1))]) ∧
 (bcase (decide (0 + n12 * 1 ≤ List.length cs1))
 (((Says C 16 [D.nil, (D.sl (n12) 1 (List.take (n12 * 1) (List.drop 0 cs1)))] [(D.val (Value.bool true))]) ∧
 (k [(D.val (Value.bool true))])) ∨
 ((Says C 16 [D.nil, (D.sl (n12) 1 (List.take (n12 * 1) (List.drop 0 cs1)))] [(D.val (Value.bool false))]) ∧
 (k [(D.val (Value.bool false))])))
 False)))))
 (k [(D.val (Value.bool false))]))
 (k [(D.val (Value.bool false))]))
 (k [(D.val (Value.bool false))])))))) ∨
 ((Says C 14 [(D.agg [D.nil, (D.val (vI x1))]), (D.val (vI x2)), D.nil] [(D.agg [(D.val (vI n10)), (D.val (vI n11))]), (D.val (Value.bool false))]) ∧
 (((Qv (Value.bool false)) ∧
 ((Qv (Value.agg [(vI n10), (vI n11)].toArray)) ∧
 ((Qv (Value.tuple [(Value.agg [(vI n10), (vI n11)].toArray), (Value.bool false)].toArray)) ∧
 (((Qv (Pt 1005 0)) ∧
 (Qv (some (AObj.cells [(vI 0), (vI 0)] 31 false 2)))) ∧
 True)))) ∧
 (((Qv (Value.bool false)) ∧
 True) ∧
 (True ∧
 (bcase (n5 == 0)
 (bcase (if Bool.false = Bool.true then !(n3 == n10 && (n4 == n11 && Bool.true)) else n3 == n10 && (n4 == n11 && Bool.true))
 (bcase (n6 == 0)
 (((Says C 17 [(D.agg [D.nil, (D.val (vI x1))]), (D.val (vI x2)), (D.val (vI n10))] [D.nil]) ∧
 (((Says C 16 [D.nil, D.nil] [(D.val (Value.bool true))]) ∧
 (k [(D.val (Value.bool true))])) ∨
 ((Says C 16 [D.nil, D.nil] [(D.val (Value.bool false))]) ∧
 (k [(D.val (Value.bool false))])))) ∨
 (∃ n12 : Nat,
 (∃ cs1 : List Go.Value,
 ((Says C 17 [(D.agg [D.nil, (D.val (vI x1))]), (D.val (vI x2)), (D.val (vI n10))] [(D.sl (n12) 1 (cs1))]) ∧
 (bcase (decide (0 + n12 * 1 ≤ List.length cs1))
 (((Says C 16 [D.nil, (D.sl (n12) 1 (List.take (n12 * 1) (List.drop 0 cs1)))] [(D.val (Value.bool true))]) ∧
 (k [(D.val (Value.bool true))])) ∨
 ((Says C 16 [D.nil, (D.sl (n12) 1 (List.take (n12 * 1) (List.drop 0 cs1)))] [(D.val (Value.bool false))]) ∧
 (k [(D.val (Value.bool false))])))
 False)))))
 (k [(D.val (Value.bool false))]))
 (k [(D.val (Value.bool false))]))
 (k [(D.val (Value.bool false))]))))))))))) ∨
 (∃ n10 : Nat,
 (∃ cs1 : List Go.Value,
 ((Says C 15 [(D.agg [D.nil, (D.val (vI x1))])] [(D.sl (n10) 1 (cs1))]) ∧
 ((((Qv (Pt 1005 0)) ∧
 (Qv (some (AObj.cells [(vI 0), (vI 0)] 31 false 2)))) ∧
 ((Qv (vI x2)) ∧
 ((Qv (Value.agg [(Value.slice none 0 0), (vI x1)].toArray)) ∧
 True))) ∧
 (bcase (decide (0 + n10 * 1 ≤ List.length cs1))
 (∃ n11 : Int,
 (∃ n12 : Int,
 (((Says C 14 [(D.agg [D.nil, (D.val (vI x1))]), (D.val (vI x2)), (D.sl (n10) 1 (List.take (n10 * 1) (List.drop 0 cs1)))] [(D.agg [(D.val (vI n11)), (D.val (vI n12))]), (D.val (Value.bool true))]) ∧
 (((Qv (Value.bool true)) ∧
 ((Qv (Value.agg [(vI n11), (vI n12)].toArray)) ∧
 ((Qv (Value.tuple [(Value.agg [(vI n11), (vI n12)].toArray), (Value.bool true)].toArray)) ∧
 (((Qv (Pt 1005 0)) ∧
 (Qv (some (AObj.cells [(vI 0), (vI 0)] 31 false 2)))) ∧
 True)))) ∧
 (((Qv (Value.bool true)) ∧
 True) ∧
 (True ∧
 (bcase (n5 == 0)
 (bcase (if Bool.false = Bool.true then !(n3 == n11 && (n4 == n12 && Bool.true)) else n3 == n11 && (n4 == n12 && Bool.true))
 (bcase (n6 == 0)
 (((Says C 17 [(D.agg [D.nil, (D.val (vI x1))]), (D.val (vI x2)), (D.val (vI n11))] [D.nil]) ∧
 (((Says C 16 [D.nil, D.nil] [(D.val (Value.bool true))]) ∧
 (k [(D.val (Value.bool true))])) ∨
 ((Says C 16 [D.nil, D.nil] [(D.val (Value.bool false))]) ∧
 (k [(D.val (Value.bool false))])))) ∨
 (∃ n13 : Nat,
 (∃ cs2 : List Go.Value,
 ((Says C 17 [(D.agg [D.nil, (D.val (vI x1))]), (D.val (vI x2)), (D.val (vI n11))] [(D.sl (n13) 1 (cs2))]) ∧
 (bcase (decide (0 + n13 * 1 ≤ List.length cs2))
 (((Says C 16 [D.nil, (D.sl (n13) 1 (List.take (n13 * 1) (List.drop 0 cs2)))] [(D.val (Value.bool true))]) ∧
 (k [(D.val (Value.bool true))])) ∨
 ((Says C 16 [D.nil, (D.sl (n13) 1 (List.take (n13 * 1) (List.drop 0 cs2)))] [(D.val (Value.bool false))]) ∧
 (k [(D.val (Value.bool false))])))
 False)))))
 (k [(D.val (Value.bool false))]))
 (k [(D.val (Value.bool false))]))
 (k [(D.val (Value.bool false))])))))) ∨
 ((Says C 14 [(D.agg [D.nil, (D.val (vI x1))]), (D.val (vI x2)), (D.sl (n10) 1 (List.take (n10 * 1) (List.drop 0 cs1)))] [(D.agg [(D.val (vI n11)), (D.val (vI n12))]), (D.val (Value.bool false))]) ∧
 (((Qv (Value.bool false)) ∧
 ((Qv (Value.agg [(vI n11), (vI n12)].toArray)) ∧
 ((Qv (Value.tuple [(Value.agg [(vI n11), (vI n12)].toArray), (Value.bool false)].toArray)) ∧
 (((Qv (Pt 1005 0)) ∧
 (Qv (some (AObj.cells [(vI 0), (vI 0)] 31 false 2)))) ∧
 True)))) ∧
 (((Qv (Value.bool false)) ∧
 True) ∧
 (True ∧
 (bcase (n5 == 0)
 (bcase (if Bool.false = Bool.true then !(n3 == n11 && (n4 == n12 && Bool.true)) else n3 == n11 && (n4 == n12 && Bool.true))
 (bcase (n6 == 0)
 (((Says C 17 [(D.agg [D.nil, (D.val (vI x1))]), (D.val (vI x2)), (D.val (vI n11))] [D.nil]) ∧
 (((Says C 16 [D.nil, D.nil] [(D.val (Value.bool true))]) ∧
 (k [(D.val (Value.bool true))])) ∨
 ((Says C 16 [D.nil, D.nil] [(D.val (Value.bool false))]) ∧
 (k [(D.val (Value.bool false))])))) ∨
 (∃ n13 : Nat,
 (∃ cs2 : List Go.Value,
 ((Says C 17 [(D.agg [D.nil, (D.val (vI x1))]), (D.val (vI x2)), (D.val (vI n11))] [(D.sl (n13) 1 (cs2))]) ∧
 (bcase (decide (0 + n13 * 1 ≤ List.length cs2))
 (((Says C 16 [D.nil, (D.sl (n13) 1 (List.take (n13 * 1) (List.drop 0 cs2)))] [(D.val (Value.bool true))]) ∧
 (k [(D.val (Value.bool true))])) ∨
 ((Says C 16 [D.nil, (D.sl (n13) 1 (List.take (n13 * 1) (List.drop 0 cs2)))] [(D.val (Value.bool false))]) ∧
 (k [(D.val (Value.bool false))])))
 False)))))
 (k [(D.val (Value.bool false))]))
 (k [(D.val (Value.bool false))]))
 (k [(D.val (Value.bool false))])))))))))
 False))))))))
 (bcase (n9 != 0)
 (bcase (n5 == n9)
 (bcase (n6 == n9)
 (bcase (if Bool.false = Bool.true then !(n3 == 0 && (n4 == 0 && Bool.true)) else n3 == 0 && (n4 == 0 && Bool.true))
 (k [(D.val (Value.bool true))])
 (k [(D.val (Value.bool false))]))
 (k [(D.val (Value.bool false))]))
 (k [(D.val (Value.bool false))]))
 ((((Qv (Pt 1005 0)) ∧
 (Qv (some (AObj.cells [(vI 0), (vI 0)] 31 false 2)))) ∧
 ((Qv (Value.agg [(Value.slice none 0 0), (vI x1)].toArray)) ∧
 ((Qv (vI x2)) ∧
 ((Qv (Value.agg [(Value.slice none 0 0), (vI x1)].toArray)) ∧
 True)))) ∧
 (((Says C 15 [(D.agg [D.nil, (D.val (vI x1))])] [D.nil]) ∧
 ((((Qv (Pt 1005 0)) ∧
 (Qv (some (AObj.cells [(vI 0), (vI 0)] 31 false 2)))) ∧
 ((Qv (vI x2)) ∧
 ((Qv (Value.agg [(Value.slice none 0 0), (vI x1)].toArray)) ∧
 True))) ∧
 (∃ n10 : Int,
 (∃ n11 : Int,
 (((Says C 14 [(D.agg [D.nil, (D.val (vI x1))]), (D.val (vI x2)), D.nil] [(D.agg [(D.val (vI n10)), (D.val (vI n11))]), (D.val (Value.bool true))]) ∧
 (((Qv (Value.bool true)) ∧
 ((Qv (Value.agg [(vI n10), (vI n11)].toArray)) ∧
 ((Qv (Value.tuple [(Value.agg [(vI n10), (vI n11)].toArray), (Value.bool true)].toArray)) ∧
 (((Qv (Pt 1005 0)) ∧
 (Qv (some (AObj.cells [(vI 0), (vI 0)] 31 false 2)))) ∧
 True)))) ∧
 (((Qv (Value.bool true)) ∧
 True) ∧
 (True ∧
 (bcase (n5 == 0)
 (bcase (if Bool.false = Bool.true then !(n3 == n10 && (n4 == n11 && Bool.true)) else n3 == n10 && (n4 == n11 && Bool.true))
 (bcase (n6 == 0)
 (((Says C 17 [(D.agg [D.nil, (D.val (vI x1))]), (D.val (vI x2)), (D.val (vI n10))] [D.nil]) ∧
 (((Says C 16 [D.nil, D.nil] [(D.val (Value.bool true))]) ∧
 (k [(D.val (Value.bool true))])) ∨
 ((Says C 16 [D.nil, D.nil] [(D.val (Value.bool false))]) ∧
 (k [(D.val (Value.bool false))])))) ∨
 (∃ n12 : Nat,
 (∃ cs1 : List Go.Value,
 ((Says C 17 [(D.agg [D.nil, (D.val (vI x1))]), (D.val (vI x2)), (D.val (vI n10))] [(D.sl (n12) 1 (cs1))]) ∧
 (bcase (decide (0 + n12 * 1 ≤ List.length cs1))
 (((Says C 16 [D.nil, (D.sl (n12) 1 (List.take (n12 * 1) (List.drop 0 cs1)))] [(D.val (Value.bool true))]) ∧
 (k [(D.val (Value.bool true))])) ∨
 ((Says C 16 [D.nil, (D.sl (n12) 1 (List.take (n12 * 1) (List.drop 0 cs1)))] [(D.val (Value.bool false))]) ∧
 (k [(D.val (Value.bool false))])))
 False)))))
 (k [(D.val (Value.bool false))]))
 (k [(D.val (Value.bool false))]))
 (k [(D.val (Value.bool false))])))))) ∨
 ((Says C 14 [(D.agg [D.nil, (D.val (vI x1))]), (D.val (vI x2)), D.nil] [(D.agg [(D.val (vI n10)), (D.val (vI n11))]), (D.val (Value.bool false))]) ∧
 (((Qv (Value.bool false)) ∧
 ((Qv (Value.agg [(vI n10), (vI n11)].toArray)) ∧
 ((Qv (Value.tuple [(Value.agg [(vI n10), (vI n11)].toArray), (Value.bool false)].toArray)) ∧
 (((Qv (Pt 1005 0)) ∧
 (Qv (some (AObj.cells [(vI 0), (vI 0)] 31 false 2)))) ∧
 True)))) ∧
 (((Qv (Value.bool false)) ∧
 True) ∧
 (True ∧
 (bcase (n5 == 0)
 (bcase (if Bool.false = Bool.true then !(n3 == n10 && (n4 == n11 && Bool.true)) else n3 == n10 && (n4 == n11 && Bool.true))
 (bcase (n6 == 0)
 (((Says C 17 [(D.agg [D.nil, (D.val (vI x1))]), (D.val (vI x2)), (D.val (vI n10))] [D.nil]) ∧
 (((Says C 16 [D.nil, D.nil] [(D.val (Value.bool true))]) ∧
 (k [(D.val (Value.bool true))])) ∨
 ((Says C 16 [D.nil, D.nil] [(D.val (Value.bool false))]) ∧
 (k [(D.val (Value.bool false))])))) ∨
 (∃ n12 : Nat,
 (∃ cs1 : List Go.Value,
 ((Says C 17 [(D.agg [D.nil, (D.val (vI x1))]), (D.val (vI x2)), (D.val (vI n10))] [(D.sl (n12) 1 (cs1))]) ∧
 (bcase (decide (0 + n12 * 1 ≤ List.length cs1))
 (((Says C 16 [D.nil, (D.sl (n12) 1 (List.take (n12 * 1) (List.drop 0 cs1)))] [(D.val (Value.bool true))]) ∧
 (k [(D.val (Value.bool true))])) ∨
 ((Says C 16 [D.nil, (D.sl (n12) 1 (List.take (n12 * 1) (List.drop 0 cs1)))] [(D.val (Value.bool false))]) ∧
 (k [(D.val (Value.bool false))])))
 False)))))
 (k [(D.val (Value.bool false))]))
 (k [(D.val (Value.bool false))]))
 (k [(D.val (Value.bool false))]))))))))))) ∨
 (∃ n10 : Nat,
 (∃ cs1 : List Go.Value,
 ((Says C 15 [(D.agg [D.nil, (D.val (vI x1))])] [(D.sl (n10) 1 (cs1))]) ∧
 ((((Qv (Pt 1005 0)) ∧
 (Qv (some (AObj.cells [(vI 0), (vI 0)] 31 false 2)))) ∧
 ((Qv (vI x2)) ∧
 ((Qv (Value.agg [(Value.slice none 0 0), (vI x1)].toArray)) ∧
 True))) ∧
 (bcase (decide (0 + n10 * 1 ≤ List.length cs1))
 (∃ n11 : Int,
 (∃ n12 : Int,
 (((Says C 14 [(D.agg [D.nil, (D.val (vI x1))]), (D.val (vI x2)), (D.sl (n10) 1 (List.take (n10 * 1) (List.drop 0 cs1)))] [(D.agg [(D.val (vI n11)), (D.val (vI n12))]), (D.val (Value.bool true))]) ∧
 (((Qv (Value.bool true)) ∧
 ((Qv (Value.agg [(vI n11), (vI n12)].toArray)) ∧
 ((Qv (Value.tuple [(Value.agg [(vI n11), (vI n12)].toArray), (Value.bool true)].toArray)) ∧
 (((Qv (Pt 1005 0)) ∧
 (Qv (some (AObj.cells [(vI 0), (vI 0)] 31 false 2)))) ∧
 True)))) ∧
 (((Qv (Value.bool true)) ∧
 True) ∧
 (True ∧
 (bcase (n5 == 0)
 (bcase (if Bool.false = Bool.true then !(n3 == n11 && (n4 == n12 && Bool.true)) else n3 == n11 && (n4 == n12 && Bool.true))
 (bcase (n6 == 0)
 (((Says C 17 [(D.agg [D.nil, (D.val (vI x1))]), (D.val (vI x2)), (D.val (vI n11))] [D.nil]) ∧
 (((Says C 16 [D.nil, D.nil] [(D.val (Value.bool true))]) ∧
 (k [(D.val (Value.bool true))])) ∨
 ((Says C 16 [D.nil, D.nil] [(D.val (Value.bool false))]) ∧
 (k [(D.val (Value.bool false))])))) ∨
 (∃ n13 : Nat,
 (∃ cs2 : List Go.Value,
 ((Says C 17 [(D.agg [D.nil, (D.val (vI x1))]), (D.val (vI x2)), (D.val (vI n11))] [(D.sl (n13) 1 (cs2))]) ∧
 (bcase (decide (0 + n13 * 1 ≤ List.length cs2))
 (((Says C 16 [D.nil, (D.sl (n13) 1 (List.take (n13 * 1) (List.drop 0 cs2)))] [(D.val (Value.bool true))]) ∧
 (k [(D.val (Value.bool true))])) ∨
 ((Says C 16 [D.nil, (D.sl (n13) 1 (List.take (n13 * 1) (List.drop 0 cs2)))] [(D.val (Value.bool false))]) ∧
 (k [(D.val (Value.bool false))])))
 False)))))
 (k [(D.val (Value.bool false))]))
 (k [(D.val (Value.bool false))]))
 (k [(D.val (Value.bool false))])))))) ∨
 ((Says C 14 [(D.agg [D.nil, (D.val (vI x1))]), (D.val (vI x2)), (D.sl (n10) 1 (List.take (n10 * 1) (List.drop 0 cs1)))] [(D.agg [(D.val (vI n11)), (D.val (vI n12))]), (D.val (Value.bool false))]) ∧
 (((Qv (Value.bool false)) ∧
 ((Qv (Value.agg [(vI n11), (vI n12)].toArray)) ∧
 ((Qv (Value.tuple [(Value.agg [(vI n11), (vI n12)].toArray), (Value.bool false)].toArray)) ∧
 (((Qv (Pt 1005 0)) ∧
 (Qv (some (AObj.cells [(vI 0), (vI 0)] 31 false 2)))) ∧
 True)))) ∧
 (((Qv (Value.bool false)) ∧
 True) ∧
 (True ∧
 (bcase (n5 == 0)
 (bcase (if Bool.false = Bool.true then !(n3 == n11 && (n4 == n12 && Bool.true)) else n3 == n11 && (n4 == n12 && Bool.true))
 (bcase (n6 == 0)
 (((Says C 17 [(D.agg [D.nil, (D.val (vI x1))]), (D.val (vI x2)), (D.val (vI n11))] [D.nil]) ∧
 (((Says C 16 [D.nil, D.nil] [(D.val (Value.bool true))]) ∧
 (k [(D.val (Value.bool true))])) ∨
 ((Says C 16 [D.nil, D.nil] [(D.val (Value.bool false))]) ∧
 (k [(D.val (Value.bool false))])))) ∨
 (∃ n13 : Nat,
 (∃ cs2 : List Go.Value,
 ((Says C 17 [(D.agg [D.nil, (D.val (vI x1))]), (D.val (vI x2)), (D.val (vI n11))] [(D.sl (n13) 1 (cs2))]) ∧
 (bcase (decide (0 + n13 * 1 ≤ List.length cs2))
 (((Says C 16 [D.nil, (D.sl (n13) 1 (List.take (n13 * 1) (List.drop 0 cs2)))] [(D.val (Value.bool true))]) ∧
 (k [(D.val (Value.bool true))])) ∨
 ((Says C 16 [D.nil, (D.sl (n13) 1 (List.take (n13 * 1) (List.drop 0 cs2)))] [(D.val (Value.bool false))]) ∧
 (k [(D.val (Value.bool false))])))
 False)))))
 (k [(D.val (Value.bool false))]))
 (k [(D.val (Value.bool false))]))
 (k [(D.val (Value.bool false))])))))))))
 False)))))))))))
 (bcase (n8 == 0)
 (bcase (n8 != 0)
 (bcase (n5 == n8)
 (bcase (n6 == n8)
 (bcase (if Bool.false = Bool.true then !(n3 == 0 && (n4 == 0 && Bool.true)) else n3 == 0 && (n4 == 0 && Bool.true))
 (k [(D.val (Value.bool true))])
 (k [(D.val (Value.bool false))]))
 (k [(D.val (Value.bool false))]))
 (k [(D.val (Value.bool false))]))
 ((((Qv (Pt 1005 0)) ∧
 (Qv (some (AObj.cells [(vI 0), (vI 0)] 31 false 2)))) ∧
 ((Qv (Value.agg [(Value.slice none 0 0), (vI x1)].toArray)) ∧
 ((Qv (vI x2)) ∧
 ((Qv (Value.agg [(Value.slice none 0 0), (vI x1)].toArray)) ∧
 True)))) ∧
 (((Says C 15 [(D.agg [D.nil, (D.val (vI x1))])] [D.nil]) ∧
 ((((Qv (Pt 1005 0)) ∧
 (Qv (some (AObj.cells [(vI 0), (vI 0)] 31 false 2)))) ∧
 ((Qv (vI x2)) ∧
 ((Qv (Value.agg [(Value.slice none 0 0), (vI x1)].toArray)) ∧
 True))) ∧
 (∃ n9 : Int,
 (∃ n10 : Int,
 (((Says C 14 [(D.agg [D.nil, (D.val (vI x1))]), (D.val (vI x2)), D.nil] [(D.agg [(D.val (vI n9)), (D.val (vI n10))]), (D.val (Value.bool true))]) ∧
 (((Qv (Value.bool true)) ∧
 ((Qv (Value.agg [(vI n9), (vI n10)].toArray)) ∧
 ((Qv (Value.tuple [(Value.agg [(vI n9), (vI n10)].toArray), (Value.bool true)].toArray)) ∧
 (((Qv (Pt 1005 0)) ∧
 (Qv (some (AObj.cells [(vI 0), (vI 0)] 31 false 2)))) ∧
 True)))) ∧
 (((Qv (Value.bool true)) ∧
 True) ∧
 (True ∧
 (bcase (n5 == 0)
 (bcase (if Bool.false = Bool.true then !(n3 == n9 && (n4 == n10 && Bool.true)) else n3 == n9 && (n4 == n10 && Bool.true))
 (bcase (n6 == 0)
 (((Says C 17 [(D.agg [D.nil, (D.val (vI x1))]), (D.val (vI x2)), (D.val (vI n9))] [D.nil]) ∧
 (((Says C 16 [D.nil, D.nil] [(D.val (Value.bool true))]) ∧
 (k [(D.val (Value.bool true))])) ∨
 ((Says C 16 [D.nil, D.nil] [(D.val (Value.bool false))]) ∧
 (k [(D.val (Value.bool false))])))) ∨
 (∃ n11 : Nat,
 (∃ cs1 : List Go.Value,
 ((Says C 17 [(D.agg [D.nil, (D.val (vI x1))]), (D.val (vI x2)), (D.val (vI n9))] [(D.sl (n11) 1 (cs1))]) ∧
 (bcase (decide (0 + n11 * 1 ≤ List.length cs1))
 (((Says C 16 [D.nil, (D.sl (n11) 1 (List.take (n11 * 1) (List.drop 0 cs1)))] [(D.val (Value.bool true))]) ∧
 (k [(D.val (Value.bool true))])) ∨
 ((Says C 16 [D.nil, (D.sl (n11) 1 (List.take (n11 * 1) (List.drop 0 cs1)))] [(D.val (Value.bool false))]) ∧
 (k [(D.val (Value.bool false))])))
 False)))))
 (k [(D.val (Value.bool false))]))
 (k [(D.val (Value.bool false))]))
 (k [(D.val (Value.bool false))])))))) ∨
 ((Says C 14 [(D.agg [D.nil, (D.val (vI x1))]), (D.val (vI x2)), D.nil] [(D.agg [(D.val (vI n9)), (D.val (vI n10))]), (D.val (Value.bool false))]) ∧
 (((Qv (Value.bool false)) ∧
 ((Qv (Value.agg [(vI n9), (vI n10)].toArray)) ∧
 ((Qv (Value.tuple [(Value.agg [(vI n9), (vI n10)].toArray), (Value.bool false)].toArray)) ∧
 (((Qv (Pt 1005 0)) ∧
 (Qv (some (AObj.cells [(vI 0), (vI 0)] 31 false 2)))) ∧
 True)))) ∧
 (((Qv (Value.bool false)) ∧
 True) ∧
 (True ∧
 (bcase (n5 == 0)
 (bcase (if Bool.false = Bool.true then !(n3 == n9 && (n4 == n10 && Bool.true)) else n3 == n9 && (n4 == n10 && Bool.true))
 (bcase (n6 == 0)
 (((Says C 17 [(D.agg [D.nil, (D.val (vI x1))]), (D.val (vI x2)), (D.val (vI n9))] [D.nil]) ∧
 (((Says C 16 [D.nil, D.nil] [(D.val (Value.bool true))]) ∧
 (k [(D.val (Value.bool true))])) ∨
 ((Says C 16 [D.nil, D.nil] [(D.val (Value.bool false))]) ∧
 (k [(D.val (Value.bool false))])))) ∨
 (∃ n11 : Nat,
 (∃ cs1 : List Go.Value,
 ((Says C 17 [(D.agg [D.nil, (D.val (vI x1))]), (D.val (vI x2)), (D.val (vI n9))] [(D.sl (n11) 1 (cs1))]) ∧
 (bcase (decide (0 + n11 * 1 ≤ List.length cs1))
 (((Says C 16 [D.nil, (D.sl (n11) 1 (List.take (n11 * 1) (List.drop 0 cs1)))] [(D.val (Value.bool true))]) ∧
 (k [(D.val (Value.bool true))])) ∨
 ((Says C 16 [D.nil, (D.sl (n11) 1 (List.take (n11 * 1) (List.drop 0 cs1)))] [(D.val (Value.bool false))]) ∧
 (k [(D.val (Value.bool false))])))
 False)))))
 (k [(D.val (Value.bool false))]))
 (k [(D.val (Value.bool false))]))
 (k [(D.val (Value.bool false))]))))))))))) ∨
 (∃ n9 : Nat,
 (∃ cs1 : List Go.Value,
 ((Says C 15 [(D.agg [D.nil, (D.val (vI x1))])] [(D.sl (n9) 1 (cs1))]) ∧
 ((((Qv (Pt 1005 0)) ∧
 (Qv (some (AObj.cells [(vI 0), (vI 0)] 31 false 2)))) ∧
 ((Qv (vI x2)) ∧
 ((Qv (Value.agg [(Value.slice none 0 0), (vI x1)].toArray)) ∧
 True))) ∧
 (bcase (decide (0 + n9 * 1 ≤ List.length cs1))
 (∃ n10 : Int,
 (∃ n11 : Int,
 (((Says C 14 [(D.agg [D.nil, (D.val (vI x1))]), (D.val (vI x2)), (D.sl (n9) 1 (List.take (n9 * 1) (List.drop 0 cs1)))] [(D.agg [(D.val (vI n10)), (D.val (vI n11))]), (D.val (Value.bool true))]) ∧
 (((Qv (Value.bool true)) ∧
 ((Qv (Value.agg [(vI n10), (vI n11)].toArray)) ∧
 ((Qv (Value.tuple [(Value.agg [(vI n10), (vI n11)].toArray), (Value.bool true)].toArray)) ∧
 (((Qv (Pt 1005 0)) ∧
 (Qv (some (AObj.cells [(vI 0), (vI 0)] 31 false 2)))) ∧
 True)))) ∧
 (((Qv (Value.bool true)) ∧
 True) ∧
 (True ∧
 (bcase (n5 == 0)
 (bcase (if Bool.false = Bool.true then !(n3 == n10 && (n4 == n11 && Bool.true)) else n3 == n10 && (n4 == n11 && Bool.true))
 (bcase (n6 == 0)
 (((Says C 17 [(D.agg [D.nil, (D.val (vI x1))]), (D.val (vI x2)), (D.val (vI n10))] [D.nil]) ∧
 (((Says C 16 [D.nil, D.nil] [(D.val (Value.bool true))]) ∧
 (k [(D.val (Value.bool true))])) ∨
 ((Says C 16 [D.nil, D.nil] [(D.val (Value.bool false))]) ∧
 (k [(D.val (Value.bool false))])))) ∨
 (∃ n12 : Nat,
 (∃ cs2 : List Go.Value,
 ((Says C 17 [(D.agg [D.nil, (D.val (vI x1))]), (D.val (vI x2)), (D.val (vI n10))] [(D.sl (n12) 1 (cs2))]) ∧
 (bcase (decide (0 + n12 * 1 ≤ List.length cs2))
 (((Says C 16 [D.nil, (D.sl (n12) 1 (List.take (n12 * 1) (List.drop 0 cs2)))] [(D.val (Value.bool true))]) ∧
 (k [(D.val (Value.bool true))])) ∨
 ((Says C 16 [D.nil, (D.sl (n12) 1 (List.take (n12 * 1) (List.drop 0 cs2)))] [(D.val (Value.bool false))]) ∧
 (k [(D.val (Value.bool false))])))
 False)))))
 (k [(D.val (Value.bool false))]))
 (k [(D.val (Value.bool false))]))
 (k [(D.val (Value.bool false))])))))) ∨
 ((Says C 14 [(D.agg [D.nil, (D.val (vI x1))]), (D.val (vI x2)), (D.sl (n9) 1 (List.take (n9 * 1) (List.drop 0 cs1)))] [(D.agg [(D.val (vI n10)), (D.val (vI n11))]), (D.val (Value.bool false))]) ∧
 (((Qv (Value.bool false)) ∧
 ((Qv (Value.agg [(vI n10), (vI n11)].toArray)) ∧
 ((Qv (Value.tuple [(Value.agg [(vI n10), (vI n11)].toArray), (Value.bool false)].toArray)) ∧
 (((Qv (Pt 1005 0)) ∧
 (Qv (some (AObj.cells [(vI 0), (vI 0)] 31 false 2)))) ∧
 True)))) ∧
 (((Qv (Value.bool false)) ∧
 True) ∧
 (True ∧
 (bcase (n5 == 0)
 (bcase (if Bool.false = Bool.true then !(n3 == n10 && (n4 == n11 && Bool.true)) else n3 == n10 && (n4 == n11 && Bool.true))
 (bcase (n6 == 0)
 (((Says C 17 [(D.agg [D.nil, (D.val (vI x1))]), (D.val (vI x2)), (D.val (vI n10))] [D.nil]) ∧
 (((Says C 16 [D.nil, D.nil] [(D.val (Value.bool true))]) ∧
 (k [(D.val (Value.bool true))])) ∨
 ((Says C 16 [D.nil, D.nil] [(D.val (Value.bool false))]) ∧
 (k [(D.val (Value.bool false))])))) ∨
 (∃ n12 : Nat,
 (∃ cs2 : List Go.Value,
 ((Says C 17 [(D.agg [D.nil, (D.val (vI x1))]), (D.val (vI x2)), (D.val (vI n10))] [(D.sl (n12) 1 (cs2))]) ∧
 (bcase (decide (0 + n12 * 1 ≤ List.length cs2))
 (((Says C 16 [D.nil, (D.sl (n12) 1 (List.take (n12 * 1) (List.drop 0 cs2)))] [(D.val (Value.bool true))]) ∧
 (k [(D.val (Value.bool true))])) ∨
 ((Says C 16 [D.nil, (D.sl (n12) 1 (List.take (n12 * 1) (List.drop 0 cs2)))] [(D.val (Value.bool false))]) ∧
 (k [(D.val (Value.bool false))])))
 False)))))
 (k [(D.val (Value.bool false))]))
 (k [(D.val (Value.bool false))]))
 (k [(D.val (Value.bool false))])))))))))
 False))))))))
 (bcase (n8 != 0)
 (bcase (n5 == n8)
 (bcase (n6 == n8)
 (bcase (if Bool.false = Bool.true then !(n3 == 0 && (n4 == 0 && Bool.true)) else n3 == 0 && (n4 == 0 && Bool.true))
 (k [(D.val (Value.bool true))])
 (k [(D.val (Value.bool false))]))
 (k [(D.val (Value.bool false))]))
 (k [(D.val (Value.bool false))]))
 ((((Qv (Pt 1005 0)) ∧
 (Qv (some (AObj.cells [(vI 0), (vI 0)] 31 false 2)))) ∧
 ((Qv (Value.agg [(Value.slice none 0 0), (vI x1)].toArray)) ∧
 ((Qv (vI x2)) ∧
 ((Qv (Value.agg [(Value.slice none 0 0), (vI x1)].toArray)) ∧
 True)))) ∧
 (((Says C 15 [(D.agg [D.nil, (D.val (vI x1))])] [D.nil]) ∧
 ((((Qv (Pt 1005 0)) ∧
 (Qv (some (AObj.cells [(vI 0), (vI 0)] 31 false 2)))) ∧
 ((Qv (vI x2)) ∧
 ((Qv (Value.agg [(Value.slice none 0 0), (vI x1)].toArray)) ∧
 True))) ∧
 (∃ n9 : Int,
 (∃ n10 : Int,
 (((Says C 14 [(D.agg [D.nil, (D.val (vI x1))]), (D.val (vI x2)), D.nil] [(D.agg [(D.val (vI n9)), (D.val (vI n10))]), (D.val (Value.bool true))]) ∧
 (((Qv (Value.bool true)) ∧
 ((Qv (Value.agg [(vI n9), (vI n10)].toArray)) ∧
 ((Qv (Value.tuple [(Value.agg [(vI n9), (vI n10)].toArray), (Value.bool true)].toArray)) ∧
 (((Qv (Pt 1005 0)) ∧
 (Qv (some (AObj.cells [(vI 0), (vI 0)] 31 false 2)))) ∧
 True)))) ∧
 (((Qv (Value.bool true)) ∧
 True) ∧
 (True ∧
 (bcase (n5 == 0)
 (bcase (if Bool.false = Bool.true then !(n3 == n9 && (n4 == n10 && Bool.true)) else n3 == n9 && (n4 == n10 && Bool.true))
 (bcase (n6 == 0)
 (((Says C 17 [(D.agg [D.nil, (D.val (vI x1))]), (D.val (vI x2)), (D.val (vI n9))] [D.nil]) ∧
 (((Says C 16 [D.nil, D.nil] [(D.val (Value.bool true))]) ∧
 (k [(D.val (Value.bool true))])) ∨
 ((Says C 16 [D.nil, D.nil] [(D.val (Value.bool false))]) ∧
 (k [(D.val (Value.bool false))])))) ∨
 (∃ n11 : Nat,
 (∃ cs1 : List Go.Value,
 ((Says C 17 [(D.agg [D.nil, (D.val (vI x1))]), (D.val (vI x2)), (D.val (vI n9))] [(D.sl (n11) 1 (cs1))]) ∧
 (bcase (decide (0 + n11 * 1 ≤ List.length cs1))
 (((Says C 16 [D.nil, (D.sl (n11) 1 (List.take (n11 * 1) (List.drop 0 cs1)))] [(D.val (Value.bool true))]) ∧
 (k [(D.val (Value.bool true))])) ∨
 ((Says C 16 [D.nil, (D.sl (n11) 1 (List.take (n11 * 1) (List.drop 0 cs1)))] [(D.val (Value.bool false))]) ∧
 (k [(D.val (Value.bool false))])))
 False)))))
 (k [(D.val (Value.bool false))]))
 (k [(D.val (Value.bool false))]))
 (k [(D.val (Value.bool false))])))))) ∨
 ((Says C 14 [(D.agg [D.nil, (D.val (vI x1))]), (D.val (vI x2)), D.nil] [(D.agg [(D.val (vI n9)), (D.val (vI n10))]), (D.val (Value.bool false))]) ∧
 (((Qv (Value.bool false)) ∧
 ((Qv (Value.agg [(vI n9), (vI n10)].toArray)) ∧
 ((Qv (Value.tuple [(Value.agg [(vI n9), (vI n10)].toArray), (Value.bool false)].toArray)) ∧
 (((Qv (Pt 1005 0)) ∧
 (Qv (some (AObj.cells [(vI 0), (vI 0)] 31 false 2)))) ∧
 True)))) ∧
 (((Qv (Value.bool false)) ∧
 True) ∧
 (True ∧
 (bcase (n5 == 0)
 (bcase (if Bool.false = Bool.true then !(n3 == n9 && (n4 == n10 && Bool.true)) else n3 == n9 && (n4 == n10 && Bool.true))
 (bcase (n6 == 0)
 (((Says C 17 [(D.agg [D.nil, (D.val (vI x1))]), (D.val (vI x2)), (D.val (vI n9))] [D.nil]) ∧
 (((Says C 16 [D.nil, D.nil] [(D.val (Value.bool true))]) ∧
 (k [(D.val (Value.bool true))])) ∨
 ((Says C 16 [D.nil, D.nil] [(D.val (Value.bool false))]) ∧
 (k [(D.val (Value.bool false))])))) ∨
 (∃ n11 : Nat,
 (∃ cs1 : List Go.Value,
 ((Says C 17 [(D.agg [D.nil, (D.val (vI x1))]), (D.val (vI x2)), (D.val (vI n9))] [(D.sl (n11) 1 (cs1))]) ∧
 (bcase (decide (0 + n11 * 1 ≤ List.length cs1))
 (((Says C 16 [D.nil, (D.sl (n11) 1 (List.take (n11 * 1) (List.drop 0 cs1)))] [(D.val (Value.bool true))]) ∧
 (k [(D.val (Value.bool true))])) ∨
 ((Says C 16 [D.nil, (D.sl (n11) 1 (List.take (n11 * 1) (List.drop 0 cs1)))] [(D.val (Value.bool false))]) ∧
 (k [(D.val (Value.bool false))])))
 False)))))
 (k [(D.val (Value.bool false))]))
 (k [(D.val (Value.bool false))]))
 (k [(D.val (Value.bool false))]))))))))))) ∨
 (∃ n9 : Nat,
 (∃ cs1 : List Go.Value,
 ((Says C 15 [(D.agg [D.nil, (D.val (vI x1))])] [(D.sl (n9) 1 (cs1))]) ∧
 ((((Qv (Pt 1005 0)) ∧
 (Qv (some (AObj.cells [(vI 0), (vI 0)] 31 false 2)))) ∧
 ((Qv (vI x2)) ∧
 ((Qv (Value.agg [(Value.slice none 0 0), (vI x1)].toArray)) ∧
 True))) ∧
 (bcase (decide (0 + n9 * 1 ≤ List.length cs1))
 (∃ n10 : Int,
 (∃ n11 : Int,
 (((Says C 14 [(D.agg [D.nil, (D.val (vI x1))]), (D.val (vI x2)), (D.sl (n9) 1 (List.take (n9 * 1) (List.drop 0 cs1)))] [(D.agg [(D.val (vI n10)), (D.val (vI n11))]), (D.val (Value.bool true))]) ∧
 (((Qv (Value.bool true)) ∧
 ((Qv (Value.agg [(vI n10), (vI n11)].toArray)) ∧
 ((Qv (Value.tuple [(Value.agg [(vI n10), (vI n11)].toArray), (Value.bool true)].toArray)) ∧
 (((Qv (Pt 1005 0)) ∧
 (Qv (some (AObj.cells [(vI 0), (vI 0)] 31 false 2)))) ∧
 True)))) ∧
 (((Qv (Value.bool true)) ∧
 True) ∧
 (True ∧
 (bcase (n5 == 0)
 (bcase (if Bool.false = Bool.true then !(n3 == n10 && (n4 == n11 && Bool.true)) else n3 == n10 && (n4 == n11 && Bool.true))
 (bcase (n6 == 0)
 (((Says C 17 [(D.agg [D.nil, (D.val (vI x1))]), (D.val (vI x2)), (D.val (vI n10))] [D.nil]) ∧
 (((Says C 16 [D.nil, D.nil] [(D.val (Value.bool true))]) ∧
 (k [(D.val (Value.bool true))])) ∨
 ((Says C 16 [D.nil, D.nil] [(D.val (Value.bool false))]) ∧
 (k [(D.val (Value.bool false))])))) ∨
 (∃ n12 : Nat,
 (∃ cs2 : List Go.Value,
 ((Says C 17 [(D.agg [D.nil, (D.val (vI x1))]), (D.val (vI x2)), (D.val (vI n10))] [(D.sl (n12) 1 (cs2))]) ∧
 (bcase (decide (0 + n12 * 1 ≤ List.length cs2))
 (((Says C 16 [D.nil, (D.sl (n12) 1 (List.take (n12 * 1) (List.drop 0 cs2)))] [(D.val (Value.bool true))]) ∧
 (k [(D.val (Value.bool true))])) ∨
 ((Says C 16 [D.nil, (D.sl (n12) 1 (List.take (n12 * 1) (List.drop 0 cs2)))] [(D.val (Value.bool false))]) ∧
 (k [(D.val (Value.bool false))])))
 False)))))
 (k [(D.val (Value.bool false))]))
 (k [(D.val (Value.bool false))]))
 (k [(D.val (Value.bool false))])))))) ∨
 ((Says C 14 [(D.agg [D.nil, (D.val (vI x1))]), (D.val (vI x2)), (D.sl (n9) 1 (List.take (n9 * 1) (List.drop 0 cs1)))] [(D.agg [(D.val (vI n10)), (D.val (vI n11))]), (D.val (Value.bool false))]) ∧
 (((Qv (Value.bool false)) ∧
 ((Qv (Value.agg [(vI n10), (vI n11)].toArray)) ∧
 ((Qv (Value.tuple [(Value.agg [(vI n10), (vI n11)].toArray), (Value.bool false)].toArray)) ∧
 (((Qv (Pt 1005 0)) ∧
 (Qv (some (AObj.cells [(vI 0), (vI 0)] 31 false 2)))) ∧
 True)))) ∧
 (((Qv (Value.bool false)) ∧
 True) ∧
 (True ∧
 (bcase (n5 == 0)
 (bcase (if Bool.false = Bool.true then !(n3 == n10 && (n4 == n11 && Bool.true)) else n3 == n10 && (n4 == n11 && Bool.true))
 (bcase (n6 == 0)
 (((Says C 17 [(D.agg [D.nil, (D.val (vI x1))]), (D.val (vI x2)), (D.val (vI n10))] [D.nil]) ∧
 (((Says C 16 [D.nil, D.nil] [(D.val (Value.bool true))]) ∧
 (k [(D.val (Value.bool true))])) ∨
 ((Says C 16 [D.nil, D.nil] [(D.val (Value.bool false))]) ∧
 (k [(D.val (Value.bool false))])))) ∨
 (∃ n12 : Nat,
 (∃ cs2 : List Go.Value,
 ((Says C 17 [(D.agg [D.nil, (D.val (vI x1))]), (D.val (vI x2)), (D.val (vI n10))] [(D.sl (n12) 1 (cs2))]) ∧
 (bcase (decide (0 + n12 * 1 ≤ List.length cs2))
 (((Says C 16 [D.nil, (D.sl (n12) 1 (List.take (n12 * 1) (List.drop 0 cs2)))] [(D.val (Value.bool true))]) ∧
 (k [(D.val (Value.bool true))])) ∨
 ((Says C 16 [D.nil, (D.sl (n12) 1 (List.take (n12 * 1) (List.drop 0 cs2)))] [(D.val (Value.bool false))]) ∧
 (k [(D.val (Value.bool false))])))
 False)))))
 (k [(D.val (Value.bool false))]))
 (k [(D.val (Value.bool false))]))
 (k [(D.val (Value.bool false))])))))))))
 False))))))))))))))))) ∨
 (∃ n6 : Nat,
 (∃ cs1 : List Go.Value,
 (∃ n7 : Int,
 ((Says C 11 [(D.agg [(D.sl 0 1 []), (D.val (vI x1))]), (D.val (vI x2))] [(D.sl (n6) 1 (cs1)), (D.val (vI n7))]) ∧
 (∃ n8 : Int,
 (∃ n9 : Int,
 ((Says C 12 [(D.agg [D.nil, (D.val (vI x1))])] [(D.val (vI n8)), (D.val (vI n9))]) ∧
 (bcase (n2 != n9)
 (k [(D.val (Value.bool false))])
 (bcase (n1 != n8)
 (k [(D.val (Value.bool false))])
 (bcase (n9 == 0)
 (∃ n10 : Int,
 ((Says C 13 [(D.agg [D.nil, (D.val (vI x1))]), (D.val (vI x2))] [(D.val (vI n10))]) ∧
 (bcase (n10 == 0)
 (bcase (n10 != 0)
 (bcase (n5 == n10)
 (bcase (n7 == n10)
 (bcase (if Bool.false = Bool.true then !(n3 == 0 && (n4 == 0 && Bool.true)) else n3 == 0 && (n4 == 0 && Bool.true))
 (bcase ((↑n6 : Int) == 0)
 (k [(D.val (Value.bool true))])
 (k [(D.val (Value.bool false))]))
 (k [(D.val (Value.bool false))]))
 (k [(D.val (Value.bool false))]))
 (k [(D.val (Value.bool false))]))
 ((((Qv (Pt 1006 0)) ∧
 (Qv (some (AObj.cells [(vI 0), (vI 0)] 31 false 2)))) ∧
 ((Qv (Value.agg [(Value.slice none 0 0), (vI x1)].toArray)) ∧
 ((Qv (vI x2)) ∧
 ((Qv (Value.agg [(Value.slice none 0 0), (vI x1)].toArray)) ∧
 True)))) ∧
 (((Says C 15 [(D.agg [D.nil, (D.val (vI x1))])] [D.nil]) ∧
 ((((Qv (Pt 1006 0)) ∧
 (Qv (some (AObj.cells [(vI 0), (vI 0)] 31 false 2)))) ∧
 ((Qv (vI x2)) ∧
 ((Qv (Value.agg [(Value.slice none 0 0), (vI x1)].toArray)) ∧
 True))) ∧
 (∃ n11 : Int,
 (∃ n12 : Int,
 (((Says C 14 [(D.agg [D.nil, (D.val (vI x1))]), (D.val (vI x2)), D.nil] [(D.agg [(D.val (vI n11)), (D.val (vI n12))]), (D.val (Value.bool true))]) ∧
 (((Qv (Value.bool true)) ∧
 ((Qv (Value.agg [(vI n11), (vI n12)].toArray)) ∧
 ((Qv (Value.tuple [(Value.agg [(vI n11), (vI n12)].toArray), (Value.bool true)].toArray)) ∧
 (((Qv (Pt 1006 0)) ∧
 (Qv (some (AObj.cells [(vI 0), (vI 0)] 31 false 2)))) ∧
 True)))) ∧
 (((Qv (Value.bool true)) ∧
 True) ∧
 (True ∧
 (bcase (n5 == 0)
 (bcase (if Bool.false = Bool.true then !(n3 == n11 && (n4 == n12 && Bool.true)) else n3 == n11 && (n4 == n12 && Bool.true))
 (bcase (n7 == 0)
 (((Says C 17 [(D.agg [D.nil, (D.val (vI x1))]), (D.val (vI x2)), (D.val (vI n11))] [D.nil]) ∧
 (bcase (decide (0 + n6 * 1 ≤ List.length cs1))
 (((Says C 16 [(D.sl (n6) 1 (List.take (n6 * 1) (List.drop 0 cs1))), D.nil] [(D.val (Value.bool true))]) ∧
 (k [(D.val (Value.bool true))])) ∨
 ((Says C 16 [(D.sl (n6) 1 (List.take (n6 * 1) (List.drop 0 cs1))), D.nil] [(D.val (Value.bool false))]) ∧
 (k [(D.val (Value.bool false))])))
 False)) ∨
 (∃ n13 : Nat,
 (∃ cs2 : List Go.Value,
 ((Says C 17 [(D.agg [D.nil, (D.val (vI x1))]), (D.val (vI x2)), (D.val (vI n11))] [(D.sl (n13) 1 (cs2))]) ∧
 (bcase (decide (0 + n6 * 1 ≤ List.length cs1))
 (bcase (decide (0 + n13 * 1 ≤ List.length cs2))
 (((Says C 16 [(D.sl (n6) 1 (List.take (n6 * 1) (List.drop 0 cs1))), (D.sl (n13) 1 (List.take (n13 * 1) (List.drop 0 cs2)))] [(D.val (Value.bool true))]) ∧
 (k [(D.val (Value.bool true))])) ∨
 ((Says C 16 [(D.sl (n6) 1 (List.take (n6 * 1) (List.drop 0 cs1))), (D.sl (n13) 1 (List.take (n13 * 1) (List.drop 0 cs2)))] [(D.val (Value.bool false))]) ∧
 (k [(D.val (Value.bool false))])))
 False)
 False)))))
 (k [(D.val (Value.bool false))]))
 (k [(D.val (Value.bool false))]))
 (k [(D.val (Value.bool false))])))))) ∨
 ((Says C 14 [(D.agg [D.nil, (D.val (vI x1))]), (D.val (vI x2)), D.nil] [(D.agg [(D.val (vI n11)), (D.val (vI n12))]), (D.val (Value.bool false))]) ∧
 (((Qv (Value.bool false)) ∧
 ((Qv (Value.agg [(vI n11), (vI n12)].toArray)) ∧
 ((Qv (Value.tuple [(Value.agg [(vI n11), (vI n12)].toArray), (Value.bool false)].toArray)) ∧
 (((Qv (Pt 1006 0)) ∧
 (Qv (some (AObj.cells [(vI 0), (vI 0)] 31 false 2)))) ∧
 True)))) ∧
 (((Qv (Value.bool false)) ∧
 True) ∧
 (True ∧
 (bcase (n5 == 0)
 (bcase (if Bool.false = Bool.true then !(n3 == n11 && (n4 == n12 && Bool.true)) else n3 == n11 && (n4 == n12 && Bool.true))
 (bcase (n7 == 0)
 (((Says C 17 [(D.agg [D.nil, (D.val (vI x1))]), (D.val (vI x2)), (D.val (vI n11))] [D.nil]) ∧
 (bcase (decide (0 + n6 * 1 ≤ List.length cs1))
 (((Says C 16 [(D.sl (n6) 1 (List.take (n6 * 1) (List.drop 0 cs1))), D.nil] [(D.val (Value.bool true))]) ∧
 (k [(D.val (Value.bool true))])) ∨
 ((Says C 16 [(D.sl (n6) 1 (List.take (n6 * 1) (List.drop 0 cs1))), D.nil] [(D.val (Value.bool false))]) ∧
 (k [(D.val (Value.bool false))])))
 False)) ∨
 (∃ n13 : Nat,
 (∃ cs2 : List Go.Value,
 ((Says C 17 [(D.agg [D.nil, (D.val (vI x1))]), (D.val (vI x2)), (D.val (vI n11))] [(D.sl (n13) 1 (cs2))]) ∧
 (bcase (decide (0 + n6 * 1 ≤ List.length cs1))
 (bcase (decide (0 + n13 * 1 ≤ List.length cs2))
 (((Says C 16 [(D.sl (n6) 1 (List.take (n6 * 1) (List.drop 0 cs1))), (D.sl (n13) 1 (List.take (n13 * 1) (List.drop 0 cs2)))] [(D.val (Value.bool true))]) ∧
 (k [(D.val (Value.bool true))])) ∨
 ((Says C 16 [(D.sl (n6) 1 (List.take (n6 * 1) (List.drop 0 cs1))), (D.sl (n13) 1 (List.take (n13 * 1) (List.drop 0 cs2)))] [(D.val (Value.bool false))]) ∧
 (k [(D.val (Value.bool false))])))
 False)
 False)))))
 (k [(D.val (Value.bool false))]))
 (k [(D.val (Value.bool false))]))
 (k [(D.val (Value.bool false))]))))))))))) ∨
 (∃ n11 : Nat,
 (∃ cs2 : List Go.Value,
 ((Says C 15 [(D.agg [D.nil, (D.val (vI x1))])] [(D.sl (n11) 1 (cs2))]) ∧
 ((((Qv (Pt 1006 0)) ∧
 (Qv (some (AObj.cells [(vI 0), (vI 0)] 31 false 2)))) ∧
 ((Qv (vI x2)) ∧
 ((Qv (Value.agg [(Value.slice none 0 0), (vI x1)].toArray)) ∧
 True))) ∧
 (bcase (decide (0 + n11 * 1 ≤ List.length cs2))
 (∃ n12 : Int,
 (∃ n13 : Int,
 (((Says C 14 [(D.agg [D.nil, (D.val (vI x1))]), (D.val (vI x2)), (D.sl (n11) 1 (List.take (n11 * 1) (List.drop 0 cs2)))] [(D.agg [(D.val (vI n12)), (D.val (vI n13))]), (D.val (Value.bool true))]) ∧
 (((Qv (Value.bool true)) ∧
 ((Qv (Value.agg [(vI n12), (vI n13)].toArray)) ∧
 ((Qv (Value.tuple [(Value.agg [(vI n12), (vI n13)].toArray), (Value.bool true)].toArray)) ∧
 (((Qv (Pt 1006 0)) ∧
 (Qv (some (AObj.cells [(vI 0), (vI 0)] 31 false 2)))) ∧
 True)))) ∧
 (((Qv (Value.bool true)) ∧
 True) ∧
 (True ∧
 (bcase (n5 == 0)
 (bcase (if Bool.false = Bool.true then !(n3 == n12 && (n4 == n13 && Bool.true)) else n3 == n12 && (n4 == n13 && Bool.true))
 (bcase (n7 == 0)
 (((Says C 17 [(D.agg [D.nil, (D.val (vI x1))]), (D.val (vI x2)), (D.val (vI n12))] [D.nil]) ∧
 (bcase (decide (0 + n6 * 1 ≤ List.length cs1))
 (((Says C 16 [(D.sl (n6) 1 (List.take (n6 * 1) (List.drop 0 cs1))), D.nil] [(D.val (Value.bool true))]) ∧
 (k [(D.val (Value.bool true))])) ∨
 ((Says C 16 [(D.sl (n6) 1 (List.take (n6 * 1) (List.drop 0 cs1))), D.nil] [(D.val (Value.bool false))]) ∧
 (k [(D.val (Value.bool false))])))
 False)) ∨
 (∃ n14 : Nat,
 (∃ cs3 : List Go.Value,
 ((Says C 17 [(D.agg [D.nil, (D.val (vI x1))]), (D.val (vI x2)), (D.val (vI n12))] [(D.sl (n14) 1 (cs3))]) ∧
 (bcase (decide (0 + n6 * 1 ≤ List.length cs1))
 (bcase (decide (0 + n14 * 1 ≤ List.length cs3))
 (((Says C 16 [(D.sl (n6) 1 (List.take (n6 * 1) (List.drop 0 cs1))), (D.sl (n14) 1 (List.take (n14 * 1) (List.drop 0 cs3)))] [(D.val (Value.bool true))]) ∧
 (k [(D.val (Value.bool true))])) ∨
 ((Says C 16 [(D.sl (n6) 1 (List.take (n6 * 1) (List.drop 0 cs1))), (D.sl (n14) 1 (List.take (n14 * 1) (List.drop 0 cs3)))] [(D.val (Value.bool false))]) ∧
 (k [(D.val (Value.bool false))])))
 False)
 False)))))
 (k [(D.val (Value.bool false))]))
 (k [(D.val (Value.bool false))]))
 (k [(D.val (Value.bool false))])))))) ∨
 ((Says C 14 [(D.agg [D.nil, (D.val (vI x1))]), (D.val (vI x2)), (D.sl (n11) 1 (List.take (n11 * 1) (List.drop 0 cs2)))] [(D.agg [(D.val (vI n12)), (D.val (vI n13))]), (D.val (Value.bool false))]) ∧
 (((Qv (Value.bool false)) ∧
 ((Qv (Value.agg [(vI n12), (vI n13)].toArray)) ∧
 ((Qv (Value.tuple [(Value.agg [(vI n12), (vI n13)].toArray), (Value.bool false)].toArray)) ∧
 (((Qv (Pt 1006 0)) ∧
 (Qv (some (AObj.cells [(vI 0), (vI 0)] 31 false 2)))) ∧
 True)))) ∧
 (((Qv (Value.bool false)) ∧
 True) ∧
 (True ∧
 (bcase (n5 == 0)
 (bcase (if Bool.false = Bool.true then !(n3 == n12 && (n4 == n13 && Bool.true)) else n3 == n12 && (n4 == n13 && Bool.true))
 (bcase (n7 == 0)
 (((Says C 17 [(D.agg [D.nil, (D.val (vI x1))]), (D.val (vI x2)), (D.val (vI n12))] [D.nil]) ∧
 (bcase (decide (0 + n6 * 1 ≤ List.length cs1))
 (((Says C 16 [(D.sl (n6) 1 (List.take (n6 * 1) (List.drop 0 cs1))), D.nil] [(D.val (Value.bool true))]) ∧
 (k [(D.val (Value.bool true))])) ∨
 ((Says C 16 [(D.sl (n6) 1 (List.take (n6 * 1) (List.drop 0 cs1))), D.nil] [(D.val (Value.bool false))]) ∧
 (k [(D.val (Value.bool false))])))
 False)) ∨
 (∃ n14 : Nat,
 (∃ cs3 : List Go.Value,
 ((Says C 17 [(D.agg [D.nil, (D.val (vI x1))]), (D.val (vI x2)), (D.val (vI n12))] [(D.sl (n14) 1 (cs3))]) ∧
 (bcase (decide (0 + n6 * 1 ≤ List.length cs1))
 (bcase (decide (0 + n14 * 1 ≤ List.length cs3))
 (((Says C 16 [(D.sl (n6) 1 (List.take (n6 * 1) (List.drop 0 cs1))), (D.sl (n14) 1 (List.take (n14 * 1) (List.drop 0 cs3)))] [(D.val (Value.bool true))]) ∧
 (k [(D.val (Value.bool true))])) ∨
 ((Says C 16 [(D.sl (n6) 1 (List.take (n6 * 1) (List.drop 0 cs1))), (D.sl (n14) 1 (List.take (n14 * 1) (List.drop 0 cs3)))] [(D.val (Value.bool false))]) ∧
 (k [(D.val (Value.bool false))])))
 False)
 False)))))
 (k [(D.val (Value.bool false))]))
 (k [(D.val (Value.bool false))]))
 (k [(D.val (Value.bool false))])))))))))
 False))))))))
 (bcase (n10 != 0)
 (bcase (n5 == n10)
 (bcase (n7 == n10)
 (bcase (if Bool.false = Bool.true then !(n3 == 0 && (n4 == 0 && Bool.true)) else n3 == 0 && (n4 == 0 && Bool.true))
 (bcase ((↑n6 : Int) == 0)
 (k [(D.val (Value.bool true))])
 (k [(D.val (Value.bool false))]))
 (k [(D.val (Value.bool false))]))
 (k [(D.val (Value.bool false))]))
 (k [(D.val (Value.bool false))]))
 ((((Qv (Pt 1006 0)) ∧
 (Qv (some (AObj.cells [(vI 0), (vI 0)] 31 false 2)))) ∧
 ((Qv (Value.agg [(Value.slice none 0 0), (vI x1)].toArray)) ∧
 ((Qv (vI x2)) ∧
 ((Qv (Value.agg [(Value.slice none 0 0), (vI x1)].toArray)) ∧
 True)))) ∧
 (((Says C 15 [(D.agg [D.nil, (D.val (vI x1))])] [D.nil]) ∧
 ((((Qv (Pt 1006 0)) ∧
 (Qv (some (AObj.cells [(vI 0), (vI 0)] 31 false 2)))) ∧
 ((Qv (vI x2)) ∧
 ((Qv (Value.agg [(Value.slice none 0 0), (vI x1)].toArray)) ∧
 True))) ∧
 (∃ n11 : Int,
 (∃ n12 : Int,
 (((Says C 14 [(D.agg [D.nil, (D.val (vI x1))]), (D.val (vI x2)), D.nil] [(D.agg [(D.val (vI n11)), (D.val (vI n12))]), (D.val (Value.bool true))]) ∧
 (((Qv (Value.bool true)) ∧
 ((Qv (Value.agg [(vI n11), (vI n12)].toArray)) ∧
 ((Qv (Value.tuple [(Value.agg [(vI n11), (vI n12)].toArray), (Value.bool true)].toArray)) ∧
 (((Qv (Pt 1006 0)) ∧
 (Qv (some (AObj.cells [(vI 0), (vI 0)] 31 false 2)))) ∧
 True)))) ∧
 (((Qv (Value.bool true)) ∧
 True) ∧
 (True ∧
 (bcase (n5 == 0)
 (bcase (if Bool.false = Bool.true then !(n3 == n11 && (n4 == n12 && Bool.true)) else n3 == n11 && (n4 == n12 && Bool.true))
 (bcase (n7 == 0)
 (((Says C 17 [(D.agg [D.nil, (D.val (vI x1))]), (D.val (vI x2)), (D.val (vI n11))] [D.nil]) ∧
 (bcase (decide (0 + n6 * 1 ≤ List.length cs1))
 (((Says C 16 [(D.sl (n6) 1 (List.take (n6 * 1) (List.drop 0 cs1))), D.nil] [(D.val (Value.bool true))]) ∧
 (k [(D.val (Value.bool true))])) ∨
 ((Says C 16 [(D.sl (n6) 1 (List.take (n6 * 1) (List.drop 0 cs1))), D.nil] [(D.val (Value.bool false))]) ∧
 (k [(D.val (Value.bool false))])))
 False)) ∨
 (∃ n13 : Nat,
 (∃ cs2 : List Go.Value,
 ((Says C 17 [(D.agg [D.nil, (D.val (vI x1))]), (D.val (vI x2)), (D.val (vI n11))] [(D.sl (n13) 1 (cs2))]) ∧
 (bcase (decide (0 + n6 * 1 ≤ List.length cs1))
 (bcase (decide (0 + n13 * 1 ≤ List.length cs2))
 (((Says C 16 [(D.sl (n6) 1 (List.take (n6 * 1) (List.drop 0 cs1))), (D.sl (n13) 1 (List.take (n13 * 1) (List.drop 0 cs2)))] [(D.val (Value.bool true))]) ∧
 (k [(D.val (Value.bool true))])) ∨
 ((Says C 16 [(D.sl (n6) 1 (List.take (n6 * 1) (List.drop 0 cs1))), (D.sl (n13) 1 (List.take (n13 * 1) (List.drop 0 cs2)))] [(D.val (Value.bool false))]) ∧
 (k [(D.val (Value.bool false))])))
 False)
 False)))))
 (k [(D.val (Value.bool false))]))
 (k [(D.val (Value.bool false))]))
 (k [(D.val (Value.bool false))])))))) ∨
 ((Says C 14 [(D.agg [D.nil, (D.val (vI x1))]), (D.val (vI x2)), D.nil] [(D.agg [(D.val (vI n11)), (D.val (vI n12))]), (D.val (Value.bool false))]) ∧
 (((Qv (Value.bool false)) ∧
 ((Qv (Value.agg [(vI n11), (vI n12)].toArray)) ∧
 ((Qv (Value.tuple [(Value.agg [(vI n11), (vI n12)].toArray), (Value.bool false)].toArray)) ∧
 (((Qv (Pt 1006 0)) ∧
 (Qv (some (AObj.cells [(vI 0), (vI 0)] 31 false 2)))) ∧
 True)))) ∧
 (((Qv (Value.bool false)) ∧
 True) ∧
 (True ∧
 (bcase (n5 == 0)
 (bcase (if Bool.false = Bool.true then !(n3 == n11 && (n4 == n12 && Bool.true)) else n3 == n11 && (n4 == n12 && Bool.true))
 (bcase (n7 == 0)
 (((Says C 17 [(D.agg [D.nil, (D.val (vI x1))]), (D.val (vI x2)), (D.val (vI n11))] [D.nil]) ∧
 (bcase (decide (0 + n6 * 1 ≤ List.length cs1))
 (((Says C 16 [(D.sl (n6) 1 (List.take (n6 * 1) (List.drop 0 cs1))), D.nil] [(D.val (Value.bool true))]) ∧
 (k [(D.val (Value.bool true))])) ∨
 ((Says C 16 [(D.sl (n6) 1 (List.take (n6 * 1) (List.drop 0 cs1))), D.nil] [(D.val (Value.bool false))]) ∧
 (k [(D.val (Value.bool false))])))
 False)) ∨
 (∃ n13 : Nat,
 (∃ cs2 : List Go.Value,
 ((Says C 17 [(D.agg [D.nil, (D.val (vI x1))]), (D.val (vI x2)), (D.val (vI n11))] [(D.sl (n13) 1 (cs2))]) ∧
 (bcase (decide (0 + n6 * 1 ≤ List.length cs1))
 (bcase (decide (0 + n13 * 1 ≤ List.length cs2))
 (((Says C 16 [(D.sl (n6) 1 (List.take (n6 * 1) (List.drop 0 cs1))), (D.sl (n13) 1 (List.take (n13 * 1) (List.drop 0 cs2)))] [(D.val (Value.bool true))]) ∧
 (k [(D.val (Value.bool true))])) ∨
 ((Says C 16 [(D.sl (n6) 1 (List.take (n6 * 1) (List.drop 0 cs1))), (D.sl (n13) 1 (List.take (n13 * 1) (List.drop 0 cs2)))] [(D.val (Value.bool false))]) ∧
 (k [(D.val (Value.bool false))])))
 False)
 False)))))
 (k [(D.val (Value.bool false))]))
 (k [(D.val (Value.bool false))]))
 (k [(D.val (Value.bool false))]))))))))))) ∨
 (∃ n11 : Nat,
 (∃ cs2 : List Go.Value,
 ((Says C 15 [(D.agg [D.nil, (D.val (vI x1))])] [(D.sl (n11) 1 (cs2))]) ∧
 ((((Qv (Pt 1006 0)) ∧
 (Qv (some (AObj.cells [(vI 0), (vI 0)] 31 false 2)))) ∧
 ((Qv (vI x2)) ∧
 ((Qv (Value.agg [(Value.slice none 0 0), (vI x1)].toArray)) ∧
 True))) ∧
 (bcase (decide (0 + n11 * 1 ≤ List.length cs2))
 (∃ n12 : Int,
 (∃ n13 : Int,
 (((Says C 14 [(D.agg [D.nil, (D.val (vI x1))]), (D.val (vI x2)), (D.sl (n11) 1 (List.take (n11 * 1) (List.drop 0 cs2)))] [(D.agg [(D.val (vI n12)), (D.val (vI n13))]), (D.val (Value.bool true))]) ∧
 (((Qv (Value.bool true)) ∧
 ((Qv (Value.agg [(vI n12), (vI n13)].toArray)) ∧
 ((Qv (Value.tuple [(Value.agg [(vI n12), (vI n13)].toArray), (Value.bool true)].toArray)) ∧
 (((Qv (Pt 1006 0)) ∧
 (Qv (some (AObj.cells [(vI 0), (vI 0)] 31 false 2)))) ∧
 True)))) ∧
 (((Qv (Value.bool true)) ∧
 True) ∧
 (True ∧
 (bcase (n5 == 0)
 (bcase (if Bool.false = Bool.true then !(n3 == n12 && (n4 == n13 && Bool.true)) else n3 == n12 && (n4 == n13 && Bool.true))
 (bcase (n7 == 0)
 (((Says C 17 [(D.agg [D.nil, (D.val (vI x1))]), (D.val (vI x2)), (D.val (vI n12))] [D.nil]) ∧
 (bcase (decide (0 + n6 * 1 ≤ List.length cs1))
 (((Says C 16 [(D.sl (n6) 1 (List.take (n6 * 1) (List.drop 0 cs1))), D.nil] [(D.val (Value.bool true))]) ∧
 (k [(D.val (Value.bool true))])) ∨
 ((Says C 16 [(D.sl (n6) 1 (List.take (n6 * 1) (List.drop 0 cs1))), D.nil] [(D.val (Value.bool false))]) ∧
 (k [(D.val (Value.bool false))])))
 False)) ∨
 (∃ n14 : Nat,
 (∃ cs3 : List Go.Value,
 ((Says C 17 [(D.agg [D.nil, (D.val (vI x1))]), (D.val (vI x2)), (D.val (vI n12))] [(D.sl (n14) 1 (cs3))]) ∧
 (bcase (decide (0 + n6 * 1 ≤ List.length cs1))
 (bcase (decide (0 + n14 * 1 ≤ List.length cs3))
 (((Says C 16 [(D.sl (n6) 1 (List.take (n6 * 1) (List.drop 0 cs1))), (D.sl (n14) 1 (List.take (n14 * 1) (List.drop 0 cs3)))] [(D.val (Value.bool true))]) ∧
 (k [(D.val (Value.bool true))])) ∨
 ((Says C 16 [(D.sl (n6) 1 (List.take (n6 * 1) (List.drop 0 cs1))), (D.sl (n14) 1 (List.take (n14 * 1) (List.drop 0 cs3)))] [(D.val (Value.bool false))]) ∧
 (k [(D.val (Value.bool false))])))
 False)
 False)))))
 (k [(D.val (Value.bool false))]))
 (k [(D.val (Value.bool false))]))
 (k [(D.val (Value.bool false))])))))) ∨
 ((Says C 14 [(D.agg [D.nil, (D.val (vI x1))]), (D.val (vI x2)), (D.sl (n11) 1 (List.take (n11 * 1) (List.drop 0 cs2)))] [(D.agg [(D.val (vI n12)), (D.val (vI n13))]), (D.val (Value.bool false))]) ∧
 (((Qv (Value.bool false)) ∧
 ((Qv (Value.agg [(vI n12), (vI n13)].toArray)) ∧
 ((Qv (Value.tuple [(Value.agg [(vI n12), (vI n13)].toArray), (Value.bool false)].toArray)) ∧
 (((Qv (Pt 1006 0)) ∧
 (Qv (some (AObj.cells [(vI 0), (vI 0)] 31 false 2)))) ∧
 True)))) ∧
 (((Qv (Value.bool false)) ∧
 True) ∧
 (True ∧
 (bcase (n5 == 0)
 (bcase (if Bool.false = Bool.true then !(n3 == n12 && (n4 == n13 && Bool.true)) else n3 == n12 && (n4 == n13 && Bool.true))
 (bcase (n7 == 0)
 (((Says C 17 [(D.agg [D.nil, (D.val (vI x1))]), (D.val (vI x2)), (D.val (vI n12))] [D.nil]) ∧
 (bcase (decide (0 + n6 * 1 ≤ List.length cs1))
 (((Says C 16 [(D.sl (n6) 1 (List.take (n6 * 1) (List.drop 0 cs1))), D.nil] [(D.val (Value.bool true))]) ∧
 (k [(D.val (Value.bool true))])) ∨
 ((Says C 16 [(D.sl (n6) 1 (List.take (n6 * 1) (List.drop 0 cs1))), D.nil] [(D.val (Value.bool false))]) ∧
 (k [(D.val (Value.bool false))])))
 False)) ∨
 (∃ n14 : Nat,
 (∃ cs3 : List Go.Value,
 ((Says C 17 [(D.agg [D.nil, (D.val (vI x1))]), (D.val (vI x2)), (D.val (vI n12))] [(D.sl (n14) 1 (cs3))]) ∧
 (bcase (decide (0 + n6 * 1 ≤ List.length cs1))
 (bcase (decide (0 + n14 * 1 ≤ List.length cs3))
 (((Says C 16 [(D.sl (n6) 1 (List.take (n6 * 1) (List.drop 0 cs1))), (D.sl (n14) 1 (List.take (n14 * 1) (List.drop 0 cs3)))] [(D.val (Value.bool true))]) ∧
 (k [(D.val (Value.bool true))])) ∨
 ((Says C 16 [(D.sl (n6) 1 (List.take (n6 * 1) (List.drop 0 cs1))), (D.sl (n14) 1 (List.take (n14 * 1) (List.drop 0 cs3)))] [(D.val (Value.bool false))]) ∧
 (k [(D.val (Value.bool false))])))
 False)
 False)))))
 (k [(D.val (Value.bool false))]))
 (k [(D.val (Value.bool false))]))
 (k [(D.val (Value.bool false))])))))))))
 False)))))))))))
 (bcase (n9 == 0)
 (bcase (n9 != 0)
 (bcase (n5 == n9)
 (bcase (n7 == n9)
 (bcase (if Bool.false = Bool.true then !(n3 == 0 && (n4 == 0 && Bool.true)) else n3 == 0 && (n4 == 0 && Bool.true))
 (bcase ((↑n6 : Int) == 0)
 (k [(D.val (Value.bool true))])
 (k [(D.val (Value.bool false))]))
 (k [(D.val (Value.bool false))]))
 (k [(D.val (Value.bool false))]))
 (k [(D.val (Value.bool false))]))
 ((((Qv (Pt 1006 0)) ∧
 (Qv (some (AObj.cells [(vI 0), (vI 0)] 31 false 2)))) ∧
 ((Qv (Value.agg [(Value.slice none 0 0), (vI x1)].toArray)) ∧
 ((Qv (vI x2)) ∧
 ((Qv (Value.agg [(Value.slice none 0 0), (vI x1)].toArray)) ∧
 True)))) ∧
 (((Says C 15 [(D.agg [D.nil, (D.val (vI x1))])] [D.nil]) ∧
 ((((Qv (Pt 1006 0)) ∧
 (Qv (some (AObj.cells [(vI 0), (vI 0)] 31 false 2)))) ∧
 ((Qv (vI x2)) ∧
 ((Qv (Value.agg [(Value.slice none 0 0), (vI x1)].toArray)) ∧
 True))) ∧
 (∃ n10 : Int,
 (∃ n11 : Int,
 (((Says C 14 [(D.agg [D.nil, (D.val (vI x1))]), (D.val (vI x2)), D.nil] [(D.agg [(D.val (vI n10)), (D.val (vI n11))]), (D.val (Value.bool true))]) ∧
 (((Qv (Value.bool true)) ∧
 ((Qv (Value.agg [(vI n10), (vI n11)].toArray)) ∧
 ((Qv (Value.tuple [(Value.agg [(vI n10), (vI n11)].toArray), (Value.bool true)].toArray)) ∧
 (((Qv (Pt 1006 0)) ∧
 (Qv (some (AObj.cells [(vI 0), (vI 0)] 31 false 2)))) ∧
 True)))) ∧
 (((Qv (Value.bool true)) ∧
 True) ∧
 (True ∧
 (bcase (n5 == 0)
 (bcase (if Bool.false = Bool.true then !(n3 == n10 && (n4 == n11 && Bool.true)) else n3 == n10 && (n4 == n11 && Bool.true))
 (bcase (n7 == 0)
 (((Says C 17 [(D.agg [D.nil, (D.val (vI x1))]), (D.val (vI x2)), (D.val (vI n10))] [D.nil]) ∧
 (bcase (decide (0 + n6 * 1 ≤ List.length cs1))
 (((Says C 16 [(D.sl (n6) 1 (List.take (n6 * 1) (List.drop 0 cs1))), D.nil] [(D.val (Value.bool true))]) ∧
 (k [(D.val (Value.bool true))])) ∨
 ((Says C 16 [(D.sl (n6) 1 (List.take (n6 * 1) (List.drop 0 cs1))), D.nil] [(D.val (Value.bool false))]) ∧
 (k [(D.val (Value.bool false))])))
 False)) ∨
 (∃ n12 : Nat,
 (∃ cs2 : List Go.Value,
 ((Says C 17 [(D.agg [D.nil, (D.val (vI x1))]), (D.val (vI x2)), (D.val (vI n10))] [(D.sl (n12) 1 (cs2))]) ∧
 (bcase (decide (0 + n6 * 1 ≤ List.length cs1))
 (bcase (decide (0 + n12 * 1 ≤ List.length cs2))
 (((Says C 16 [(D.sl (n6) 1 (List.take (n6 * 1) (List.drop 0 cs1))), (D.sl (n12) 1 (List.take (n12 * 1) (List.drop 0 cs2)))] [(D.val (Value.bool true))]) ∧
 (k [(D.val (Value.bool true))])) ∨
 ((Says C 16 [(D.sl (n6) 1 (List.take (n6 * 1) (List.drop 0 cs1))), (D.sl (n12) 1 (List.take (n12 * 1) (List.drop 0 cs2)))] [(D.val (Value.bool false))]) ∧
 (k [(D.val (Value.bool false))])))
 False)
 False)))))
 (k [(D.val (Value.bool false))]))
 (k [(D.val (Value.bool false))]))
 (k [(D.val (Value.bool false))])))))) ∨
 ((Says C 14 [(D.agg [D.nil, (D.val (vI x1))]), (D.val (vI x2)), D.nil] [(D.agg [(D.val (vI n10)), (D.val (vI n11))]), (D.val (Value.bool false))]) ∧
 (((Qv (Value.bool false)) ∧
 ((Qv (Value.agg [(vI n10), (vI n11)].toArray)) ∧
 ((Qv (Value.tuple [(Value.agg [(vI n10), (vI n11)].toArray), (Value.bool false)].toArray)) ∧
 (((Qv (Pt 1006 0)) ∧
 (Qv (some (AObj.cells [(vI 0), (vI 0)] 31 false 2)))) ∧
 True)))) ∧
 (((Qv (Value.bool false)) ∧
 True) ∧
 (True ∧
 (bcase (n5 == 0)
 (bcase (if Bool.false = Bool.true then !(n3 == n10 && (n4 == n11 && Bool.true)) else n3 == n10 && (n4 == n11 && Bool.true))
 (bcase (n7 == 0)
 (((Says C 17 [(D.agg [D.nil, (D.val (vI x1))]), (D.val (vI x2)), (D.val (vI n10))] [D.nil]) ∧
 (bcase (decide (0 + n6 * 1 ≤ List.length cs1))
 (((Says C 16 [(D.sl (n6) 1 (List.take (n6 * 1) (List.drop 0 cs1))), D.nil] [(D.val (Value.bool true))]) ∧
 (k [(D.val (Value.bool true))])) ∨
 ((Says C 16 [(D.sl (n6) 1 (List.take (n6 * 1) (List.drop 0 cs1))), D.nil] [(D.val (Value.bool false))]) ∧
 (k [(D.val (Value.bool false))])))
 False)) ∨
 (∃ n12 : Nat,
 (∃ cs2 : List Go.Value,
 ((Says C 17 [(D.agg [D.nil, (D.val (vI x1))]), (D.val (vI x2)), (D.val (vI n10))] [(D.sl (n12) 1 (cs2))]) ∧
 (bcase (decide (0 + n6 * 1 ≤ List.length cs1))
 (bcase (decide (0 + n12 * 1 ≤ List.length cs2))
 (((Says C 16 [(D.sl (n6) 1 (List.take (n6 * 1) (List.drop 0 cs1))), (D.sl (n12) 1 (List.take (n12 * 1) (List.drop 0 cs2)))] [(D.val (Value.bool true))]) ∧
 (k [(D.val (Value.bool true))])) ∨
 ((Says C 16 [(D.sl (n6) 1 (List.take (n6 * 1) (List.drop 0 cs1))), (D.sl (n12) 1 (List.take (n12 * 1) (List.drop 0 cs2)))] [(D.val (Value.bool false))]) ∧
 (k [(D.val (Value.bool false))])))
 False)
 False)))))
 (k [(D.val (Value.bool false))]))
 (k [(D.val (Value.bool false))]))
 (k [(D.val (Value.bool false))]))))))))))) ∨
 (∃ n10 : Nat,
 (∃ cs2 : List Go.Value,
 ((Says C 15 [(D.agg [D.nil, (D.val (vI x1))])] [(D.sl (n10) 1 (cs2))]) ∧
 ((((Qv (Pt 1006 0)) ∧
 (Qv (some (AObj.cells [(vI 0), (vI 0)] 31 false 2)))) ∧
 ((Qv (vI x2)) ∧
 ((Qv (Value.agg [(Value.slice none 0 0), (vI x1)].toArray)) ∧
 True))) ∧
 (bcase (decide (0 + n10 * 1 ≤ List.length cs2))
 (∃ n11 : Int,
 (∃ n12 : Int,
 (((Says C 14 [(D.agg [D.nil, (D.val (vI x1))]), (D.val (vI x2)), (D.sl (n10) 1 (List.take (n10 * 1) (List.drop 0 cs2)))] [(D.agg [(D.val (vI n11)), (D.val (vI n12))]), (D.val (Value.bool true))]) ∧
 (((Qv (Value.bool true)) ∧
 ((Qv (Value.agg [(vI n11), (vI n12)].toArray)) ∧
 ((Qv (Value.tuple [(Value.agg [(vI n11), (vI n12)].toArray), (Value.bool true)].toArray)) ∧
 (((Qv (Pt 1006 0)) ∧
 (Qv (some (AObj.cells [(vI 0), (vI 0)] 31 false 2)))) ∧
 True)))) ∧
 (((Qv (Value.bool true)) ∧
 True) ∧
 (True ∧
 (bcase (n5 == 0)
 (bcase (if Bool.false = Bool.true then !(n3 == n11 && (n4 == n12 && Bool.true)) else n3 == n11 && (n4 == n12 && Bool.true))
 (bcase (n7 == 0)
 (((Says C 17 [(D.agg [D.nil, (D.val (vI x1))]), (D.val (vI x2)), (D.val (vI n11))] [D.nil]) ∧
 (bcase (decide (0 + n6 * 1 ≤ List.length cs1))
 (((Says C 16 [(D.sl (n6) 1 (List.take (n6 * 1) (List.drop 0 cs1))), D.nil] [(D.val (Value.bool true))]) ∧
 (k [(D.val (Value.bool true))])) ∨
 ((Says C 16 [(D.sl (n6) 1 (List.take (n6 * 1) (List.drop 0 cs1))), D.nil] [(D.val (Value.bool false))]) ∧
 (k [(D.val (Value.bool false))])))
 False)) ∨
 (∃ n13 : Nat,
 (∃ cs3 : List Go.Value,
 ((Says C 17 [(D.agg [D.nil, (D.val (vI x1))]), (D.val (vI x2)), (D.val (vI n11))] [(D.sl (n13) 1 (cs3))]) ∧
 (bcase (decide (0 + n6 * 1 ≤ List.length cs1))
 (bcase (decide (0 + n13 * 1 ≤ List.length cs3))
 (((Says C 16 [(D.sl (n6) 1 (List.take (n6 * 1) (List.drop 0 cs1))), (D.sl (n13) 1 (List.take (n13 * 1) (List.drop 0 cs3)))] [(D.val (Value.bool true))]) ∧
 (k [(D.val (Value.bool true))])) ∨
 ((Says C 16 [(D.sl (n6) 1 (List.take (n6 * 1) (List.drop 0 cs1))), (D.sl (n13) 1 (List.take (n13 * 1) (List.drop 0 cs3)))] [(D.val (Value.bool false))]) ∧
 (k [(D.val (Value.bool false))])))
 False)
 False)))))
 (k [(D.val (Value.bool false))]))
 (k [(D.val (Value.bool false))]))
 (k [(D.val (Value.bool false))])))))) ∨
 ((Says C 14 [(D.agg [D.nil, (D.val (vI x1))]), (D.val (vI x2)), (D.sl (n10) 1 (List.take (n10 * 1) (List.drop 0 cs2)))] [(D.agg [(D.val (vI n11)), (D.val (vI n12))]), (D.val (Value.bool false))]) ∧
 (((Qv (Value.bool false)) ∧
 ((Qv (Value.agg [(vI n11), (vI n12)].toArray)) ∧
 ((Qv (Value.tuple [(Value.agg [(vI n11), (vI n12)].toArray), (Value.bool false)].toArray)) ∧
 (((Qv (Pt 1006 0)) ∧
 (Qv (some (AObj.cells [(vI 0), (vI 0)] 31 false 2)))) ∧
 True)))) ∧
 (((Qv (Value.bool false)) ∧
 True) ∧
 (True ∧
 (bcase (n5 == 0)
 (bcase (if Bool.false = Bool.true then !(n3 == n11 && (n4 == n12 && Bool.true)) else n3 == n11 && (n4 == n12 && Bool.true))
 (bcase (n7 == 0)
 (((Says C 17 [(D.agg [D.nil, (D.val (vI x1))]), (D.val (vI x2)), (D.val (vI n11))] [D.nil]) ∧
 (bcase (decide (0 + n6 * 1 ≤ List.length cs1))
 (((Says C 16 [(D.sl (n6) 1 (List.take (n6 * 1) (List.drop 0 cs1))), D.nil] [(D.val (Value.bool true))]) ∧
 (k [(D.val (Value.bool true))])) ∨
 ((Says C 16 [(D.sl (n6) 1 (List.take (n6 * 1) (List.drop 0 cs1))), D.nil] [(D.val (Value.bool false))]) ∧
 (k [(D.val (Value.bool false))])))
 False)) ∨
 (∃ n13 : Nat,
 (∃ cs3 : List Go.Value,
 ((Says C 17 [(D.agg [D.nil, (D.val (vI x1))]), (D.val (vI x2)), (D.val (vI n11))] [(D.sl (n13) 1 (cs3))]) ∧
 (bcase (decide (0 + n6 * 1 ≤ List.length cs1))
 (bcase (decide (0 + n13 * 1 ≤ List.length cs3))
 (((Says C 16 [(D.sl (n6) 1 (List.take (n6 * 1) (List.drop 0 cs1))), (D.sl (n13) 1 (List.take (n13 * 1) (List.drop 0 cs3)))] [(D.val (Value.bool true))]) ∧
 (k [(D.val (Value.bool true))])) ∨
 ((Says C 16 [(D.sl (n6) 1 (List.take (n6 * 1) (List.drop 0 cs1))), (D.sl (n13) 1 (List.take (n13 * 1) (List.drop 0 cs3)))] [(D.val (Value.bool false))]) ∧
 (k [(D.val (Value.bool false))])))
 False)
 False)))))
 (k [(D.val (Value.bool false))]))
 (k [(D.val (Value.bool false))]))
 (k [(D.val (Value.bool false))])))))))))
 False))))))))
 (bcase (n9 != 0)
 (bcase (n5 == n9)
 (bcase (n7 == n9)
 (bcase (if Bool.false = Bool.true then !(n3 == 0 && (n4 == 0 && Bool.true)) else n3 == 0 && (n4 == 0 && Bool.true))
 (bcase ((↑n6 : Int) == 0)
 (k [(D.val (Value.bool true))])
 (k [(D.val (Value.bool false))]))
 (k [(D.val (Value.bool false))]))
 (k [(D.val (Value.bool false))]))
 (k [(D.val (Value.bool false))]))
 ((((Qv (Pt 1006 0)) ∧
 (Qv (some (AObj.cells [(vI 0), (vI 0)] 31 false 2)))) ∧
 ((Qv (Value.agg [(Value.slice none 0 0), (vI x1)].toArray)) ∧
 ((Qv (vI x2)) ∧
 ((Qv (Value.agg [(Value.slice none 0 0), (vI x1)].toArray)) ∧
 True)))) ∧
 (((Says C 15 [(D.agg [D.nil, (D.val (vI x1))])] [D.nil]) ∧
 ((((Qv (Pt 1006 0)) ∧
 (Qv (some (AObj.cells [(vI 0), (vI 0)] 31 false 2)))) ∧
 ((Qv (vI x2)) ∧
 ((Qv (Value.agg [(Value.slice none 0 0), (vI x1)].toArray)) ∧
 True))) ∧
 (∃ n10 : Int,
 (∃ n11 : Int,
 (((Says C 14 [(D.agg [D.nil, (D.val (vI x1))]), (D.val (vI x2)), D.nil] [(D.agg [(D.val (vI n10)), (D.val (vI n11))]), (D.val (Value.bool true))]) ∧
 (((Qv (Value.bool true)) ∧
 ((Qv (Value.agg [(vI n10), (vI n11)].toArray)) ∧
 ((Qv (Value.tuple [(Value.agg [(vI n10), (vI n11)].toArray), (Value.bool true)].toArray)) ∧
 (((Qv (Pt 1006 0)) ∧
 (Qv (some (AObj.cells [(vI 0), (vI 0)] 31 false 2)))) ∧
 True)))) ∧
 (((Qv (Value.bool true)) ∧
 True) ∧
 (True ∧
 (bcase (n5 == 0)
 (bcase (if Bool.false = Bool.true then !(n3 == n10 && (n4 == n11 && Bool.true)) else n3 == n10 && (n4 == n11 && Bool.true))
 (bcase (n7 == 0)
 (((Says C 17 [(D.agg [D.nil, (D.val (vI x1))]), (D.val (vI x2)), (D.val (vI n10))] [D.nil]) ∧
 (bcase (decide (0 + n6 * 1 ≤ List.length cs1))
 (((Says C 16 [(D.sl (n6) 1 (List.take (n6 * 1) (List.drop 0 cs1))), D.nil] [(D.val (Value.bool true))]) ∧
 (k [(D.val (Value.bool true))])) ∨
 ((Says C 16 [(D.sl (n6) 1 (List.take (n6 * 1) (List.drop 0 cs1))), D.nil] [(D.val (Value.bool false))]) ∧
 (k [(D.val (Value.bool false))])))
 False)) ∨
 (∃ n12 : Nat,
 (∃ cs2 : List Go.Value,
 ((Says C 17 [(D.agg [D.nil, (D.val (vI x1))]), (D.val (vI x2)), (D.val (vI n10))] [(D.sl (n12) 1 (cs2))]) ∧
 (bcase (decide (0 + n6 * 1 ≤ List.length cs1))
 (bcase (decide (0 + n12 * 1 ≤ List.length cs2))
 (((Says C 16 [(D.sl (n6) 1 (List.take (n6 * 1) (List.drop 0 cs1))), (D.sl (n12) 1 (List.take (n12 * 1) (List.drop 0 cs2)))] [(D.val (Value.bool true))]) ∧
 (k [(D.val (Value.bool true))])) ∨
 ((Says C 16 [(D.sl (n6) 1 (List.take (n6 * 1) (List.drop 0 cs1))), (D.sl (n12) 1 (List.take (n12 * 1) (List.drop 0 cs2)))] [(D.val (Value.bool false))]) ∧
 (k [(D.val (Value.bool false))])))
 False)
 False)))))
 (k [(D.val (Value.bool false))]))
 (k [(D.val (Value.bool false))]))
 (k [(D.val (Value.bool false))])))))) ∨
 ((Says C 14 [(D.agg [D.nil, (D.val (vI x1))]), (D.val (vI x2)), D.nil] [(D.agg [(D.val (vI n10)), (D.val (vI n11))]), (D.val (Value.bool false))]) ∧
 (((Qv (Value.bool false)) ∧
 ((Qv (Value.agg [(vI n10), (vI n11)].toArray)) ∧
 ((Qv (Value.tuple [(Value.agg [(vI n10), (vI n11)].toArray), (Value.bool false)].toArray)) ∧
 (((Qv (Pt 1006 0)) ∧
 (Qv (some (AObj.cells [(vI 0), (vI 0)] 31 false 2)))) ∧
 True)))) ∧
 (((Qv (Value.bool false)) ∧
 True) ∧
 (True ∧
 (bcase (n5 == 0)
 (bcase (if Bool.false = Bool.true then !(n3 == n10 && (n4 == n11 && Bool.true)) else n3 == n10 && (n4 == n11 && Bool.true))
 (bcase (n7 == 0)
 (((Says C 17 [(D.agg [D.nil, (D.val (vI x1))]), (D.val (vI x2)), (D.val (vI n10))] [D.nil]) ∧
 (bcase (decide (0 + n6 * 1 ≤ List.length cs1))
 (((Says C 16 [(D.sl (n6) 1 (List.take (n6 * 1) (List.drop 0 cs1))), D.nil] [(D.val (Value.bool true))]) ∧
 (k [(D.val (Value.bool true))])) ∨
 ((Says C 16 [(D.sl (n6) 1 (List.take (n6 * 1) (List.drop 0 cs1))), D.nil] [(D.val (Value.bool false))]) ∧
 (k [(D.val (Value.bool false))])))
 False)) ∨
 (∃ n12 : Nat,
 (∃ cs2 : List Go.Value,
 ((Says C 17 [(D.agg [D.nil, (D.val (vI x1))]), (D.val (vI x2)), (D.val (vI n10))] [(D.sl (n12) 1 (cs2))]) ∧
 (bcase (decide (0 + n6 * 1 ≤ List.length cs1))
 (bcase (decide (0 + n12 * 1 ≤ List.length cs2))
 (((Says C 16 [(D.sl (n6) 1 (List.take (n6 * 1) (List.drop 0 cs1))), (D.sl (n12) 1 (List.take (n12 * 1) (List.drop 0 cs2)))] [(D.val (Value.bool true))]) ∧
 (k [(D.val (Value.bool true))])) ∨
 ((Says C 16 [(D.sl (n6) 1 (List.take (n6 * 1) (List.drop 0 cs1))), (D.sl (n12) 1 (List.take (n12 * 1) (List.drop 0 cs2)))] [(D.val (Value.bool false))]) ∧
 (k [(D.val (Value.bool false))])))
 False)
 False)))))
 (k [(D.val (Value.bool false))]))
 (k [(D.val (Value.bool false))]))
 (k [(D.val (Value.bool false))]))))))))))) ∨
 (∃ n10 : Nat,
 (∃ cs2 : List Go.Value,
 ((Says C 15 [(D.agg [D.nil, (D.val (vI x1))])] [(D.sl (n10) 1 (cs2))]) ∧
 ((((Qv (Pt 1006 0)) ∧
 (Qv (some (AObj.cells [(vI 0), (vI 0)] 31 false 2)))) ∧
 ((Qv (vI x2)) ∧
 ((Qv (Value.agg [(Value.slice none 0 0), (vI x1)].toArray)) ∧
 True))) ∧
 (bcase (decide (0 + n10 * 1 ≤ List.length cs2))
 (∃ n11 : Int,
 (∃ n12 : Int,
 (((Says C 14 [(D.agg [D.nil, (D.val (vI x1))]), (D.val (vI x2)), (D.sl (n10) 1 (List.take (n10 * 1) (List.drop 0 cs2)))] [(D.agg [(D.val (vI n11)), (D.val (vI n12))]), (D.val (Value.bool true))]) ∧
 (((Qv (Value.bool true)) ∧
 ((Qv (Value.agg [(vI n11), (vI n12)].toArray)) ∧
 ((Qv (Value.tuple [(Value.agg [(vI n11), (vI n12)].toArray), (Value.bool true)].toArray)) ∧
 (((Qv (Pt 1006 0)) ∧
 (Qv (some (AObj.cells [(vI 0), (vI 0)] 31 false 2)))) ∧
 True)))) ∧
 (((Qv (Value.bool true)) ∧
 True) ∧
 (True ∧
 (bcase (n5 == 0)
 (bcase (if Bool.false = Bool.true then !(n3 == n11 && (n4 == n12 && Bool.true)) else n3 == n11 && (n4 == n12 && Bool.true))
 (bcase (n7 == 0)
 (((Says C 17 [(D.agg [D.nil, (D.val (vI x1))]), (D.val (vI x2)), (D.val (vI n11))] [D.nil]) ∧
 (bcase (decide (0 + n6 * 1 ≤ List.length cs1))
 (((Says C 16 [(D.sl (n6) 1 (List.take (n6 * 1) (List.drop 0 cs1))), D.nil] [(D.val (Value.bool true))]) ∧
 (k [(D.val (Value.bool true))])) ∨
 ((Says C 16 [(D.sl (n6) 1 (List.take (n6 * 1) (List.drop 0 cs1))), D.nil] [(D.val (Value.bool false))]) ∧
 (k [(D.val (Value.bool false))])))
 False)) ∨
 (∃ n13 : Nat,
 (∃ cs3 : List Go.Value,
 ((Says C 17 [(D.agg [D.nil, (D.val (vI x1))]), (D.val (vI x2)), (D.val (vI n11))] [(D.sl (n13) 1 (cs3))]) ∧
 (bcase (decide (0 + n6 * 1 ≤ List.length cs1))
 (bcase (decide (0 + n13 * 1 ≤ List.length cs3))
 (((Says C 16 [(D.sl (n6) 1 (List.take (n6 * 1) (List.drop 0 cs1))), (D.sl (n13) 1 (List.take (n13 * 1) (List.drop 0 cs3)))] [(D.val (Value.bool true))]) ∧
 (k [(D.val (Value.bool true))])) ∨
 ((Says C 16 [(D.sl (n6) 1 (List.take (n6 * 1) (List.drop 0 cs1))), (D.sl (n13) 1 (List.take (n13 * 1) (List.drop 0 cs3)))] [(D.val (Value.bool false))]) ∧
 (k [(D.val (Value.bool false))])))
 False)
 False)))))
 (k [(D.val (Value.bool false))]))
 (k [(D.val (Value.bool false))]))
 (k [(D.val (Value.bool false))])))))) ∨
 ((Says C 14 [(D.agg [D.nil, (D.val (vI x1))]), (D.val (vI x2)), (D.sl (n10) 1 (List.take (n10 * 1) (List.drop 0 cs2)))] [(D.agg [(D.val (vI n11)), (D.val (vI n12))]), (D.val (Value.bool false))]) ∧
 (((Qv (Value.bool false)) ∧
 ((Qv (Value.agg [(vI n11), (vI n12)].toArray)) ∧
 ((Qv (Value.tuple [(Value.agg [(vI n11), (vI n12)].toArray), (Value.bool false)].toArray)) ∧
 (((Qv (Pt 1006 0)) ∧
 (Qv (some (AObj.cells [(vI 0), (vI 0)] 31 false 2)))) ∧
 True)))) ∧
 (((Qv (Value.bool false)) ∧
 True) ∧
 (True ∧
 (bcase (n5 == 0)
 (bcase (if Bool.false = Bool.true then !(n3 == n11 && (n4 == n12 && Bool.true)) else n3 == n11 && (n4 == n12 && Bool.true))
 (bcase (n7 == 0)
 (((Says C 17 [(D.agg [D.nil, (D.val (vI x1))]), (D.val (vI x2)), (D.val (vI n11))] [D.nil]) ∧
 (bcase (decide (0 + n6 * 1 ≤ List.length cs1))
 (((Says C 16 [(D.sl (n6) 1 (List.take (n6 * 1) (List.drop 0 cs1))), D.nil] [(D.val (Value.bool true))]) ∧
 (k [(D.val (Value.bool true))])) ∨
 ((Says C 16 [(D.sl (n6) 1 (List.take (n6 * 1) (List.drop 0 cs1))), D.nil] [(D.val (Value.bool false))]) ∧
 (k [(D.val (Value.bool false))])))
 False)) ∨
 (∃ n13 : Nat,
 (∃ cs3 : List Go.Value,
 ((Says C 17 [(D.agg [D.nil, (D.val (vI x1))]), (D.val (vI x2)), (D.val (vI n11))] [(D.sl (n13) 1 (cs3))]) ∧
 (bcase (decide (0 + n6 * 1 ≤ List.length cs1))
 (bcase (decide (0 + n13 * 1 ≤ List.length cs3))
 (((Says C 16 [(D.sl (n6) 1 (List.take (n6 * 1) (List.drop 0 cs1))), (D.sl (n13) 1 (List.take (n13 * 1) (List.drop 0 cs3)))] [(D.val (Value.bool true))]) ∧
 (k [(D.val (Value.bool true))])) ∨
 ((Says C 16 [(D.sl (n6) 1 (List.take (n6 * 1) (List.drop 0 cs1))), (D.sl (n13) 1 (List.take (n13 * 1) (List.drop 0 cs3)))] [(D.val (Value.bool false))]) ∧
 (k [(D.val (Value.bool false))])))
 False)
 False)))))
 (k [(D.val (Value.bool false))]))
 (k [(D.val (Value.bool false))]))
 (k [(D.val (Value.bool false))])))))))))
 False))))))))))))))))))))))))))))))) ∨
 ((Says C 7 [] [(D.val (Value.bool false))]) ∧
 (k [(D.val (Value.bool false))]))) := by kernel_rfl
end Go.Proofs.G5r
