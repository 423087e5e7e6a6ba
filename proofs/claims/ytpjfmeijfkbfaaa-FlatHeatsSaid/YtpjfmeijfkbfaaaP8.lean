/- Texts of the proof, put together: Gf7T3, Gf7L, Gf7KH, Gf7P, Gf7KP, Gf7T4, Gf7M, Gf7KM. -/
import Derived.Test.YtpjfmeijfkbfaaaP5
import Derived.Test.YtpjfmeijfkbfaaaP6
import Derived.Test.YtpjfmeijfkbfaaaGf7A
/- What is left to show of each function, written out; the kernel reckons it. -/
namespace Go.Proofs.G5f
open Go Go.Abs Go.Proofs
set_option maxRecDepth 100000
set_option linter.unusedVariables false
def gSh (C : Ct) (L : AtLoop) (n0 : Nat) (c0 : Nat) (l0 : List Value) (k : List D → Prop) : Prop := wpFn Try.prog (hF7 C) L 0 13 #[.slice (some ⟨500, 0, none⟩) n0 c0] (heapOf [(500, .sym l0 false 1)]) (dataK k)
theorem gSh_text (C : Ct) (L : AtLoop) (n0 : Nat) (c0 : Nat) (l0 : List Go.Value) (k : List D → Prop) : gSh C L n0 c0 l0 k =
 (bcase (decide ((↑n0 : Int) ≤ 12))
 (k [(D.val (Value.bool true))])
 (k [(D.val (Value.bool false))])) := by kernel_rfl
def gShn (C : Ct) (L : AtLoop) (k : List D → Prop) : Prop := wpFn Try.prog (hF7 C) L 0 13 #[.slice none 0 0] (heapOf []) (dataK k)
theorem gShn_text (C : Ct) (L : AtLoop) (k : List D → Prop) : gShn C L k =
 (k [(D.val (Value.bool true))]) := by kernel_rfl
def gLh (C : Ct) (L : AtLoop) (n0 : Nat) (c0 : Nat) (l0 : List Value) (x1 : Int) (x2 : Int) (x3 : Int) (x4 : Int) (k : List D → Prop) : Prop := wpFn Try.prog (hF7 C) L 0 10 #[.slice (some ⟨500, 0, none⟩) n0 c0, .agg #[.int .i64 x1, .int .i64 x2, .int .i64 x3], .int .i64 x4] (heapOf [(500, .sym l0 false 1)]) (dataK k)
theorem gLh_text (C : Ct) (L : AtLoop) (n0 : Nat) (c0 : Nat) (l0 : List Go.Value) (x1 : Int) (x2 : Int) (x3 : Int) (x4 : Int) (k : List D → Prop) : gLh C L n0 c0 l0 x1 x2 x3 x4 k =
 (((Says C 12 [] [(D.val (Value.bool true))]) ∧
 (bcase (decide (0 + n0 * 1 ≤ List.length l0))
 (((Says C 13 [(D.sl (n0) 1 (List.take (n0 * 1) (List.drop 0 l0)))] [(D.val (Value.bool true))]) ∧
 ((((vI x4) = (vI x4)) ∧
 (((Go.Value.agg [(vI x1), (vI x2), (vI x3)].toArray) = (Go.Value.agg [(vI x1), (vI x2), (vI x3)].toArray)) ∧
 (((Go.Value.slice (Option.some (Go.Addr.mk 500 0 Option.none)) (n0) (c0)) = (Go.Value.slice (Option.some (Go.Addr.mk 500 0 Option.none)) (n0) (c0))) ∧
 True))) ∧
 (bcase (decide (0 + n0 * 1 ≤ List.length l0))
 ((Says C 15 [(D.sl (n0) 1 (List.take (n0 * 1) (List.drop 0 l0)))] [(D.sl (n0) 1 (List.take (n0 * 1) (List.drop 0 l0)))]) ∧
 ((((vI x4) = (vI x4)) ∧
 (((Go.Value.agg [(vI x1), (vI x2), (vI x3)].toArray) = (Go.Value.agg [(vI x1), (vI x2), (vI x3)].toArray)) ∧
 True)) ∧
 (bcase (decide (0 + n0 * 1 ≤ List.length (List.take (n0 * 1) (List.drop 0 l0))))
 ((∃ n1 : Int,
 ((Says C 59 [(D.sl (n0) 1 (List.take (n0 * 1) (List.drop 0 (List.take (n0 * 1) (List.drop 0 l0))))), (D.agg [(D.val (vI x1)), (D.val (vI x2)), (D.val (vI x3))]), (D.val (vI x4))] [D.nil, (D.val (vI n1))]) ∧
 ((((vI n1) = (vI n1)) ∧
 (((Go.Value.slice Option.none 0 0) = (Go.Value.slice Option.none 0 0)) ∧
 (((Go.Value.tuple [(Go.Value.slice Option.none 0 0), (vI n1)].toArray) = (Go.Value.tuple [(Go.Value.slice Option.none 0 0), (vI n1)].toArray)) ∧
 True))) ∧
 ((((vI n1) = (vI n1)) ∧
 True) ∧
 (True ∧
 (bcase (decide (0 + n0 * 1 ≤ List.length l0))
 (∃ n2 : Int,
 ((Says C 60 [(D.sl (n0) 1 (List.take (n0 * 1) (List.drop 0 l0))), (D.agg [(D.val (vI x1)), (D.val (vI x2)), (D.val (vI x3))]), (D.val (vI x4))] [(D.val (vI n2))]) ∧
 (bcase (n2 != 0)
 (bcase (n1 == n2)
 (k [(D.val (Value.bool true))])
 (k [(D.val (Value.bool false))]))
 (bcase (n1 == 0)
 (bcase (decide (0 + n0 * 1 ≤ List.length l0))
 (((Says C 61 [(D.sl (n0) 1 (List.take (n0 * 1) (List.drop 0 l0))), (D.agg [(D.val (vI x1)), (D.val (vI x2)), (D.val (vI x3))]), (D.val (vI x4))] [D.nil]) ∧
 (((Says C 36 [D.nil, D.nil] [(D.val (Value.bool true))]) ∧
 (k [(D.val (Value.bool true))])) ∨
 ((Says C 36 [D.nil, D.nil] [(D.val (Value.bool false))]) ∧
 (k [(D.val (Value.bool false))])))) ∨
 (∃ n3 : Nat,
 (∃ cs1 : List Go.Value,
 ((Says C 61 [(D.sl (n0) 1 (List.take (n0 * 1) (List.drop 0 l0))), (D.agg [(D.val (vI x1)), (D.val (vI x2)), (D.val (vI x3))]), (D.val (vI x4))] [(D.sl (n3) 1 (cs1))]) ∧
 (bcase (decide (0 + n3 * 1 ≤ List.length cs1))
 (((Says C 36 [D.nil, (D.sl (n3) 1 (List.take (n3 * 1) (List.drop 0 cs1)))] [(D.val (Value.bool true))]) ∧
 (k [(D.val (Value.bool true))])) ∨
 ((Says C 36 [D.nil, (D.sl (n3) 1 (List.take (n3 * 1) (List.drop 0 cs1)))] [(D.val (Value.bool false))]) ∧
 (k [(D.val (Value.bool false))])))
 False)))))
 False)
 (k [(D.val (Value.bool false))])))))
 False)))))) ∨
 (∃ n1 : Nat,
 (∃ cs1 : List Go.Value,
 (∃ n2 : Int,
 ((Says C 59 [(D.sl (n0) 1 (List.take (n0 * 1) (List.drop 0 (List.take (n0 * 1) (List.drop 0 l0))))), (D.agg [(D.val (vI x1)), (D.val (vI x2)), (D.val (vI x3))]), (D.val (vI x4))] [(D.sl (n1) 1 (cs1)), (D.val (vI n2))]) ∧
 ((((vI n2) = (vI n2)) ∧
 (((Go.Value.slice (Option.some (Go.Addr.mk 1002 0 Option.none)) (n1) (n1)) = (Go.Value.slice (Option.some (Go.Addr.mk 1002 0 Option.none)) (n1) (n1))) ∧
 (((Go.Value.tuple [(Go.Value.slice (Option.some (Go.Addr.mk 1002 0 Option.none)) (n1) (n1)), (vI n2)].toArray) = (Go.Value.tuple [(Go.Value.slice (Option.some (Go.Addr.mk 1002 0 Option.none)) (n1) (n1)), (vI n2)].toArray)) ∧
 True))) ∧
 ((((vI n2) = (vI n2)) ∧
 True) ∧
 (True ∧
 (bcase (decide (0 + n0 * 1 ≤ List.length l0))
 (∃ n3 : Int,
 ((Says C 60 [(D.sl (n0) 1 (List.take (n0 * 1) (List.drop 0 l0))), (D.agg [(D.val (vI x1)), (D.val (vI x2)), (D.val (vI x3))]), (D.val (vI x4))] [(D.val (vI n3))]) ∧
 (bcase (n3 != 0)
 (bcase (n2 == n3)
 (bcase ((↑n1 : Int) == 0)
 (k [(D.val (Value.bool true))])
 (k [(D.val (Value.bool false))]))
 (k [(D.val (Value.bool false))]))
 (bcase (n2 == 0)
 (bcase (decide (0 + n0 * 1 ≤ List.length l0))
 (((Says C 61 [(D.sl (n0) 1 (List.take (n0 * 1) (List.drop 0 l0))), (D.agg [(D.val (vI x1)), (D.val (vI x2)), (D.val (vI x3))]), (D.val (vI x4))] [D.nil]) ∧
 (bcase (decide (0 + n1 * 1 ≤ List.length cs1))
 (((Says C 36 [(D.sl (n1) 1 (List.take (n1 * 1) (List.drop 0 cs1))), D.nil] [(D.val (Value.bool true))]) ∧
 (k [(D.val (Value.bool true))])) ∨
 ((Says C 36 [(D.sl (n1) 1 (List.take (n1 * 1) (List.drop 0 cs1))), D.nil] [(D.val (Value.bool false))]) ∧
 (k [(D.val (Value.bool false))])))
 False)) ∨
 (∃ n4 : Nat,
 (∃ cs2 : List Go.Value,
 ((Says C 61 [(D.sl (n0) 1 (List.take (n0 * 1) (List.drop 0 l0))), (D.agg [(D.val (vI x1)), (D.val (vI x2)), (D.val (vI x3))]), (D.val (vI x4))] [(D.sl (n4) 1 (cs2))]) ∧
 (bcase (decide (0 + n1 * 1 ≤ List.length cs1))
 (bcase (decide (0 + n4 * 1 ≤ List.length cs2))
 (((Says C 36 [(D.sl (n1) 1 (List.take (n1 * 1) (List.drop 0 cs1))), (D.sl (n4) 1 (List.take (n4 * 1) (List.drop 0 cs2)))] [(D.val (Value.bool true))]) ∧
 (k [(D.val (Value.bool true))])) ∨
 ((Says C 36 [(D.sl (n1) 1 (List.take (n1 * 1) (List.drop 0 cs1))), (D.sl (n4) 1 (List.take (n4 * 1) (List.drop 0 cs2)))] [(D.val (Value.bool false))]) ∧
 (k [(D.val (Value.bool false))])))
 False)
 False)))))
 False)
 (k [(D.val (Value.bool false))])))))
 False)))))))))
 False)))
 False))) ∨
 ((Says C 13 [(D.sl (n0) 1 (List.take (n0 * 1) (List.drop 0 l0)))] [(D.val (Value.bool false))]) ∧
 (k [(D.val (Value.bool true))])))
 False)) ∨
 ((Says C 12 [] [(D.val (Value.bool false))]) ∧
 (k [(D.val (Value.bool false))]))) := by kernel_rfl
def gLhn (C : Ct) (L : AtLoop) (x1 : Int) (x2 : Int) (x3 : Int) (x4 : Int) (k : List D → Prop) : Prop := wpFn Try.prog (hF7 C) L 0 10 #[.slice none 0 0, .agg #[.int .i64 x1, .int .i64 x2, .int .i64 x3], .int .i64 x4] (heapOf []) (dataK k)
theorem gLhn_text (C : Ct) (L : AtLoop) (x1 : Int) (x2 : Int) (x3 : Int) (x4 : Int) (k : List D → Prop) : gLhn C L x1 x2 x3 x4 k =
 (((Says C 12 [] [(D.val (Value.bool true))]) ∧
 (((Says C 13 [D.nil] [(D.val (Value.bool true))]) ∧
 ((((vI x4) = (vI x4)) ∧
 (((Go.Value.agg [(vI x1), (vI x2), (vI x3)].toArray) = (Go.Value.agg [(vI x1), (vI x2), (vI x3)].toArray)) ∧
 (((Go.Value.slice Option.none 0 0) = (Go.Value.slice Option.none 0 0)) ∧
 True))) ∧
 ((Says C 15 [D.nil] [(D.sl 0 1 [])]) ∧
 ((((vI x4) = (vI x4)) ∧
 (((Go.Value.agg [(vI x1), (vI x2), (vI x3)].toArray) = (Go.Value.agg [(vI x1), (vI x2), (vI x3)].toArray)) ∧
 True)) ∧
 ((∃ n1 : Int,
 ((Says C 59 [(D.sl 0 1 []), (D.agg [(D.val (vI x1)), (D.val (vI x2)), (D.val (vI x3))]), (D.val (vI x4))] [D.nil, (D.val (vI n1))]) ∧
 ((((vI n1) = (vI n1)) ∧
 (((Go.Value.slice Option.none 0 0) = (Go.Value.slice Option.none 0 0)) ∧
 (((Go.Value.tuple [(Go.Value.slice Option.none 0 0), (vI n1)].toArray) = (Go.Value.tuple [(Go.Value.slice Option.none 0 0), (vI n1)].toArray)) ∧
 True))) ∧
 ((((vI n1) = (vI n1)) ∧
 True) ∧
 (True ∧
 (∃ n2 : Int,
 ((Says C 60 [D.nil, (D.agg [(D.val (vI x1)), (D.val (vI x2)), (D.val (vI x3))]), (D.val (vI x4))] [(D.val (vI n2))]) ∧
 (bcase (n2 != 0)
 (bcase (n1 == n2)
 (k [(D.val (Value.bool true))])
 (k [(D.val (Value.bool false))]))
 (bcase (n1 == 0)
 (((Says C 61 [D.nil, (D.agg [(D.val (vI x1)), (D.val (vI x2)), (D.val (vI x3))]), (D.val (vI x4))] [D.nil]) ∧
 (((Says C 36 [D.nil, D.nil] [(D.val (Value.bool true))]) ∧
 (k [(D.val (Value.bool true))])) ∨
 ((Says C 36 [D.nil, D.nil] [(D.val (Value.bool false))]) ∧
 (k [(D.val (Value.bool false))])))) ∨
 (∃ n3 : Nat,
 (∃ cs1 : List Go.Value,
 ((Says C 61 [D.nil, (D.agg [(D.val (vI x1)), (D.val (vI x2)), (D.val (vI x3))]), (D.val (vI x4))] [(D.sl (n3) 1 (cs1))]) ∧
 (bcase (decide (0 + n3 * 1 ≤ List.length cs1))
 (((Says C 36 [D.nil, (D.sl (n3) 1 (List.take (n3 * 1) (List.drop 0 cs1)))] [(D.val (Value.bool true))]) ∧
 (k [(D.val (Value.bool true))])) ∨
 ((Says C 36 [D.nil, (D.sl (n3) 1 (List.take (n3 * 1) (List.drop 0 cs1)))] [(D.val (Value.bool false))]) ∧
 (k [(D.val (Value.bool false))])))
 False)))))
 (k [(D.val (Value.bool false))])))))))))) ∨
 (∃ n1 : Nat,
 (∃ cs1 : List Go.Value,
 (∃ n2 : Int,
 ((Says C 59 [(D.sl 0 1 []), (D.agg [(D.val (vI x1)), (D.val (vI x2)), (D.val (vI x3))]), (D.val (vI x4))] [(D.sl (n1) 1 (cs1)), (D.val (vI n2))]) ∧
 ((((vI n2) = (vI n2)) ∧
 (((Go.Value.slice (Option.some (Go.Addr.mk 1002 0 Option.none)) (n1) (n1)) = (Go.Value.slice (Option.some (Go.Addr.mk 1002 0 Option.none)) (n1) (n1))) ∧
 (((Go.Value.tuple [(Go.Value.slice (Option.some (Go.Addr.mk 1002 0 Option.none)) (n1) (n1)), (vI n2)].toArray) = (Go.Value.tuple [(Go.Value.slice (Option.some (Go.Addr.mk 1002 0 Option.none)) (n1) (n1)), (vI n2)].toArray)) ∧
 True))) ∧
 ((((vI n2) = (vI n2)) ∧
 True) ∧
 (True ∧
 (∃ n3 : Int,
 ((Says C 60 [D.nil, (D.agg [(D.val (vI x1)), (D.val (vI x2)), (D.val (vI x3))]), (D.val (vI x4))] [(D.val (vI n3))]) ∧
 (bcase (n3 != 0)
 (bcase (n2 == n3)
 (bcase ((↑n1 : Int) == 0)
 (k [(D.val (Value.bool true))])
 (k [(D.val (Value.bool false))]))
 (k [(D.val (Value.bool false))]))
 (bcase (n2 == 0)
 (((Says C 61 [D.nil, (D.agg [(D.val (vI x1)), (D.val (vI x2)), (D.val (vI x3))]), (D.val (vI x4))] [D.nil]) ∧
 (bcase (decide (0 + n1 * 1 ≤ List.length cs1))
 (((Says C 36 [(D.sl (n1) 1 (List.take (n1 * 1) (List.drop 0 cs1))), D.nil] [(D.val (Value.bool true))]) ∧
 (k [(D.val (Value.bool true))])) ∨
 ((Says C 36 [(D.sl (n1) 1 (List.take (n1 * 1) (List.drop 0 cs1))), D.nil] [(D.val (Value.bool false))]) ∧
 (k [(D.val (Value.bool false))])))
 False)) ∨
 (∃ n4 : Nat,
 (∃ cs2 : List Go.Value,
 ((Says C 61 [D.nil, (D.agg [(D.val (vI x1)), (D.val (vI x2)), (D.val (vI x3))]), (D.val (vI x4))] [(D.sl (n4) 1 (cs2))]) ∧
 (bcase (decide (0 + n1 * 1 ≤ List.length cs1))
 (bcase (decide (0 + n4 * 1 ≤ List.length cs2))
 (((Says C 36 [(D.sl (n1) 1 (List.take (n1 * 1) (List.drop 0 cs1))), (D.sl (n4) 1 (List.take (n4 * 1) (List.drop 0 cs2)))] [(D.val (Value.bool true))]) ∧
 (k [(D.val (Value.bool true))])) ∨
 ((Says C 36 [(D.sl (n1) 1 (List.take (n1 * 1) (List.drop 0 cs1))), (D.sl (n4) 1 (List.take (n4 * 1) (List.drop 0 cs2)))] [(D.val (Value.bool false))]) ∧
 (k [(D.val (Value.bool false))])))
 False)
 False)))))
 (k [(D.val (Value.bool false))]))))))))))))))))) ∨
 ((Says C 13 [D.nil] [(D.val (Value.bool false))]) ∧
 (k [(D.val (Value.bool true))])))) ∨
 ((Says C 12 [] [(D.val (Value.bool false))]) ∧
 (k [(D.val (Value.bool false))]))) := by kernel_rfl
def gCP (C : Ct) (L : AtLoop) (n0 : Nat) (c0 : Nat) (l0 : List Value) (k : List D → Prop) : Prop := wpFn Try.prog (hF7 C) L 0 18 #[.slice (some ⟨500, 0, none⟩) n0 c0] (heapOf [(500, .sym l0 false 1)]) (dataK k)
theorem gCP_text (C : Ct) (L : AtLoop) (n0 : Nat) (c0 : Nat) (l0 : List Go.Value) (k : List D → Prop) : gCP C L n0 c0 l0 k =
 (bcase (Int.tmod (↑n0 : Int) 2 == 0)
 (k [(D.val (vI (10 : Int)))])
 (∃ n1 : Int,
 ((Says C 68 [(D.val (vI ((↑n0 : Int)))), (D.val (vI (3 : Int))), (D.val (vI (9 : Int)))] [(D.val (vI n1))]) ∧
 (∃ l1 : List Int,
 (((l0) = (List.map (vI) l1)) ∧
 (((n0) = (List.length l1)) ∧
 (((List.length l1) < 1000000000) ∧
 (∃ r1 : Int,
 ((Says witC 0 [(D.val (vI (1 : Int))), (D.val (vI (100000 : Int))), (D.val (vI (2 : Int))), (D.sl (n0) 1 (l0))] [(D.val (vI r1))]) ∧
 (∃ n2 : Int,
 ((Says C 67 [(D.sl 2 1 [(vI n1), (vI r1)])] [(D.val (vI n2))]) ∧
 (k [(D.val (vI n2))])))))))))))) := by kernel_rfl
def gRP (C : Ct) (L : AtLoop) (n0 : Nat) (c0 : Nat) (l0 : List Value) (k : List D → Prop) : Prop := wpFn Try.prog (hF7 C) L 0 17 #[.slice (some ⟨500, 0, none⟩) n0 c0] (heapOf [(500, .sym l0 false 1)]) (dataK k)
theorem gRP_text (C : Ct) (L : AtLoop) (n0 : Nat) (c0 : Nat) (l0 : List Go.Value) (k : List D → Prop) : gRP C L n0 c0 l0 k =
 (bcase (decide ((↑n0 : Int) < 3))
 (k [(D.val (vI (10 : Int)))])
 (bcase (Int.tmod (↑n0 : Int) 2 == 0)
 (k [(D.val (vI (10 : Int)))])
 (bcase (decide ((↑n0 : Int) > 9))
 (k [(D.val (vI (8 : Int)))])
 (L 0 [(Prod.mk 0 (Go.Value.slice (Option.some (Go.Addr.mk 500 0 Option.none)) (n0) (c0))), (Prod.mk 3 (vI (0 : Int)))] [(Prod.mk 500 (AObj.sym (l0) false 1))])))) := by kernel_rfl
abbrev zRP1 (n0 : Nat) (c1 : Nat) (x2 : Int) (l3 : List Value) : Slots × Blocks := ([(0, (Value.slice (some ⟨500, 0, none⟩) n0 c1)), (3, (Value.int .i64 x2))], [(500, (AObj.sym l3 false 1))])
def rRP1 (C : Ct) (L : AtLoop) (n0 : Nat) (c1 : Nat) (x2 : Int) (l3 : List Value) (B : Bx) (X : Xx) (k : List D → Prop) : Prop := wpRound Try.prog (hF7 C) L 17 0 [(0, (Value.slice (some ⟨500, 0, none⟩) n0 c1)), (3, (Value.int .i64 x2))] [(500, (AObj.sym l3 false 1))] B X (dataK k)
theorem rRP1_text (C : Ct) (L : AtLoop) (n0 : Nat) (c1 : Nat) (x2 : Int) (l3 : List Go.Value) (B : Bx) (X : Xx) (k : List D → Prop) : rRP1 C L n0 c1 x2 l3 B X k =
 (bcase (decide (x2 < (↑n0 : Int)))
 (bcase (decide (0 ≤ x2))
 (bcase (decide (x2 < (↑n0 : Int)))
 (∃ n1 : Int,
 ((At (l3) (0 + Int.toNat x2 * 1) 1 [(vI n1)]) ∧
 (((Says C 23 [(D.val (vI n1)), (D.val (vI (1 : Int))), (D.val (vI (100000 : Int)))] [(D.val (Value.bool true))]) ∧
 (B [(Prod.mk 0 (Go.Value.slice (Option.some (Go.Addr.mk 500 0 Option.none)) (n0) (c1))), (Prod.mk 3 (vI (IntKind.wrap .i64 (x2 + 1))))] [(Prod.mk 500 (AObj.sym (l3) false 1))])) ∨
 ((Says C 23 [(D.val (vI n1)), (D.val (vI (1 : Int))), (D.val (vI (100000 : Int)))] [(D.val (Value.bool false))]) ∧
 (k [(D.val (vI (2 : Int)))])))))
 False)
 False)
 (X 0 [] [])) := by kernel_rfl
def nRP2 (C : Ct) (L : AtLoop) (k : List D → Prop) : Prop := wpNext Try.prog (hF7 C) L 17 0 .normal [] [] (dataK k)
theorem nRP2_text (C : Ct) (L : AtLoop) (k : List D → Prop) : nRP2 C L k =
 (k [(D.val (vI (0 : Int)))]) := by kernel_rfl
def gRPn (C : Ct) (L : AtLoop) (k : List D → Prop) : Prop := wpFn Try.prog (hF7 C) L 0 17 #[.slice none 0 0] (heapOf []) (dataK k)
theorem gRPn_text (C : Ct) (L : AtLoop) (k : List D → Prop) : gRPn C L k =
 (k [(D.val (vI (10 : Int)))]) := by kernel_rfl
def gCr (C : Ct) (L : AtLoop) (n0 : Nat) (c0 : Nat) (l0 : List Value) (k : List D → Prop) : Prop := wpFn Try.prog (hF7 C) L 0 14 #[.slice (some ⟨500, 0, none⟩) n0 c0] (heapOf [(500, .sym l0 false 1)]) (dataK k)
theorem gCr_text (C : Ct) (L : AtLoop) (n0 : Nat) (c0 : Nat) (l0 : List Go.Value) (k : List D → Prop) : gCr C L n0 c0 l0 k =
 (bcase (decide (0 + n0 * 1 ≤ List.length l0))
 (∃ n1 : Int,
 ((Says C 18 [(D.sl (n0) 1 (List.take (n0 * 1) (List.drop 0 l0)))] [(D.val (vI n1))]) ∧
 (bcase (n1 != 0)
 (k [(D.agg [(D.val (vI (0 : Int))), (D.val (vI (0 : Int)))]), (D.val (vI n1))])
 (bcase (decide (0 ≤ IntKind.wrap .i64 (Int.tdiv (↑n0 : Int) 2)))
 (bcase (decide (IntKind.wrap .i64 (Int.tdiv (↑n0 : Int) 2) < (↑n0 : Int)))
 (∃ n2 : Int,
 ((At (l0) (0 + Int.toNat (IntKind.wrap .i64 (Int.tdiv (↑n0 : Int) 2)) * 1) 1 [(vI n2)]) ∧
 (bcase (decide (0 < (↑n0 : Int)))
 (∃ n3 : Int,
 ((At (l0) 0 1 [(vI n3)]) ∧
 (bcase (decide (0 ≤ IntKind.wrap .i64 ((↑n0 : Int) - 1)))
 (bcase (decide (IntKind.wrap .i64 ((↑n0 : Int) - 1) < (↑n0 : Int)))
 (∃ n4 : Int,
 ((At (l0) (0 + Int.toNat (IntKind.wrap .i64 ((↑n0 : Int) - 1)) * 1) 1 [(vI n4)]) ∧
 ((((vI (IntKind.wrap .i64 (IntKind.wrap .i64 (IntKind.wrap .i64 (2 * n2) - n3) - n4))) = (vI (IntKind.wrap .i64 (IntKind.wrap .i64 (IntKind.wrap .i64 (2 * n2) - n3) - n4)))) ∧
 ((∃ n5 : Int,
 ((At (l0) (0 + Int.toNat (IntKind.wrap .i64 ((↑n0 : Int) - 1)) * 1) 1 [(vI n5)]) ∧
 ((vI n5) = (vI n4)))) ∧
 ((bcase (decide (0 ≤ IntKind.wrap .i64 ((↑n0 : Int) - 1)))
 (bcase (decide (IntKind.wrap .i64 ((↑n0 : Int) - 1) < (↑n0 : Int)))
 ((Go.Value.pointer (Option.some (Go.Addr.mk 500 (0 + Int.toNat (IntKind.wrap .i64 ((↑n0 : Int) - 1)) * 1) Option.none))) = (Go.Value.pointer (Option.some (Go.Addr.mk 500 (0 + Int.toNat (IntKind.wrap .i64 ((↑n0 : Int) - 1)) * 1) Option.none))))
 False)
 False) ∧
 (((vI (IntKind.wrap .i64 ((↑n0 : Int) - 1))) = (vI (IntKind.wrap .i64 ((↑n0 : Int) - 1)))) ∧
 (((vI ((↑n0 : Int))) = (vI ((↑n0 : Int)))) ∧
 (((Go.Value.slice (Option.some (Go.Addr.mk 500 0 Option.none)) (n0) (c0)) = (Go.Value.slice (Option.some (Go.Addr.mk 500 0 Option.none)) (n0) (c0))) ∧
 (((Go.Value.slice (Option.some (Go.Addr.mk 500 0 Option.none)) (n0) (c0)) = (Go.Value.slice (Option.some (Go.Addr.mk 500 0 Option.none)) (n0) (c0))) ∧
 (((vI (IntKind.wrap .i64 (IntKind.wrap .i64 (2 * n2) - n3))) = (vI (IntKind.wrap .i64 (IntKind.wrap .i64 (2 * n2) - n3)))) ∧
 ((∃ n5 : Int,
 ((At (l0) 0 1 [(vI n5)]) ∧
 ((vI n5) = (vI n3)))) ∧
 ((bcase (decide (0 < (↑n0 : Int)))
 ((Go.Value.pointer (Option.some (Go.Addr.mk 500 0 Option.none))) = (Go.Value.pointer (Option.some (Go.Addr.mk 500 0 Option.none))))
 False) ∧
 (((Go.Value.slice (Option.some (Go.Addr.mk 500 0 Option.none)) (n0) (c0)) = (Go.Value.slice (Option.some (Go.Addr.mk 500 0 Option.none)) (n0) (c0))) ∧
 (((vI (IntKind.wrap .i64 (2 * n2))) = (vI (IntKind.wrap .i64 (2 * n2)))) ∧
 ((∃ n5 : Int,
 ((At (l0) (0 + Int.toNat (IntKind.wrap .i64 (Int.tdiv (↑n0 : Int) 2)) * 1) 1 [(vI n5)]) ∧
 ((vI n5) = (vI n2)))) ∧
 ((bcase (decide (0 ≤ IntKind.wrap .i64 (Int.tdiv (↑n0 : Int) 2)))
 (bcase (decide (IntKind.wrap .i64 (Int.tdiv (↑n0 : Int) 2) < (↑n0 : Int)))
 ((Go.Value.pointer (Option.some (Go.Addr.mk 500 (0 + Int.toNat (IntKind.wrap .i64 (Int.tdiv (↑n0 : Int) 2)) * 1) Option.none))) = (Go.Value.pointer (Option.some (Go.Addr.mk 500 (0 + Int.toNat (IntKind.wrap .i64 (Int.tdiv (↑n0 : Int) 2)) * 1) Option.none))))
 False)
 False) ∧
 (((vI (IntKind.wrap .i64 (Int.tdiv (↑n0 : Int) 2))) = (vI (IntKind.wrap .i64 (Int.tdiv (↑n0 : Int) 2)))) ∧
 (((vI ((↑n0 : Int))) = (vI ((↑n0 : Int)))) ∧
 (((Go.Value.slice (Option.some (Go.Addr.mk 500 0 Option.none)) (n0) (c0)) = (Go.Value.slice (Option.some (Go.Addr.mk 500 0 Option.none)) (n0) (c0))) ∧
 (((Go.Value.slice (Option.some (Go.Addr.mk 500 0 Option.none)) (n0) (c0)) = (Go.Value.slice (Option.some (Go.Addr.mk 500 0 Option.none)) (n0) (c0))) ∧
 True)))))))))))))))))) ∧
 (∃ n5 : Int,
 (∃ n6 : Int,
 ((Says C 66 [(D.val (vI (IntKind.wrap .i64 (IntKind.wrap .i64 (IntKind.wrap .i64 (2 * n2) - n3) - n4)))), (D.val (vI (2 : Int)))] [(D.agg [(D.val (vI n5)), (D.val (vI n6))])]) ∧
 (((∃ n7 : Int,
 ((At (l0) (0 + Int.toNat (IntKind.wrap .i64 ((↑n0 : Int) - 1)) * 1) 1 [(vI n7)]) ∧
 ((vI n7) = (vI n4)))) ∧
 ((bcase (decide (0 ≤ IntKind.wrap .i64 ((↑n0 : Int) - 1)))
 (bcase (decide (IntKind.wrap .i64 ((↑n0 : Int) - 1) < (↑n0 : Int)))
 ((Go.Value.pointer (Option.some (Go.Addr.mk 500 (0 + Int.toNat (IntKind.wrap .i64 ((↑n0 : Int) - 1)) * 1) Option.none))) = (Go.Value.pointer (Option.some (Go.Addr.mk 500 (0 + Int.toNat (IntKind.wrap .i64 ((↑n0 : Int) - 1)) * 1) Option.none))))
 False)
 False) ∧
 (((vI (IntKind.wrap .i64 ((↑n0 : Int) - 1))) = (vI (IntKind.wrap .i64 ((↑n0 : Int) - 1)))) ∧
 (((vI ((↑n0 : Int))) = (vI ((↑n0 : Int)))) ∧
 (((Go.Value.slice (Option.some (Go.Addr.mk 500 0 Option.none)) (n0) (c0)) = (Go.Value.slice (Option.some (Go.Addr.mk 500 0 Option.none)) (n0) (c0))) ∧
 (((Go.Value.slice (Option.some (Go.Addr.mk 500 0 Option.none)) (n0) (c0)) = (Go.Value.slice (Option.some (Go.Addr.mk 500 0 Option.none)) (n0) (c0))) ∧
 (((vI (IntKind.wrap .i64 (IntKind.wrap .i64 (2 * n2) - n3))) = (vI (IntKind.wrap .i64 (IntKind.wrap .i64 (2 * n2) - n3)))) ∧
 ((∃ n7 : Int,
 ((At (l0) 0 1 [(vI n7)]) ∧
 ((vI n7) = (vI n3)))) ∧
 ((bcase (decide (0 < (↑n0 : Int)))
 ((Go.Value.pointer (Option.some (Go.Addr.mk 500 0 Option.none))) = (Go.Value.pointer (Option.some (Go.Addr.mk 500 0 Option.none))))
 False) ∧
 (((Go.Value.slice (Option.some (Go.Addr.mk 500 0 Option.none)) (n0) (c0)) = (Go.Value.slice (Option.some (Go.Addr.mk 500 0 Option.none)) (n0) (c0))) ∧
 (((vI (IntKind.wrap .i64 (2 * n2))) = (vI (IntKind.wrap .i64 (2 * n2)))) ∧
 ((∃ n7 : Int,
 ((At (l0) (0 + Int.toNat (IntKind.wrap .i64 (Int.tdiv (↑n0 : Int) 2)) * 1) 1 [(vI n7)]) ∧
 ((vI n7) = (vI n2)))) ∧
 ((bcase (decide (0 ≤ IntKind.wrap .i64 (Int.tdiv (↑n0 : Int) 2)))
 (bcase (decide (IntKind.wrap .i64 (Int.tdiv (↑n0 : Int) 2) < (↑n0 : Int)))
 ((Go.Value.pointer (Option.some (Go.Addr.mk 500 (0 + Int.toNat (IntKind.wrap .i64 (Int.tdiv (↑n0 : Int) 2)) * 1) Option.none))) = (Go.Value.pointer (Option.some (Go.Addr.mk 500 (0 + Int.toNat (IntKind.wrap .i64 (Int.tdiv (↑n0 : Int) 2)) * 1) Option.none))))
 False)
 False) ∧
 (((vI (IntKind.wrap .i64 (Int.tdiv (↑n0 : Int) 2))) = (vI (IntKind.wrap .i64 (Int.tdiv (↑n0 : Int) 2)))) ∧
 (((vI ((↑n0 : Int))) = (vI ((↑n0 : Int)))) ∧
 (((Go.Value.slice (Option.some (Go.Addr.mk 500 0 Option.none)) (n0) (c0)) = (Go.Value.slice (Option.some (Go.Addr.mk 500 0 Option.none)) (n0) (c0))) ∧
 (((Go.Value.slice (Option.some (Go.Addr.mk 500 0 Option.none)) (n0) (c0)) = (Go.Value.slice (Option.some (Go.Addr.mk 500 0 Option.none)) (n0) (c0))) ∧
 True))))))))))))))))) ∧
 (True ∧
 (True ∧
 (k [(D.agg [(D.val (vI n5)), (D.val (vI n6))]), (D.val (vI (0 : Int)))]))))))))))
 False)
 False)))
 False)))
 False)
 False))))
 False) := by kernel_rfl
def gWe (C : Ct) (L : AtLoop) (n0 : Nat) (c0 : Nat) (l0 : List Value) (k : List D → Prop) : Prop := wpFn Try.prog (hF7 C) L 0 16 #[.slice (some ⟨500, 0, none⟩) n0 c0] (heapOf [(500, .sym l0 false 1)]) (dataK k)
theorem gWe_text (C : Ct) (L : AtLoop) (n0 : Nat) (c0 : Nat) (l0 : List Go.Value) (k : List D → Prop) : gWe C L n0 c0 l0 k =
 (bcase (decide (0 + n0 * 1 ≤ List.length l0))
 (∃ n1 : Int,
 ((Says C 18 [(D.sl (n0) 1 (List.take (n0 * 1) (List.drop 0 l0)))] [(D.val (vI n1))]) ∧
 (bcase (n1 != 0)
 (k [(D.val (vI (0 : Int))), (D.val (vI n1))])
 (bcase (decide (0 < (↑n0 : Int)))
 (∃ n2 : Int,
 ((At (l0) 0 1 [(vI n2)]) ∧
 (bcase (decide (0 ≤ IntKind.wrap .i64 ((↑n0 : Int) - 1)))
 (bcase (decide (IntKind.wrap .i64 ((↑n0 : Int) - 1) < (↑n0 : Int)))
 (∃ n3 : Int,
 ((At (l0) (0 + Int.toNat (IntKind.wrap .i64 ((↑n0 : Int) - 1)) * 1) 1 [(vI n3)]) ∧
 ((((vI (IntKind.wrap .i64 (n2 - n3))) = (vI (IntKind.wrap .i64 (n2 - n3)))) ∧
 ((∃ n4 : Int,
 ((At (l0) (0 + Int.toNat (IntKind.wrap .i64 ((↑n0 : Int) - 1)) * 1) 1 [(vI n4)]) ∧
 ((vI n4) = (vI n3)))) ∧
 ((bcase (decide (0 ≤ IntKind.wrap .i64 ((↑n0 : Int) - 1)))
 (bcase (decide (IntKind.wrap .i64 ((↑n0 : Int) - 1) < (↑n0 : Int)))
 ((Go.Value.pointer (Option.some (Go.Addr.mk 500 (0 + Int.toNat (IntKind.wrap .i64 ((↑n0 : Int) - 1)) * 1) Option.none))) = (Go.Value.pointer (Option.some (Go.Addr.mk 500 (0 + Int.toNat (IntKind.wrap .i64 ((↑n0 : Int) - 1)) * 1) Option.none))))
 False)
 False) ∧
 (((vI (IntKind.wrap .i64 ((↑n0 : Int) - 1))) = (vI (IntKind.wrap .i64 ((↑n0 : Int) - 1)))) ∧
 (((vI ((↑n0 : Int))) = (vI ((↑n0 : Int)))) ∧
 (((Go.Value.slice (Option.some (Go.Addr.mk 500 0 Option.none)) (n0) (c0)) = (Go.Value.slice (Option.some (Go.Addr.mk 500 0 Option.none)) (n0) (c0))) ∧
 (((Go.Value.slice (Option.some (Go.Addr.mk 500 0 Option.none)) (n0) (c0)) = (Go.Value.slice (Option.some (Go.Addr.mk 500 0 Option.none)) (n0) (c0))) ∧
 ((∃ n4 : Int,
 ((At (l0) 0 1 [(vI n4)]) ∧
 ((vI n4) = (vI n2)))) ∧
 ((bcase (decide (0 < (↑n0 : Int)))
 ((Go.Value.pointer (Option.some (Go.Addr.mk 500 0 Option.none))) = (Go.Value.pointer (Option.some (Go.Addr.mk 500 0 Option.none))))
 False) ∧
 (((Go.Value.slice (Option.some (Go.Addr.mk 500 0 Option.none)) (n0) (c0)) = (Go.Value.slice (Option.some (Go.Addr.mk 500 0 Option.none)) (n0) (c0))) ∧
 True)))))))))) ∧
 (True ∧
 (True ∧
 (k [(D.val (vI (IntKind.wrap .i64 (n2 - n3)))), (D.val (vI (0 : Int)))]))))))
 False)
 False)))
 False))))
 False) := by kernel_rfl
def gRC (C : Ct) (L : AtLoop) (n0 : Nat) (c0 : Nat) (l0 : List Value) (k : List D → Prop) : Prop := wpFn Try.prog (hF7 C) L 0 19 #[.slice (some ⟨500, 0, none⟩) n0 c0] (heapOf [(500, .sym l0 false 1)]) (dataK k)
theorem gRC_text (C : Ct) (L : AtLoop) (n0 : Nat) (c0 : Nat) (l0 : List Go.Value) (k : List D → Prop) : gRC C L n0 c0 l0 k =
 (bcase (decide (0 ≤ IntKind.wrap .i64 (Int.tdiv (↑n0 : Int) 2)))
 (bcase (decide (IntKind.wrap .i64 (Int.tdiv (↑n0 : Int) 2) < (↑n0 : Int)))
 (∃ n1 : Int,
 ((At (l0) (0 + Int.toNat (IntKind.wrap .i64 (Int.tdiv (↑n0 : Int) 2)) * 1) 1 [(vI n1)]) ∧
 (bcase (decide (0 < (↑n0 : Int)))
 (∃ n2 : Int,
 ((At (l0) 0 1 [(vI n2)]) ∧
 (bcase (decide (0 ≤ IntKind.wrap .i64 ((↑n0 : Int) - 1)))
 (bcase (decide (IntKind.wrap .i64 ((↑n0 : Int) - 1) < (↑n0 : Int)))
 (∃ n3 : Int,
 ((At (l0) (0 + Int.toNat (IntKind.wrap .i64 ((↑n0 : Int) - 1)) * 1) 1 [(vI n3)]) ∧
 ((((vI (IntKind.wrap .i64 (IntKind.wrap .i64 (IntKind.wrap .i64 (2 * n1) - n2) - n3))) = (vI (IntKind.wrap .i64 (IntKind.wrap .i64 (IntKind.wrap .i64 (2 * n1) - n2) - n3)))) ∧
 ((∃ n4 : Int,
 ((At (l0) (0 + Int.toNat (IntKind.wrap .i64 ((↑n0 : Int) - 1)) * 1) 1 [(vI n4)]) ∧
 ((vI n4) = (vI n3)))) ∧
 ((bcase (decide (0 ≤ IntKind.wrap .i64 ((↑n0 : Int) - 1)))
 (bcase (decide (IntKind.wrap .i64 ((↑n0 : Int) - 1) < (↑n0 : Int)))
 ((Go.Value.pointer (Option.some (Go.Addr.mk 500 (0 + Int.toNat (IntKind.wrap .i64 ((↑n0 : Int) - 1)) * 1) Option.none))) = (Go.Value.pointer (Option.some (Go.Addr.mk 500 (0 + Int.toNat (IntKind.wrap .i64 ((↑n0 : Int) - 1)) * 1) Option.none))))
 False)
 False) ∧
 (((vI (IntKind.wrap .i64 ((↑n0 : Int) - 1))) = (vI (IntKind.wrap .i64 ((↑n0 : Int) - 1)))) ∧
 (((vI ((↑n0 : Int))) = (vI ((↑n0 : Int)))) ∧
 (((Go.Value.slice (Option.some (Go.Addr.mk 500 0 Option.none)) (n0) (c0)) = (Go.Value.slice (Option.some (Go.Addr.mk 500 0 Option.none)) (n0) (c0))) ∧
 (((Go.Value.slice (Option.some (Go.Addr.mk 500 0 Option.none)) (n0) (c0)) = (Go.Value.slice (Option.some (Go.Addr.mk 500 0 Option.none)) (n0) (c0))) ∧
 (((vI (IntKind.wrap .i64 (IntKind.wrap .i64 (2 * n1) - n2))) = (vI (IntKind.wrap .i64 (IntKind.wrap .i64 (2 * n1) - n2)))) ∧
 ((∃ n4 : Int,
 ((At (l0) 0 1 [(vI n4)]) ∧
 ((vI n4) = (vI n2)))) ∧
 ((bcase (decide (0 < (↑n0 : Int)))
 ((Go.Value.pointer (Option.some (Go.Addr.mk 500 0 Option.none))) = (Go.Value.pointer (Option.some (Go.Addr.mk 500 0 Option.none))))
 False) ∧
 (((Go.Value.slice (Option.some (Go.Addr.mk 500 0 Option.none)) (n0) (c0)) = (Go.Value.slice (Option.some (Go.Addr.mk 500 0 Option.none)) (n0) (c0))) ∧
 (((vI (IntKind.wrap .i64 (2 * n1))) = (vI (IntKind.wrap .i64 (2 * n1)))) ∧
 ((∃ n4 : Int,
 ((At (l0) (0 + Int.toNat (IntKind.wrap .i64 (Int.tdiv (↑n0 : Int) 2)) * 1) 1 [(vI n4)]) ∧
 ((vI n4) = (vI n1)))) ∧
 ((bcase (decide (0 ≤ IntKind.wrap .i64 (Int.tdiv (↑n0 : Int) 2)))
 (bcase (decide (IntKind.wrap .i64 (Int.tdiv (↑n0 : Int) 2) < (↑n0 : Int)))
 ((Go.Value.pointer (Option.some (Go.Addr.mk 500 (0 + Int.toNat (IntKind.wrap .i64 (Int.tdiv (↑n0 : Int) 2)) * 1) Option.none))) = (Go.Value.pointer (Option.some (Go.Addr.mk 500 (0 + Int.toNat (IntKind.wrap .i64 (Int.tdiv (↑n0 : Int) 2)) * 1) Option.none))))
 False)
 False) ∧
 (((vI (IntKind.wrap .i64 (Int.tdiv (↑n0 : Int) 2))) = (vI (IntKind.wrap .i64 (Int.tdiv (↑n0 : Int) 2)))) ∧
 (((vI ((↑n0 : Int))) = (vI ((↑n0 : Int)))) ∧
 (((Go.Value.slice (Option.some (Go.Addr.mk 500 0 Option.none)) (n0) (c0)) = (Go.Value.slice (Option.some (Go.Addr.mk 500 0 Option.none)) (n0) (c0))) ∧
 (((Go.Value.slice (Option.some (Go.Addr.mk 500 0 Option.none)) (n0) (c0)) = (Go.Value.slice (Option.some (Go.Addr.mk 500 0 Option.none)) (n0) (c0))) ∧
 True)))))))))))))))))) ∧
 (∃ n4 : Int,
 (∃ n5 : Int,
 ((Says C 70 [(D.val (vI (IntKind.wrap .i64 (IntKind.wrap .i64 (IntKind.wrap .i64 (2 * n1) - n2) - n3)))), (D.val (vI (2 : Int)))] [(D.agg [(D.val (vI n4)), (D.val (vI n5))])]) ∧
 (((∃ n6 : Int,
 ((At (l0) (0 + Int.toNat (IntKind.wrap .i64 ((↑n0 : Int) - 1)) * 1) 1 [(vI n6)]) ∧
 ((vI n6) = (vI n3)))) ∧
 ((bcase (decide (0 ≤ IntKind.wrap .i64 ((↑n0 : Int) - 1)))
 (bcase (decide (IntKind.wrap .i64 ((↑n0 : Int) - 1) < (↑n0 : Int)))
 ((Go.Value.pointer (Option.some (Go.Addr.mk 500 (0 + Int.toNat (IntKind.wrap .i64 ((↑n0 : Int) - 1)) * 1) Option.none))) = (Go.Value.pointer (Option.some (Go.Addr.mk 500 (0 + Int.toNat (IntKind.wrap .i64 ((↑n0 : Int) - 1)) * 1) Option.none))))
 False)
 False) ∧
 (((vI (IntKind.wrap .i64 ((↑n0 : Int) - 1))) = (vI (IntKind.wrap .i64 ((↑n0 : Int) - 1)))) ∧
 (((vI ((↑n0 : Int))) = (vI ((↑n0 : Int)))) ∧
 (((Go.Value.slice (Option.some (Go.Addr.mk 500 0 Option.none)) (n0) (c0)) = (Go.Value.slice (Option.some (Go.Addr.mk 500 0 Option.none)) (n0) (c0))) ∧
 (((Go.Value.slice (Option.some (Go.Addr.mk 500 0 Option.none)) (n0) (c0)) = (Go.Value.slice (Option.some (Go.Addr.mk 500 0 Option.none)) (n0) (c0))) ∧
 (((vI (IntKind.wrap .i64 (IntKind.wrap .i64 (2 * n1) - n2))) = (vI (IntKind.wrap .i64 (IntKind.wrap .i64 (2 * n1) - n2)))) ∧
 ((∃ n6 : Int,
 ((At (l0) 0 1 [(vI n6)]) ∧
 ((vI n6) = (vI n2)))) ∧
 ((bcase (decide (0 < (↑n0 : Int)))
 ((Go.Value.pointer (Option.some (Go.Addr.mk 500 0 Option.none))) = (Go.Value.pointer (Option.some (Go.Addr.mk 500 0 Option.none))))
 False) ∧
 (((Go.Value.slice (Option.some (Go.Addr.mk 500 0 Option.none)) (n0) (c0)) = (Go.Value.slice (Option.some (Go.Addr.mk 500 0 Option.none)) (n0) (c0))) ∧
 (((vI (IntKind.wrap .i64 (2 * n1))) = (vI (IntKind.wrap .i64 (2 * n1)))) ∧
 ((∃ n6 : Int,
 ((At (l0) (0 + Int.toNat (IntKind.wrap .i64 (Int.tdiv (↑n0 : Int) 2)) * 1) 1 [(vI n6)]) ∧
 ((vI n6) = (vI n1)))) ∧
 ((bcase (decide (0 ≤ IntKind.wrap .i64 (Int.tdiv (↑n0 : Int) 2)))
 (bcase (decide (IntKind.wrap .i64 (Int.tdiv (↑n0 : Int) 2) < (↑n0 : Int)))
 ((Go.Value.pointer (Option.some (Go.Addr.mk 500 (0 + Int.toNat (IntKind.wrap .i64 (Int.tdiv (↑n0 : Int) 2)) * 1) Option.none))) = (Go.Value.pointer (Option.some (Go.Addr.mk 500 (0 + Int.toNat (IntKind.wrap .i64 (Int.tdiv (↑n0 : Int) 2)) * 1) Option.none))))
 False)
 False) ∧
 (((vI (IntKind.wrap .i64 (Int.tdiv (↑n0 : Int) 2))) = (vI (IntKind.wrap .i64 (Int.tdiv (↑n0 : Int) 2)))) ∧
 (((vI ((↑n0 : Int))) = (vI ((↑n0 : Int)))) ∧
 (((Go.Value.slice (Option.some (Go.Addr.mk 500 0 Option.none)) (n0) (c0)) = (Go.Value.slice (Option.some (Go.Addr.mk 500 0 Option.none)) (n0) (c0))) ∧
 (((Go.Value.slice (Option.some (Go.Addr.mk 500 0 Option.none)) (n0) (c0)) = (Go.Value.slice (Option.some (Go.Addr.mk 500 0 Option.none)) (n0) (c0))) ∧
 True))))))))))))))))) ∧
 (True ∧
 (k [(D.agg [(D.val (vI n4)), (D.val (vI n5))])])))))))))
 False)
 False)))
 False)))
 False)
 False) := by kernel_rfl
def gLp (C : Ct) (L : AtLoop) (n0 : Nat) (c0 : Nat) (l0 : List Value) (k : List D → Prop) : Prop := wpFn Try.prog (hF7 C) L 0 3 #[.slice (some ⟨500, 0, none⟩) n0 c0] (heapOf [(500, .sym l0 false 1)]) (dataK k)
theorem gLp_text (C : Ct) (L : AtLoop) (n0 : Nat) (c0 : Nat) (l0 : List Go.Value) (k : List D → Prop) : gLp C L n0 c0 l0 k =
 (((Says C 12 [] [(D.val (Value.bool true))]) ∧
 (bcase (decide (0 + n0 * 1 ≤ List.length l0))
 (((Says C 13 [(D.sl (n0) 1 (List.take (n0 * 1) (List.drop 0 l0)))] [(D.val (Value.bool true))]) ∧
 (bcase (decide (0 + n0 * 1 ≤ List.length l0))
 ((Says C 15 [(D.sl (n0) 1 (List.take (n0 * 1) (List.drop 0 l0)))] [(D.sl (n0) 1 (List.take (n0 * 1) (List.drop 0 l0)))]) ∧
 (bcase (decide (0 + n0 * 1 ≤ List.length (List.take (n0 * 1) (List.drop 0 l0))))
 (∃ n1 : Int,
 (∃ n2 : Int,
 (∃ n3 : Int,
 ((Says C 14 [(D.sl (n0) 1 (List.take (n0 * 1) (List.drop 0 (List.take (n0 * 1) (List.drop 0 l0)))))] [(D.agg [(D.val (vI n1)), (D.val (vI n2))]), (D.val (vI n3))]) ∧
 (bcase (decide (0 + n0 * 1 ≤ List.length l0))
 ((Says C 15 [(D.sl (n0) 1 (List.take (n0 * 1) (List.drop 0 l0)))] [(D.sl (n0) 1 (List.take (n0 * 1) (List.drop 0 l0)))]) ∧
 (bcase (decide (0 + n0 * 1 ≤ List.length (List.take (n0 * 1) (List.drop 0 l0))))
 (∃ n4 : Int,
 (∃ n5 : Int,
 ((Says C 16 [(D.sl (n0) 1 (List.take (n0 * 1) (List.drop 0 (List.take (n0 * 1) (List.drop 0 l0)))))] [(D.val (vI n4)), (D.val (vI n5))]) ∧
 (bcase (decide (0 + n0 * 1 ≤ List.length l0))
 (∃ n6 : Int,
 ((Says C 17 [(D.sl (n0) 1 (List.take (n0 * 1) (List.drop 0 l0)))] [(D.val (vI n6))]) ∧
 (bcase (decide (0 + n0 * 1 ≤ List.length l0))
 ((Says C 15 [(D.sl (n0) 1 (List.take (n0 * 1) (List.drop 0 l0)))] [(D.sl (n0) 1 (List.take (n0 * 1) (List.drop 0 l0)))]) ∧
 (bcase (decide (0 + n0 * 1 ≤ List.length (List.take (n0 * 1) (List.drop 0 l0))))
 (∃ n7 : Int,
 ((Says C 18 [(D.sl (n0) 1 (List.take (n0 * 1) (List.drop 0 (List.take (n0 * 1) (List.drop 0 l0)))))] [(D.val (vI n7))]) ∧
 (bcase (n7 != n6)
 (k [(D.val (Value.bool false))])
 (bcase (n6 != 0)
 (bcase (n3 == n6)
 (bcase (n5 == n6)
 (bcase (if Bool.false = Bool.true then !(n1 == 0 && (n2 == 0 && Bool.true)) else n1 == 0 && (n2 == 0 && Bool.true))
 (bcase (n4 == 0)
 (k [(D.val (Value.bool true))])
 (k [(D.val (Value.bool false))]))
 (k [(D.val (Value.bool false))]))
 (k [(D.val (Value.bool false))]))
 (k [(D.val (Value.bool false))]))
 (bcase (n3 == 0)
 ((((Go.Value.slice (Option.some (Go.Addr.mk 500 0 Option.none)) (n0) (c0)) = (Go.Value.slice (Option.some (Go.Addr.mk 500 0 Option.none)) (n0) (c0))) ∧
 (((Go.Value.agg [(vI n1), (vI n2)].toArray) = (Go.Value.agg [(vI n1), (vI n2)].toArray)) ∧
 (((Value.bool true) = (Value.bool true)) ∧
 ((bcase (n3 == 0)
 ((Value.bool true) = (Value.bool true))
 ((Value.bool false) = (Value.bool true))) ∧
 (((vI n3) = (vI n3)) ∧
 True))))) ∧
 (bcase (decide (0 + n0 * 1 ≤ List.length l0))
 (∃ n8 : Int,
 (∃ n9 : Int,
 ((Says C 19 [(D.sl (n0) 1 (List.take (n0 * 1) (List.drop 0 l0)))] [(D.agg [(D.val (vI n8)), (D.val (vI n9))])]) ∧
 (bcase (if Bool.false = Bool.true then !(n1 == n8 && (n2 == n9 && Bool.true)) else n1 == n8 && (n2 == n9 && Bool.true))
 (bcase (n5 == 0)
 (bcase (decide (0 < (↑n0 : Int)))
 (∃ n10 : Int,
 ((At (l0) 0 1 [(vI n10)]) ∧
 (bcase (decide (0 ≤ IntKind.wrap .i64 ((↑n0 : Int) - 1)))
 (bcase (decide (IntKind.wrap .i64 ((↑n0 : Int) - 1) < (↑n0 : Int)))
 (∃ n11 : Int,
 ((At (l0) (0 + Int.toNat (IntKind.wrap .i64 ((↑n0 : Int) - 1)) * 1) 1 [(vI n11)]) ∧
 (bcase (n4 == IntKind.wrap .i64 (n10 - n11))
 ((((Value.bool true) = (Value.bool true)) ∧
 ((bcase (n4 == IntKind.wrap .i64 (n10 - n11))
 ((Value.bool true) = (Value.bool true))
 ((Value.bool false) = (Value.bool true))) ∧
 (((vI (IntKind.wrap .i64 (n10 - n11))) = (vI (IntKind.wrap .i64 (n10 - n11)))) ∧
 ((∃ n12 : Int,
 ((At (l0) (0 + Int.toNat (IntKind.wrap .i64 ((↑n0 : Int) - 1)) * 1) 1 [(vI n12)]) ∧
 ((vI n12) = (vI n11)))) ∧
 ((bcase (decide (0 ≤ IntKind.wrap .i64 ((↑n0 : Int) - 1)))
 (bcase (decide (IntKind.wrap .i64 ((↑n0 : Int) - 1) < (↑n0 : Int)))
 ((Go.Value.pointer (Option.some (Go.Addr.mk 500 (0 + Int.toNat (IntKind.wrap .i64 ((↑n0 : Int) - 1)) * 1) Option.none))) = (Go.Value.pointer (Option.some (Go.Addr.mk 500 (0 + Int.toNat (IntKind.wrap .i64 ((↑n0 : Int) - 1)) * 1) Option.none))))
 False)
 False) ∧
 (((vI (IntKind.wrap .i64 ((↑n0 : Int) - 1))) = (vI (IntKind.wrap .i64 ((↑n0 : Int) - 1)))) ∧
 (((vI ((↑n0 : Int))) = (vI ((↑n0 : Int)))) ∧
 (((Go.Value.slice (Option.some (Go.Addr.mk 500 0 Option.none)) (n0) (c0)) = (Go.Value.slice (Option.some (Go.Addr.mk 500 0 Option.none)) (n0) (c0))) ∧
 (((Go.Value.slice (Option.some (Go.Addr.mk 500 0 Option.none)) (n0) (c0)) = (Go.Value.slice (Option.some (Go.Addr.mk 500 0 Option.none)) (n0) (c0))) ∧
 ((∃ n12 : Int,
 ((At (l0) 0 1 [(vI n12)]) ∧
 ((vI n12) = (vI n10)))) ∧
 ((bcase (decide (0 < (↑n0 : Int)))
 ((Go.Value.pointer (Option.some (Go.Addr.mk 500 0 Option.none))) = (Go.Value.pointer (Option.some (Go.Addr.mk 500 0 Option.none))))
 False) ∧
 (((Go.Value.slice (Option.some (Go.Addr.mk 500 0 Option.none)) (n0) (c0)) = (Go.Value.slice (Option.some (Go.Addr.mk 500 0 Option.none)) (n0) (c0))) ∧
 (((vI n4) = (vI n4)) ∧
 (((Value.bool true) = (Value.bool true)) ∧
 (((Value.bool true) = (Value.bool true)) ∧
 ((bcase (n5 == 0)
 ((Value.bool true) = (Value.bool true))
 ((Value.bool false) = (Value.bool true))) ∧
 (((vI n5) = (vI n5)) ∧
 (((Value.bool true) = (Value.bool true)) ∧
 (((Value.bool true) = (Value.bool true)) ∧
 ((bcase (if Bool.false = Bool.true then !(n1 == n8 && (n2 == n9 && Bool.true)) else n1 == n8 && (n2 == n9 && Bool.true))
 ((Value.bool true) = (Value.bool true))
 ((Value.bool false) = (Value.bool true))) ∧
 (((Go.Value.agg [(vI n1), (vI n2)].toArray) = (Go.Value.agg [(vI n1), (vI n2)].toArray)) ∧
 ((bcase (n3 == 0)
 ((Value.bool true) = (Value.bool true))
 ((Value.bool false) = (Value.bool true))) ∧
 (((vI n3) = (vI n3)) ∧
 True))))))))))))))))))))))) ∧
 (True ∧
 (k [(D.val (Value.bool true))])))
 ((((Value.bool false) = (Value.bool false)) ∧
 ((bcase (n4 == IntKind.wrap .i64 (n10 - n11))
 ((Value.bool true) = (Value.bool false))
 ((Value.bool false) = (Value.bool false))) ∧
 (((vI (IntKind.wrap .i64 (n10 - n11))) = (vI (IntKind.wrap .i64 (n10 - n11)))) ∧
 ((∃ n12 : Int,
 ((At (l0) (0 + Int.toNat (IntKind.wrap .i64 ((↑n0 : Int) - 1)) * 1) 1 [(vI n12)]) ∧
 ((vI n12) = (vI n11)))) ∧
 ((bcase (decide (0 ≤ IntKind.wrap .i64 ((↑n0 : Int) - 1)))
 (bcase (decide (IntKind.wrap .i64 ((↑n0 : Int) - 1) < (↑n0 : Int)))
 ((Go.Value.pointer (Option.some (Go.Addr.mk 500 (0 + Int.toNat (IntKind.wrap .i64 ((↑n0 : Int) - 1)) * 1) Option.none))) = (Go.Value.pointer (Option.some (Go.Addr.mk 500 (0 + Int.toNat (IntKind.wrap .i64 ((↑n0 : Int) - 1)) * 1) Option.none))))
 False)
 False) ∧
 (((vI (IntKind.wrap .i64 ((↑n0 : Int) - 1))) = (vI (IntKind.wrap .i64 ((↑n0 : Int) - 1)))) ∧
 (((vI ((↑n0 : Int))) = (vI ((↑n0 : Int)))) ∧
 (((Go.Value.slice (Option.some (Go.Addr.mk 500 0 Option.none)) (n0) (c0)) = (Go.Value.slice (Option.some (Go.Addr.mk 500 0 Option.none)) (n0) (c0))) ∧
 (((Go.Value.slice (Option.some (Go.Addr.mk 500 0 Option.none)) (n0) (c0)) = (Go.Value.slice (Option.some (Go.Addr.mk 500 0 Option.none)) (n0) (c0))) ∧
 ((∃ n12 : Int,
 ((At (l0) 0 1 [(vI n12)]) ∧
 ((vI n12) = (vI n10)))) ∧
 ((bcase (decide (0 < (↑n0 : Int)))
 ((Go.Value.pointer (Option.some (Go.Addr.mk 500 0 Option.none))) = (Go.Value.pointer (Option.some (Go.Addr.mk 500 0 Option.none))))
 False) ∧
 (((Go.Value.slice (Option.some (Go.Addr.mk 500 0 Option.none)) (n0) (c0)) = (Go.Value.slice (Option.some (Go.Addr.mk 500 0 Option.none)) (n0) (c0))) ∧
 (((vI n4) = (vI n4)) ∧
 (((Value.bool true) = (Value.bool true)) ∧
 (((Value.bool true) = (Value.bool true)) ∧
 ((bcase (n5 == 0)
 ((Value.bool true) = (Value.bool true))
 ((Value.bool false) = (Value.bool true))) ∧
 (((vI n5) = (vI n5)) ∧
 (((Value.bool true) = (Value.bool true)) ∧
 (((Value.bool true) = (Value.bool true)) ∧
 ((bcase (if Bool.false = Bool.true then !(n1 == n8 && (n2 == n9 && Bool.true)) else n1 == n8 && (n2 == n9 && Bool.true))
 ((Value.bool true) = (Value.bool true))
 ((Value.bool false) = (Value.bool true))) ∧
 (((Go.Value.agg [(vI n1), (vI n2)].toArray) = (Go.Value.agg [(vI n1), (vI n2)].toArray)) ∧
 ((bcase (n3 == 0)
 ((Value.bool true) = (Value.bool true))
 ((Value.bool false) = (Value.bool true))) ∧
 (((vI n3) = (vI n3)) ∧
 True))))))))))))))))))))))) ∧
 (True ∧
 (k [(D.val (Value.bool false))]))))))
 False)
 False)))
 False)
 ((((Value.bool false) = (Value.bool false)) ∧
 (((Go.Value.tuple [].toArray) = (Go.Value.tuple [].toArray)) ∧
 (((Go.Value.tuple [].toArray) = (Go.Value.tuple [].toArray)) ∧
 (((Go.Value.tuple [].toArray) = (Go.Value.tuple [].toArray)) ∧
 (((Go.Value.tuple [].toArray) = (Go.Value.tuple [].toArray)) ∧
 (((Go.Value.tuple [].toArray) = (Go.Value.tuple [].toArray)) ∧
 (((Go.Value.tuple [].toArray) = (Go.Value.tuple [].toArray)) ∧
 (((Go.Value.tuple [].toArray) = (Go.Value.tuple [].toArray)) ∧
 (((Go.Value.tuple [].toArray) = (Go.Value.tuple [].toArray)) ∧
 (((Go.Value.tuple [].toArray) = (Go.Value.tuple [].toArray)) ∧
 (((Go.Value.tuple [].toArray) = (Go.Value.tuple [].toArray)) ∧
 (((Go.Value.tuple [].toArray) = (Go.Value.tuple [].toArray)) ∧
 (((Go.Value.tuple [].toArray) = (Go.Value.tuple [].toArray)) ∧
 (((Value.bool false) = (Value.bool false)) ∧
 (((Value.bool false) = (Value.bool false)) ∧
 ((bcase (n5 == 0)
 ((Value.bool true) = (Value.bool false))
 ((Value.bool false) = (Value.bool false))) ∧
 (((vI n5) = (vI n5)) ∧
 (((Value.bool true) = (Value.bool true)) ∧
 (((Value.bool true) = (Value.bool true)) ∧
 ((bcase (if Bool.false = Bool.true then !(n1 == n8 && (n2 == n9 && Bool.true)) else n1 == n8 && (n2 == n9 && Bool.true))
 ((Value.bool true) = (Value.bool true))
 ((Value.bool false) = (Value.bool true))) ∧
 (((Go.Value.agg [(vI n1), (vI n2)].toArray) = (Go.Value.agg [(vI n1), (vI n2)].toArray)) ∧
 ((bcase (n3 == 0)
 ((Value.bool true) = (Value.bool true))
 ((Value.bool false) = (Value.bool true))) ∧
 (((vI n3) = (vI n3)) ∧
 True))))))))))))))))))))))) ∧
 (True ∧
 (k [(D.val (Value.bool false))]))))
 ((((Value.bool false) = (Value.bool false)) ∧
 (((Go.Value.tuple [].toArray) = (Go.Value.tuple [].toArray)) ∧
 (((Go.Value.tuple [].toArray) = (Go.Value.tuple [].toArray)) ∧
 (((Go.Value.tuple [].toArray) = (Go.Value.tuple [].toArray)) ∧
 (((Go.Value.tuple [].toArray) = (Go.Value.tuple [].toArray)) ∧
 (((Go.Value.tuple [].toArray) = (Go.Value.tuple [].toArray)) ∧
 (((Go.Value.tuple [].toArray) = (Go.Value.tuple [].toArray)) ∧
 (((Go.Value.tuple [].toArray) = (Go.Value.tuple [].toArray)) ∧
 (((Go.Value.tuple [].toArray) = (Go.Value.tuple [].toArray)) ∧
 (((Go.Value.tuple [].toArray) = (Go.Value.tuple [].toArray)) ∧
 (((Go.Value.tuple [].toArray) = (Go.Value.tuple [].toArray)) ∧
 (((Go.Value.tuple [].toArray) = (Go.Value.tuple [].toArray)) ∧
 (((Go.Value.tuple [].toArray) = (Go.Value.tuple [].toArray)) ∧
 (((Value.bool false) = (Value.bool false)) ∧
 (((Value.bool false) = (Value.bool false)) ∧
 (((Go.Value.tuple [].toArray) = (Go.Value.tuple [].toArray)) ∧
 (((Go.Value.tuple [].toArray) = (Go.Value.tuple [].toArray)) ∧
 (((Value.bool false) = (Value.bool false)) ∧
 (((Value.bool false) = (Value.bool false)) ∧
 ((bcase (if Bool.false = Bool.true then !(n1 == n8 && (n2 == n9 && Bool.true)) else n1 == n8 && (n2 == n9 && Bool.true))
 ((Value.bool true) = (Value.bool false))
 ((Value.bool false) = (Value.bool false))) ∧
 (((Go.Value.agg [(vI n1), (vI n2)].toArray) = (Go.Value.agg [(vI n1), (vI n2)].toArray)) ∧
 ((bcase (n3 == 0)
 ((Value.bool true) = (Value.bool true))
 ((Value.bool false) = (Value.bool true))) ∧
 (((vI n3) = (vI n3)) ∧
 True))))))))))))))))))))))) ∧
 (True ∧
 (k [(D.val (Value.bool false))])))))))
 False))
 ((((Go.Value.tuple [].toArray) = (Go.Value.tuple [].toArray)) ∧
 (((Go.Value.tuple [].toArray) = (Go.Value.tuple [].toArray)) ∧
 (((Value.bool false) = (Value.bool false)) ∧
 ((bcase (n3 == 0)
 ((Value.bool true) = (Value.bool false))
 ((Value.bool false) = (Value.bool false))) ∧
 (((vI n3) = (vI n3)) ∧
 True))))) ∧
 ((((Value.bool false) = (Value.bool false)) ∧
 (((Go.Value.tuple [].toArray) = (Go.Value.tuple [].toArray)) ∧
 (((Go.Value.tuple [].toArray) = (Go.Value.tuple [].toArray)) ∧
 (((Go.Value.tuple [].toArray) = (Go.Value.tuple [].toArray)) ∧
 (((Go.Value.tuple [].toArray) = (Go.Value.tuple [].toArray)) ∧
 (((Go.Value.tuple [].toArray) = (Go.Value.tuple [].toArray)) ∧
 (((Go.Value.tuple [].toArray) = (Go.Value.tuple [].toArray)) ∧
 (((Go.Value.tuple [].toArray) = (Go.Value.tuple [].toArray)) ∧
 (((Go.Value.tuple [].toArray) = (Go.Value.tuple [].toArray)) ∧
 (((Go.Value.tuple [].toArray) = (Go.Value.tuple [].toArray)) ∧
 (((Go.Value.tuple [].toArray) = (Go.Value.tuple [].toArray)) ∧
 (((Go.Value.tuple [].toArray) = (Go.Value.tuple [].toArray)) ∧
 (((Go.Value.tuple [].toArray) = (Go.Value.tuple [].toArray)) ∧
 (((Value.bool false) = (Value.bool false)) ∧
 (((Value.bool false) = (Value.bool false)) ∧
 (((Go.Value.tuple [].toArray) = (Go.Value.tuple [].toArray)) ∧
 (((Go.Value.tuple [].toArray) = (Go.Value.tuple [].toArray)) ∧
 (((Value.bool false) = (Value.bool false)) ∧
 (((Value.bool false) = (Value.bool false)) ∧
 (((Go.Value.tuple [].toArray) = (Go.Value.tuple [].toArray)) ∧
 (((Go.Value.tuple [].toArray) = (Go.Value.tuple [].toArray)) ∧
 ((bcase (n3 == 0)
 ((Value.bool true) = (Value.bool false))
 ((Value.bool false) = (Value.bool false))) ∧
 (((vI n3) = (vI n3)) ∧
 True))))))))))))))))))))))) ∧
 (True ∧
 (k [(D.val (Value.bool false))])))))))))
 False))
 False)))
 False))))
 False))
 False)))))
 False))
 False)) ∨
 ((Says C 13 [(D.sl (n0) 1 (List.take (n0 * 1) (List.drop 0 l0)))] [(D.val (Value.bool false))]) ∧
 (k [(D.val (Value.bool true))])))
 False)) ∨
 ((Says C 12 [] [(D.val (Value.bool false))]) ∧
 (k [(D.val (Value.bool false))]))) := by kernel_rfl
def gLpn (C : Ct) (L : AtLoop) (k : List D → Prop) : Prop := wpFn Try.prog (hF7 C) L 0 3 #[.slice none 0 0] (heapOf []) (dataK k)
theorem gLpn_text (C : Ct) (L : AtLoop) (k : List D → Prop) : gLpn C L k =
 (((Says C 12 [] [(D.val (Value.bool true))]) ∧
 (((Says C 13 [D.nil] [(D.val (Value.bool true))]) ∧
 ((Says C 15 [D.nil] [(D.sl 0 1 [])]) ∧
 (∃ n1 : Int,
 (∃ n2 : Int,
 (∃ n3 : Int,
 ((Says C 14 [(D.sl 0 1 [])] [(D.agg [(D.val (vI n1)), (D.val (vI n2))]), (D.val (vI n3))]) ∧
 ((Says C 15 [D.nil] [(D.sl 0 1 [])]) ∧
 (∃ n4 : Int,
 (∃ n5 : Int,
 ((Says C 16 [(D.sl 0 1 [])] [(D.val (vI n4)), (D.val (vI n5))]) ∧
 (∃ n6 : Int,
 ((Says C 17 [D.nil] [(D.val (vI n6))]) ∧
 ((Says C 15 [D.nil] [(D.sl 0 1 [])]) ∧
 (∃ n7 : Int,
 ((Says C 18 [(D.sl 0 1 [])] [(D.val (vI n7))]) ∧
 (bcase (n7 != n6)
 (k [(D.val (Value.bool false))])
 (bcase (n6 != 0)
 (bcase (n3 == n6)
 (bcase (n5 == n6)
 (bcase (if Bool.false = Bool.true then !(n1 == 0 && (n2 == 0 && Bool.true)) else n1 == 0 && (n2 == 0 && Bool.true))
 (bcase (n4 == 0)
 (k [(D.val (Value.bool true))])
 (k [(D.val (Value.bool false))]))
 (k [(D.val (Value.bool false))]))
 (k [(D.val (Value.bool false))]))
 (k [(D.val (Value.bool false))]))
 (bcase (n3 == 0)
 ((((Go.Value.slice Option.none 0 0) = (Go.Value.slice Option.none 0 0)) ∧
 (((Go.Value.agg [(vI n1), (vI n2)].toArray) = (Go.Value.agg [(vI n1), (vI n2)].toArray)) ∧
 (((Value.bool true) = (Value.bool true)) ∧
 ((bcase (n3 == 0)
 ((Value.bool true) = (Value.bool true))
 ((Value.bool false) = (Value.bool true))) ∧
 (((vI n3) = (vI n3)) ∧
 True))))) ∧
 (∃ n8 : Int,
 (∃ n9 : Int,
 ((Says C 19 [D.nil] [(D.agg [(D.val (vI n8)), (D.val (vI n9))])]) ∧
 (bcase (if Bool.false = Bool.true then !(n1 == n8 && (n2 == n9 && Bool.true)) else n1 == n8 && (n2 == n9 && Bool.true))
 (bcase (n5 == 0)
 False
 ((((Value.bool false) = (Value.bool false)) ∧
 (((Go.Value.tuple [].toArray) = (Go.Value.tuple [].toArray)) ∧
 (((Go.Value.tuple [].toArray) = (Go.Value.tuple [].toArray)) ∧
 (((Go.Value.tuple [].toArray) = (Go.Value.tuple [].toArray)) ∧
 (((Go.Value.tuple [].toArray) = (Go.Value.tuple [].toArray)) ∧
 (((Go.Value.tuple [].toArray) = (Go.Value.tuple [].toArray)) ∧
 (((Go.Value.tuple [].toArray) = (Go.Value.tuple [].toArray)) ∧
 (((Go.Value.tuple [].toArray) = (Go.Value.tuple [].toArray)) ∧
 (((Go.Value.tuple [].toArray) = (Go.Value.tuple [].toArray)) ∧
 (((Go.Value.tuple [].toArray) = (Go.Value.tuple [].toArray)) ∧
 (((Go.Value.tuple [].toArray) = (Go.Value.tuple [].toArray)) ∧
 (((Go.Value.tuple [].toArray) = (Go.Value.tuple [].toArray)) ∧
 (((Go.Value.tuple [].toArray) = (Go.Value.tuple [].toArray)) ∧
 (((Value.bool false) = (Value.bool false)) ∧
 (((Value.bool false) = (Value.bool false)) ∧
 ((bcase (n5 == 0)
 ((Value.bool true) = (Value.bool false))
 ((Value.bool false) = (Value.bool false))) ∧
 (((vI n5) = (vI n5)) ∧
 (((Value.bool true) = (Value.bool true)) ∧
 (((Value.bool true) = (Value.bool true)) ∧
 ((bcase (if Bool.false = Bool.true then !(n1 == n8 && (n2 == n9 && Bool.true)) else n1 == n8 && (n2 == n9 && Bool.true))
 ((Value.bool true) = (Value.bool true))
 ((Value.bool false) = (Value.bool true))) ∧
 (((Go.Value.agg [(vI n1), (vI n2)].toArray) = (Go.Value.agg [(vI n1), (vI n2)].toArray)) ∧
 ((bcase (n3 == 0)
 ((Value.bool true) = (Value.bool true))
 ((Value.bool false) = (Value.bool true))) ∧
 (((vI n3) = (vI n3)) ∧
 True))))))))))))))))))))))) ∧
 (True ∧
 (k [(D.val (Value.bool false))]))))
 ((((Value.bool false) = (Value.bool false)) ∧
 (((Go.Value.tuple [].toArray) = (Go.Value.tuple [].toArray)) ∧
 (((Go.Value.tuple [].toArray) = (Go.Value.tuple [].toArray)) ∧
 (((Go.Value.tuple [].toArray) = (Go.Value.tuple [].toArray)) ∧
 (((Go.Value.tuple [].toArray) = (Go.Value.tuple [].toArray)) ∧
 (((Go.Value.tuple [].toArray) = (Go.Value.tuple [].toArray)) ∧
 (((Go.Value.tuple [].toArray) = (Go.Value.tuple [].toArray)) ∧
 (((Go.Value.tuple [].toArray) = (Go.Value.tuple [].toArray)) ∧
 (((Go.Value.tuple [].toArray) = (Go.Value.tuple [].toArray)) ∧
 (((Go.Value.tuple [].toArray) = (Go.Value.tuple [].toArray)) ∧
 (((Go.Value.tuple [].toArray) = (Go.Value.tuple [].toArray)) ∧
 (((Go.Value.tuple [].toArray) = (Go.Value.tuple [].toArray)) ∧
 (((Go.Value.tuple [].toArray) = (Go.Value.tuple [].toArray)) ∧
 (((Value.bool false) = (Value.bool false)) ∧
 (((Value.bool false) = (Value.bool false)) ∧
 (((Go.Value.tuple [].toArray) = (Go.Value.tuple [].toArray)) ∧
 (((Go.Value.tuple [].toArray) = (Go.Value.tuple [].toArray)) ∧
 (((Value.bool false) = (Value.bool false)) ∧
 (((Value.bool false) = (Value.bool false)) ∧
 ((bcase (if Bool.false = Bool.true then !(n1 == n8 && (n2 == n9 && Bool.true)) else n1 == n8 && (n2 == n9 && Bool.true))
 ((Value.bool true) = (Value.bool false))
 ((Value.bool false) = (Value.bool false))) ∧
 (((Go.Value.agg [(vI n1), (vI n2)].toArray) = (Go.Value.agg [(vI n1), (vI n2)].toArray)) ∧
 ((bcase (n3 == 0)
 ((Value.bool true) = (Value.bool true))
 ((Value.bool false) = (Value.bool true))) ∧
 (((vI n3) = (vI n3)) ∧
 True))))))))))))))))))))))) ∧
 (True ∧
 (k [(D.val (Value.bool false))]))))))))
 ((((Go.Value.tuple [].toArray) = (Go.Value.tuple [].toArray)) ∧
 (((Go.Value.tuple [].toArray) = (Go.Value.tuple [].toArray)) ∧
 (((Value.bool false) = (Value.bool false)) ∧
 ((bcase (n3 == 0)
 ((Value.bool true) = (Value.bool false))
 ((Value.bool false) = (Value.bool false))) ∧
 (((vI n3) = (vI n3)) ∧
 True))))) ∧
 ((((Value.bool false) = (Value.bool false)) ∧
 (((Go.Value.tuple [].toArray) = (Go.Value.tuple [].toArray)) ∧
 (((Go.Value.tuple [].toArray) = (Go.Value.tuple [].toArray)) ∧
 (((Go.Value.tuple [].toArray) = (Go.Value.tuple [].toArray)) ∧
 (((Go.Value.tuple [].toArray) = (Go.Value.tuple [].toArray)) ∧
 (((Go.Value.tuple [].toArray) = (Go.Value.tuple [].toArray)) ∧
 (((Go.Value.tuple [].toArray) = (Go.Value.tuple [].toArray)) ∧
 (((Go.Value.tuple [].toArray) = (Go.Value.tuple [].toArray)) ∧
 (((Go.Value.tuple [].toArray) = (Go.Value.tuple [].toArray)) ∧
 (((Go.Value.tuple [].toArray) = (Go.Value.tuple [].toArray)) ∧
 (((Go.Value.tuple [].toArray) = (Go.Value.tuple [].toArray)) ∧
 (((Go.Value.tuple [].toArray) = (Go.Value.tuple [].toArray)) ∧
 (((Go.Value.tuple [].toArray) = (Go.Value.tuple [].toArray)) ∧
 (((Value.bool false) = (Value.bool false)) ∧
 (((Value.bool false) = (Value.bool false)) ∧
 (((Go.Value.tuple [].toArray) = (Go.Value.tuple [].toArray)) ∧
 (((Go.Value.tuple [].toArray) = (Go.Value.tuple [].toArray)) ∧
 (((Value.bool false) = (Value.bool false)) ∧
 (((Value.bool false) = (Value.bool false)) ∧
 (((Go.Value.tuple [].toArray) = (Go.Value.tuple [].toArray)) ∧
 (((Go.Value.tuple [].toArray) = (Go.Value.tuple [].toArray)) ∧
 ((bcase (n3 == 0)
 ((Value.bool true) = (Value.bool false))
 ((Value.bool false) = (Value.bool false))) ∧
 (((vI n3) = (vI n3)) ∧
 True))))))))))))))))))))))) ∧
 (True ∧
 (k [(D.val (Value.bool false))])))))))))))))))))))))) ∨
 ((Says C 13 [D.nil] [(D.val (Value.bool false))]) ∧
 (k [(D.val (Value.bool true))])))) ∨
 ((Says C 12 [] [(D.val (Value.bool false))]) ∧
 (k [(D.val (Value.bool false))]))) := by kernel_rfl
end Go.Proofs.G5f

/- Chapter 7: FlatHeats, in data. -/
namespace Go.Proofs.G5f
open Go Go.Abs Go.Proofs Go.Proofs.G7
set_option maxRecDepth 100000
theorem v1le (l : List Int) : 0 + l.length * 1 ≤ (vi l).length := by simp
theorem conSh (l : List Int) : C5 13 [.sl l.length 1 (vi l)] [.val (.bool (decide (l.length ≤ 12)))] := by
  refine con_flat hok mixed Try.func13 rfl (by show 1 ≤ 400; omega) rfl (by kernel_rfl) (fun caps => ?_)
  show gSh _ _ l.length (caps 500) (vi l) _
  rw [gSh_text]
  refine bc_dec (fun h => ?_) (fun h => ?_)
  · show _ = _; rw [decide_eq_true (show l.length ≤ 12 by omega)]
  · show _ = _; rw [decide_eq_false (show ¬ l.length ≤ 12 by omega)]
theorem conShn : C5 13 [.nil] [.val (.bool true)] := by
  refine con_flat hok mixed Try.func13 rfl (by show 0 ≤ 400; omega) rfl (by kernel_rfl) (fun caps => ?_)
  show gShn _ _ _
  rw [gShn_text]
theorem saySt {l : List Int} (h : l.length ≤ 12) : Says C5 13 [.sl l.length 1 (vi l)] [.val (.bool true)] := by
  have := conSh l
  rw [decide_eq_true h] at this
  exact ⟨this⟩
theorem saySf {l : List Int} (h : ¬ l.length ≤ 12) : Says C5 13 [.sl l.length 1 (vi l)] [.val (.bool false)] := by
  have := conSh l
  rw [decide_eq_false h] at this
  exact ⟨this⟩
theorem sayIt {l m : List Int} (h : l = m) (hl : l.length < 1000000000) : Says C5 36 [.sl l.length 1 (vi l), .sl m.length 1 (vi m)] [.val (.bool true)] := by
  have := conIn l m hl
  rw [decide_eq_true h] at this
  exact ⟨this⟩
theorem conLh (t : List Int) (ar c b s : Int) : C5 10 [.sl t.length 1 (vi t), .agg [dI ar, dI c, dI b], dI s] [.val (.bool true)] := by
  refine con_flat hok mixed Try.func10 rfl (by show 1 ≤ 400; omega) rfl (by kernel_rfl) (fun caps => ?_)
  show gLh _ _ t.length (caps 500) (vi t) ar c b s _
  rw [gLh_text]
  refine .inl ⟨⟨conAw⟩, ?_⟩
  simp only [bc_t (v1le t), vi_whole, eq_self, true_and]
  by_cases h12 : t.length ≤ 12
  · refine .inl ⟨saySt h12, ⟨conCI t (by omega)⟩, ?_⟩
    have hb := conHB t ar c b s (by omega)
    have hr := conRH t ar c b s (by omega)
    by_cases he : htE t ar c b s = 0
    · rw [htP, if_pos he] at hb
      rw [he] at hr
      have hd := conHd (htE_ok.1 he)
      have e1 := vi_whole (heatsT ar c b s.toNat t)
      have e2 := v1le (heatsT ar c b s.toNat t)
      have e3 := sayIt (l := heatsT ar c b s.toNat t) rfl (by rw [heatsT_length]; omega)
      rw [heatsT_length] at e1 e2 e3
      refine .inr ⟨_, _, _, ⟨hb⟩, _, ⟨hr⟩, ?_⟩
      refine bc_bne (fun h => absurd rfl h) (fun _ => bc_beq (fun _ => ?_) (fun h => absurd rfl h))
      refine .inr ⟨_, _, ⟨hd⟩, ?_⟩
      simp only [bc_t e2, e1]
      exact .inl ⟨e3, by trivial⟩
    · rw [htP, if_neg he] at hb
      refine .inl ⟨_, ⟨hb⟩, _, ⟨hr⟩, ?_⟩
      exact bc_bne (fun _ => bc_beq (fun _ => by trivial) (fun h => absurd rfl h)) (fun h => absurd h he)
  · exact .inr ⟨saySf h12, by trivial⟩
theorem conLhn (ar c b s : Int) : C5 10 [.nil, .agg [dI ar, dI c, dI b], dI s] [.val (.bool true)] := by
  refine con_flat hok mixed Try.func10 rfl (by show 0 ≤ 400; omega) rfl (by kernel_rfl) (fun caps => ?_)
  show gLhn _ _ ar c b s _
  rw [gLhn_text]
  refine .inl ⟨⟨conAw⟩, .inl ⟨⟨conShn⟩, ?_⟩⟩
  have hb := conHB [] ar c b s (by simp)
  have he : htE [] ar c b s = 10 := htE_fst (by rfl) (by decide)
  rw [htP, he, if_neg (by decide)] at hb
  simp only [eq_self, true_and]
  refine ⟨⟨conCIn⟩, .inl ⟨_, ⟨hb⟩, _, ⟨conRHn ar c b s⟩, ?_⟩⟩
  exact bc_bne (fun _ => bc_beq (fun _ => by trivial) (fun h => absurd rfl h)) (fun h => absurd h (by decide))
end Go.Proofs.G5f

/- FlatHeats: whatever the input, it returns true, and the input reads as it did. No condition. -/
namespace Go.Proofs.Ytpjfmeijfkbfaaa.K
open Go Go.Abs Go.RowKit Go.ChangeShapes Go.WideShapes Go.ChangeAt Go.Proofs Go.Flat Go.Proofs.G5f
set_option maxRecDepth 100000
namespace FlatHeats
abbrev shs : List Sh := [.one 22, .agg [3, 3, 3], .one 3]
theorem shapes : Try.f10.params.toList.mapM (argSh Try.prog) = some shs := by kernel_rfl
theorem all (ds : List D) (h : ShDs Try.prog shs ds) : Con Try.prog 10 ds [.val (.bool true)] := by
  cases h with | cons h1 t => cases t with | cons h2 t => cases t with | cons h3 t =>
  cases t
  obtain ⟨d2, rfl, h2⟩ := h2
  cases h2 with | cons p1 t => cases t with | cons p2 t => cases t with | cons p3 t =>
  cases t
  obtain ⟨x1, rfl, _⟩ := leaf_int Try.underlying3 p1
  obtain ⟨x2, rfl, _⟩ := leaf_int Try.underlying3 p2
  obtain ⟨x3, rfl, _⟩ := leaf_int Try.underlying3 p3
  obtain ⟨x4, rfl, _⟩ := leaf_int Try.underlying3 h3
  rcases leaf_ints Try.underlying22 (by kernel_rfl) h1 with rfl | ⟨l, rfl⟩
  · exact conLhn x1 x2 x3 x4
  · exact conLh l x1 x2 x3 x4
theorem lifted (os : Os) (started : os.Started) (H : Type) (enc : TypeId × Value → H) :
    ReturnsInHanded {} Try.checked os 10 .any (Rows.flatHeatsSpec.pre6 enc Try.prog Try.f10 Rows.flatHeatsRow.domain false) (Rows.flatHeatsSpec.post enc Try.prog Try.f10 false true false false) := by
  refine returnsInHanded_of_change (C := Try.checked) own started (by kernel_rfl) Try.func10
    (ChangeSpec.witness6 (enc := enc) (C := Try.checked) false ⟨#[], #[.slice none 0 0, .agg #[.int .i64 0, .int .i64 0, .int .i64 0], .int .i64 0], []⟩ 8 (by kernel_rfl) (by kernel_rfl) (by kernel_rfl) (by kernel_rfl)) ?_
  intro W base args ds gs before hval hW _ _
  exact law_shapes (tb := 4) (s := Rows.flatHeatsSpec) shapes all laidP mapsP slicesP (tsP (by kernel_rfl)) rfl Try.underlying4 rfl (fun ds h => by
    match ds, h with
    | [_, _, _], _ => exact ⟨rfl, rfl, rfl⟩) hval hW
theorem holds : Rows.FlatHeatsSaid :=
  OpenClaim.holds_of_wide 10 Try.f10 rfl rfl rfl rfl rfl rfl rfl ⟨rfl, rfl, rfl, rfl, rfl⟩ rfl rfl rfl rfl rfl (by kernel_rfl) Try.func10 (by kernel_rfl)
    (of_decide_eq_true (by kernel_rfl)) (by unfold Func.isWrapper; first | (rw [if_pos (by decide +kernel)]; kernel_rfl) | (rw [if_neg (by decide +kernel)]; exact ⟨rfl, rfl⟩))
    (fun os started H enc _ => lifted os started H enc)
#print axioms holds
end FlatHeats
end Go.Proofs.Ytpjfmeijfkbfaaa.K

/- Chapter 7: profiles, in data. -/
namespace Go.Proofs.G5f
open Go Go.Abs Go.Proofs Go.Proofs.G7
set_option maxRecDepth 100000
abbrev Thk (l : List Int) : Prop := ∀ z ∈ l, 1 ≤ z ∧ z ≤ 100000
def prE (l : List Int) : Int := if l.length < 3 ∨ l.length % 2 = 0 then 10 else if l.length > 9 then 8 else if ∀ z ∈ l, 1 ≤ z ∧ z ≤ 100000 then 0 else 2
theorem prE_10 {l : List Int} (h : l.length < 3 ∨ l.length % 2 = 0) : prE l = 10 := if_pos h
theorem prE_8 {l : List Int} (h : ¬ (l.length < 3 ∨ l.length % 2 = 0)) (h2 : l.length > 9) : prE l = 8 := by rw [prE, if_neg h, if_pos h2]
theorem prE_r {l : List Int} (h : ¬ (l.length < 3 ∨ l.length % 2 = 0)) (h2 : ¬ l.length > 9) : prE l = if ∀ z ∈ l, 1 ≤ z ∧ z ≤ 100000 then 0 else 2 := by rw [prE, if_neg h, if_neg h2]
structure PV (l : List Int) : Prop where
  n : 3 ≤ l.length ∧ l.length ≤ 9 ∧ l.length % 2 = 1
  t : Thk l
theorem prE_ok {l : List Int} : prE l = 0 ↔ PV l := by
  constructor
  · intro h
    by_cases h1 : l.length < 3 ∨ l.length % 2 = 0
    · rw [prE_10 h1] at h; omega
    · by_cases h2 : l.length > 9
      · rw [prE_8 h1 h2] at h; omega
      · rw [prE_r h1 h2] at h
        exact ⟨by omega, (ite0 (by decide)).1 h⟩
  · intro h
    have := h.n
    rw [prE_r (by omega) (by omega), if_pos h.t]
theorem tmod2 (n : Nat) : Int.tmod (n : Int) 2 = ((n % 2 : Nat) : Int) := by rw [Int.tmod_eq_emod_of_nonneg (by omega)]; rfl
theorem tdiv2 (n : Nat) : Int.tdiv (n : Int) 2 = ((n / 2 : Nat) : Int) := by rw [Int.tdiv_eq_ediv_of_nonneg (by omega)]; rfl
theorem conCP (l : List Int) (hl : l.length ≤ 1000000) : C5 18 [.sl l.length 1 (vi l)] [dI (prE l)] := by
  refine con_flat hok mixed Try.func18 rfl (by show 1 ≤ 400; omega) rfl (by kernel_rfl) (fun caps => ?_)
  show gCP _ _ l.length (caps 500) (vi l) _
  rw [gCP_text, tmod2]
  refine bc_beq (fun h => ?_) (fun h => ?_)
  · show _ = _; rw [prE_10 (.inr (by omega))]
  · try simp only [eq_self, true_and]
    refine ⟨_, ⟨conCC _ _ _⟩, l, rfl, rfl, by omega, _, ⟨rfl⟩, _, ⟨conFE [cntE l.length 3 9, witE 1 100000 2 (vi l)] (by simp)⟩, ?_⟩
    rw [fst0_two, witE_all]
    have : (if cntE l.length 3 9 = 0 then (if ∀ z ∈ l, 1 ≤ z ∧ z ≤ 100000 then (0 : Int) else 2) else cntE l.length 3 9) = prE l := by
      by_cases h1 : l.length < 3
      · have e : cntE l.length 3 9 = 10 := by rw [cntE, if_pos (by omega)]
        rw [e, prE_10 (.inl h1), if_neg (by decide)]
      · by_cases h2 : l.length > 9
        · have e : cntE l.length 3 9 = 8 := by rw [cntE, if_neg (by omega), if_pos (by omega)]
          rw [e, prE_8 (by omega) h2, if_neg (by decide)]
        · have e : cntE l.length 3 9 = 0 := by rw [cntE, if_neg (by omega), if_neg (by omega)]
          rw [e, prE_r (by omega) h2, if_pos rfl]
    first | (show _ = _; rw [this]) | (rw [this]; try trivial)
theorem conRPn : C5 17 [.nil] [dI 10] := by
  refine con_of (L := fun _ _ _ => False) hok mixed Try.func17 rfl (by show 0 ≤ 400; omega) rfl (ids := [0]) (by kernel_rfl) rfl (fun caps => ?_) (fun id hid => ?_)
  · show gRPn _ _ _
    rw [gRPn_text]
  · obtain rfl := List.mem_singleton.1 hid
    exact ⟨Nat, fun _ => ([], []), fun _ => False, fun _ => 0, ⟨fun s b h => h.elim, by kernel_rfl, fun j hj => hj.elim⟩⟩
theorem conRP (l : List Int) (hl : l.length ≤ 1000000) : C5 17 [.sl l.length 1 (vi l)] [dI (prE l)] := by
  let inv : Nat × Nat → Prop := fun x => x.1 ≤ l.length ∧ ¬ (l.length < 3 ∨ l.length % 2 = 0) ∧ ¬ l.length > 9 ∧ (Thk l ↔ ∀ z ∈ l.drop x.1, 1 ≤ z ∧ z ≤ 100000)
  let st : Nat × Nat → Slots × Blocks := fun x => zRP1 l.length x.2 x.1 (vi l)
  refine con_of (L := fun _ s b => ∃ x, inv x ∧ st x = (s, b)) hok mixed Try.func17 rfl (by show 1 ≤ 400; omega) rfl (ids := [0]) (by kernel_rfl) rfl (fun caps => ?_) (fun id hid => ?_)
  · show gRP _ _ l.length (caps 500) (vi l) _
    rw [gRP_text, tmod2]
    refine bc_dec (fun h => ?_) (fun h => bc_beq (fun h2 => ?_) (fun h2 => bc_dec (fun h3 => ?_) (fun h3 => ?_)))
    · show _ = _; rw [prE_10 (.inl (by omega))]
    · show _ = _; rw [prE_10 (.inr (by omega))]
    · show _ = _; rw [prE_8 (by omega) (by omega)]
    · exact ⟨(0, caps 500), ⟨Nat.zero_le _, by omega, by omega, Iff.rfl⟩, rfl⟩
  · obtain rfl := List.mem_singleton.1 hid
    refine ⟨Nat × Nat, st, inv, fun x => l.length - x.1, ⟨fun s b h => h, by kernel_rfl, ?_⟩⟩
    rintro ⟨i, cap⟩ ⟨hi, h1, h2, hr⟩
    simp only at hi hr
    show rRP1 _ _ l.length cap i (vi l) _ _ _
    rw [rRP1_text]
    refine bc_dec (fun h => ?_) (fun h => ?_)
    · have hi' : i < l.length := by omega
      simp only [bc_t h, bc_t (show (0 : Int) ≤ (i : Int) by omega), Int.toNat_natCast, at1 (vi_at l i hi')]
      rw [List.drop_eq_getElem_cons hi', List.forall_mem_cons (p := fun z => 1 ≤ z ∧ z ≤ 100000)] at hr
      by_cases hx : 1 ≤ l[i] ∧ l[i] ≤ 100000
      · refine .inl ⟨sayWt hx, (i + 1, cap), ⟨hi', h1, h2, hr.trans ⟨fun h => h.2, fun h => ⟨hx, h⟩⟩⟩, by show l.length - (i + 1) < l.length - i; omega, ?_⟩
        rw [w64 (by omega) (by omega)]; rfl
      · refine .inr ⟨sayWf hx, ?_⟩
        show [dI 2] = [dI _]
        rw [prE_r h1 h2, if_neg (fun hh => hx (hr.1 hh).1)]
    · show (if 0 = 0 then _ else _)
      rw [if_pos rfl]
      show nRP2 _ _ _
      rw [nRP2_text]
      show [dI 0] = [dI _]
      rw [prE_r h1 h2, if_pos (hr.2 (by rw [List.drop_eq_nil_of_le (by omega)]; intro z hz; cases hz))]
/-- twice the crown, and the wedge -/
def cw2 (l : List Int) : Int := 2 * gt l (l.length / 2) - gt l 0 - gt l (l.length - 1)
def wdg (l : List Int) : Int := gt l 0 - gt l (l.length - 1)
theorem pv_gt {l : List Int} (h : PV l) (i : Nat) : 0 ≤ gt l i ∧ gt l i ≤ 100000 := by
  by_cases hi : i < l.length
  · have := gt_mem (p := fun z => 1 ≤ z ∧ z ≤ 100000) h.t hi
    omega
  · rw [gt_out (by omega)]; omega
structure Ld (l : List Int) : Prop where
  w1 : IntKind.wrap .i64 ((l.length / 2 : Nat) : Int) = ((l.length / 2 : Nat) : Int)
  w2 : IntKind.wrap .i64 ((l.length : Int) - 1) = ((l.length - 1 : Nat) : Int)
  w3 : IntKind.wrap .i64 (IntKind.wrap .i64 (IntKind.wrap .i64 (2 * gt l (l.length / 2)) - gt l 0) - gt l (l.length - 1)) = cw2 l
  w4 : IntKind.wrap .i64 (gt l 0 - gt l (l.length - 1)) = wdg l
  b : -200000 ≤ cw2 l ∧ cw2 l ≤ 200000
  a0 : At (vi l) 0 1 [vI (gt l 0)]
  a1 : At (vi l) (0 + (l.length / 2) * 1) 1 [vI (gt l (l.length / 2))]
  a2 : At (vi l) (0 + (l.length - 1) * 1) 1 [vI (gt l (l.length - 1))]
theorem ld_of {l : List Int} (h : PV l) : Ld l := by
  have hn := h.n
  have g0 := pv_gt h 0
  have g1 := pv_gt h (l.length / 2)
  have g2 := pv_gt h (l.length - 1)
  refine ⟨w64 (by omega) (by omega), ?_, ?_, ?_, ?_, ?_, at_gt (by omega), at_gt (by omega)⟩
  · rw [w64 (by omega) (by omega)]; omega
  · rw [w64 (z := 2 * gt l (l.length / 2)) (by omega) (by omega), w64 (z := 2 * gt l (l.length / 2) - gt l 0) (by omega) (by omega), w64 (by omega) (by omega)]; rfl
  · rw [w64 (by omega) (by omega)]; rfl
  · unfold cw2; omega
  · have := at_gt (u := l) (i := 0) (by omega)
    rw [Nat.zero_mul, Nat.add_zero] at this; exact this
abbrev dF (p : Int × Int) : D := .agg [dI p.1, dI p.2]
def crP (l : List Int) : List D := if prE l = 0 then [dF (low (cw2 l) 2), dI 0] else [dF (0, 0), dI (prE l)]
def weP (l : List Int) : List D := if prE l = 0 then [dI (wdg l), dI 0] else [dI 0, dI (prE l)]
theorem conCr (l : List Int) (hl : l.length ≤ 1000000) : C5 14 [.sl l.length 1 (vi l)] (crP l) := by
  refine con_flat hok mixed Try.func14 rfl (by show 1 ≤ 400; omega) rfl (by kernel_rfl) (fun caps => ?_)
  show gCr _ _ l.length (caps 500) (vi l) _
  rw [gCr_text]
  try simp only [bc_t (v1le l), vi_whole, tdiv2]
  refine ⟨_, ⟨conCP l hl⟩, bc_bne (fun h => ?_) (fun h => ?_)⟩
  · show _ = _; rw [crP, if_neg h]
  · have hv := prE_ok.1 h
    have ld := ld_of hv
    have hn := hv.n
    simp only [ld.w1, ld.w2, ld.w3, Int.toNat_natCast, bc_t (show (0 : Int) ≤ ((l.length / 2 : Nat) : Int) by omega), bc_t (show ((l.length / 2 : Nat) : Int) < (l.length : Int) by omega), bc_t (show (0 : Int) < (l.length : Int) by omega), bc_t (show (0 : Int) ≤ ((l.length - 1 : Nat) : Int) by omega), bc_t (show ((l.length - 1 : Nat) : Int) < (l.length : Int) by omega), at1 ld.a0, at1 ld.a1, at1 ld.a2, eq_self, true_and]
    have hb := ld.b
    refine ⟨_, _, ⟨conLT (cw2 l) 2 (by omega) (by omega) (by omega)⟩, ?_⟩
    show _ = _
    rw [crP, if_pos h]
theorem conWe (l : List Int) (hl : l.length ≤ 1000000) : C5 16 [.sl l.length 1 (vi l)] (weP l) := by
  refine con_flat hok mixed Try.func16 rfl (by show 1 ≤ 400; omega) rfl (by kernel_rfl) (fun caps => ?_)
  show gWe _ _ l.length (caps 500) (vi l) _
  rw [gWe_text]
  simp only [bc_t (v1le l), vi_whole]
  refine ⟨_, ⟨conCP l hl⟩, bc_bne (fun h => ?_) (fun h => ?_)⟩
  · show _ = _; rw [weP, if_neg h]
  · have hv := prE_ok.1 h
    have ld := ld_of hv
    have hn := hv.n
    simp only [ld.w2, ld.w4, Int.toNat_natCast, bc_t (show (0 : Int) < (l.length : Int) by omega), bc_t (show (0 : Int) ≤ ((l.length - 1 : Nat) : Int) by omega), bc_t (show ((l.length - 1 : Nat) : Int) < (l.length : Int) by omega), at1 ld.a0, at1 ld.a2, eq_self, true_and]
    show _ = _
    rw [weP, if_pos h]
theorem conRCr {l : List Int} (hv : PV l) : C5 19 [.sl l.length 1 (vi l)] [dF (low (cw2 l) 2)] := by
  refine con_flat hok mixed Try.func19 rfl (by show 1 ≤ 400; omega) rfl (by kernel_rfl) (fun caps => ?_)
  show gRC _ _ l.length (caps 500) (vi l) _
  have ld := ld_of hv
  have hn := hv.n
  have hb := ld.b
  rw [gRC_text, tdiv2]
  simp only [ld.w1, ld.w2, ld.w3, Int.toNat_natCast, bc_t (show (0 : Int) ≤ ((l.length / 2 : Nat) : Int) by omega), bc_t (show ((l.length / 2 : Nat) : Int) < (l.length : Int) by omega), bc_t (show (0 : Int) < (l.length : Int) by omega), bc_t (show (0 : Int) ≤ ((l.length - 1 : Nat) : Int) by omega), bc_t (show ((l.length - 1 : Nat) : Int) < (l.length : Int) by omega), at1 ld.a0, at1 ld.a1, at1 ld.a2, eq_self, true_and]
  exact ⟨_, _, ⟨conLo (cw2 l) 2 (by omega) (by omega) (by omega)⟩, by trivial⟩
theorem conLp (l : List Int) : C5 3 [.sl l.length 1 (vi l)] [.val (.bool true)] := by
  refine con_flat hok mixed Try.func3 rfl (by show 1 ≤ 400; omega) rfl (by kernel_rfl) (fun caps => ?_)
  show gLp _ _ l.length (caps 500) (vi l) _
  rw [gLp_text]
  refine .inl ⟨⟨conAw⟩, ?_⟩
  by_cases h12 : l.length ≤ 12
  · have hc := conCr l (by omega)
    have hw := conWe l (by omega)
    have hp := conRP l (by omega)
    have hq := conCP l (by omega)
    by_cases he : prE l = 0
    · have hv := prE_ok.1 he
      have ld := ld_of hv
      have hn := hv.n
      rw [crP, if_pos he] at hc
      rw [weP, if_pos he] at hw
      rw [he] at hp hq
      simp only [bc_t (v1le l), vi_whole, ld.w2, ld.w4, Int.toNat_natCast, bc_t (show (0 : Int) < (l.length : Int) by omega), bc_t (show (0 : Int) ≤ ((l.length - 1 : Nat) : Int) by omega), bc_t (show ((l.length - 1 : Nat) : Int) < (l.length : Int) by omega), at1 ld.a0, at1 ld.a2, eq_self, true_and]
      refine .inl ⟨saySt h12, ⟨conCI l (by omega)⟩, _, _, _, ⟨hc⟩, ⟨conCI l (by omega)⟩, _, _, ⟨hw⟩, _, ⟨hp⟩, ⟨conCI l (by omega)⟩, _, ⟨hq⟩, ?_⟩
      have hcr := conRCr hv
      simp [bcase]
      exact ⟨_, _, ⟨hcr⟩, by simp⟩
    · rw [crP, if_neg he] at hc
      rw [weP, if_neg he] at hw
      simp only [bc_t (v1le l), vi_whole, eq_self, true_and]
      refine .inl ⟨saySt h12, ⟨conCI l (by omega)⟩, _, _, _, ⟨hc⟩, ⟨conCI l (by omega)⟩, _, _, ⟨hw⟩, _, ⟨hp⟩, ⟨conCI l (by omega)⟩, _, ⟨hq⟩, ?_⟩
      have hb : (prE l != 0) = true := by simpa using he
      simp [bcase, hb]
  · simp only [bc_t (v1le l), vi_whole, eq_self, true_and]
    exact .inr ⟨saySf h12, by trivial⟩
theorem conLpn : C5 3 [.nil] [.val (.bool true)] := by
  refine con_flat hok mixed Try.func3 rfl (by show 0 ≤ 400; omega) rfl (by kernel_rfl) (fun caps => ?_)
  show gLpn _ _ _
  rw [gLpn_text]
  have hc := conCr [] (by simp)
  have hw := conWe [] (by simp)
  have hq := conCP [] (by simp)
  have he : prE [] = 10 := prE_10 (.inl (by simp))
  rw [crP, he, if_neg (by decide)] at hc
  rw [weP, he, if_neg (by decide)] at hw
  rw [he] at hq
  refine .inl ⟨⟨conAw⟩, .inl ⟨⟨conShn⟩, ?_⟩⟩
  simp only [eq_self, true_and]
  refine ⟨⟨conCIn⟩, _, _, _, ⟨hc⟩, ⟨conCIn⟩, _, _, ⟨hw⟩, _, ⟨conRPn⟩, ⟨conCIn⟩, _, ⟨hq⟩, ?_⟩
  simp [bcase]
end Go.Proofs.G5f

/- FlatProfiles: whatever the input, it returns true, and the input reads as it did. No condition. -/
namespace Go.Proofs.Ytpjfmeijfkbfaaa.K
open Go Go.Abs Go.RowKit Go.ChangeShapes Go.WideShapes Go.ChangeAt Go.Proofs Go.Flat Go.Proofs.G5f
set_option maxRecDepth 100000
namespace FlatProfiles
abbrev shs : List Sh := [.one 22]
theorem shapes : Try.f3.params.toList.mapM (argSh Try.prog) = some shs := by kernel_rfl
theorem all (ds : List D) (h : ShDs Try.prog shs ds) : Con Try.prog 3 ds [.val (.bool true)] := by
  cases h with | cons h1 t =>
  cases t
  rcases leaf_ints Try.underlying22 (by kernel_rfl) h1 with rfl | ⟨l, rfl⟩
  · exact conLpn
  · exact conLp l
theorem lifted (os : Os) (started : os.Started) (H : Type) (enc : TypeId × Value → H) :
    ReturnsInHanded {} Try.checked os 3 .any (Rows.flatProfilesSpec.pre6 enc Try.prog Try.f3 Rows.flatProfilesRow.domain false) (Rows.flatProfilesSpec.post enc Try.prog Try.f3 false true false false) := by
  refine returnsInHanded_of_change (C := Try.checked) own started (by kernel_rfl) Try.func3
    (ChangeSpec.witness6 (enc := enc) (C := Try.checked) false ⟨#[], #[.slice none 0 0], []⟩ 8 (by kernel_rfl) (by kernel_rfl) (by kernel_rfl) (by kernel_rfl)) ?_
  intro W base args ds gs before hval hW _ _
  exact law_shapes (tb := 4) (s := Rows.flatProfilesSpec) shapes all laidP mapsP slicesP (tsP (by kernel_rfl)) rfl Try.underlying4 rfl (fun ds h => by
    match ds, h with
    | [_], _ => exact ⟨rfl, rfl, rfl⟩) hval hW
theorem holds : Rows.FlatProfilesSaid :=
  OpenClaim.holds_of_wide 3 Try.f3 rfl rfl rfl rfl rfl rfl rfl ⟨rfl, rfl, rfl, rfl, rfl⟩ rfl rfl rfl rfl rfl (by kernel_rfl) Try.func3 (by kernel_rfl)
    (of_decide_eq_true (by kernel_rfl)) (by unfold Func.isWrapper; first | (rw [if_pos (by decide +kernel)]; kernel_rfl) | (rw [if_neg (by decide +kernel)]; exact ⟨rfl, rfl⟩))
    (fun os started H enc _ => lifted os started H enc)
#print axioms holds
end FlatProfiles
end Go.Proofs.Ytpjfmeijfkbfaaa.K

/- What is left to show of each function, written out; the kernel reckons it. -/
namespace Go.Proofs.G5f
open Go Go.Abs Go.Proofs
set_option maxRecDepth 100000
set_option linter.unusedVariables false
def gLb (C : Ct) (L : AtLoop) (n0 : Nat) (c0 : Nat) (l0 : List Value) (x1 : Int) (x2 : Int) (x3 : Int) (x4 : Int) (x5 : Int) (x6 : Int) (k : List D → Prop) : Prop := wpFn Try.prog (hF7 C) L 0 11 #[.slice (some ⟨500, 0, none⟩) n0 c0, .agg #[.int .i64 x1, .int .i64 x2, .int .i64 x3], .agg #[.int .i64 x4, .int .i64 x5, .int .i64 x6]] (heapOf [(500, .sym l0 false 1)]) (dataK k)
theorem gLb_text (C : Ct) (L : AtLoop) (n0 : Nat) (c0 : Nat) (l0 : List Go.Value) (x1 : Int) (x2 : Int) (x3 : Int) (x4 : Int) (x5 : Int) (x6 : Int) (k : List D → Prop) : gLb C L n0 c0 l0 x1 x2 x3 x4 x5 x6 k =
 (((Says C 12 [] [(D.val (Value.bool true))]) ∧
 (bcase (decide (0 + n0 * 1 ≤ List.length l0))
 (∃ n1 : Int,
 ((Says C 60 [(D.sl (n0) 1 (List.take (n0 * 1) (List.drop 0 l0))), (D.agg [(D.val (vI x1)), (D.val (vI x2)), (D.val (vI x3))]), (D.val (vI (0 : Int)))] [(D.val (vI n1))]) ∧
 (bcase (n1 != 0)
 (k [(D.val (Value.bool true))])
 (((Says C 23 [(D.val (vI x4)), (D.val (vI (0 : Int))), (D.val (vI (100 : Int)))] [(D.val (Value.bool true))]) ∧
 (((Says C 23 [(D.val (vI x5)), (D.val (vI (0 : Int))), (D.val (vI (100 : Int)))] [(D.val (Value.bool true))]) ∧
 (((Says C 23 [(D.val (vI x6)), (D.val (vI (0 : Int))), (D.val (vI (1000 : Int)))] [(D.val (Value.bool true))]) ∧
 ((((vI x4) = (vI x4)) ∧
 (((Go.Value.pointer (Option.some (Go.Addr.mk 1001 0 Option.none))) = (Go.Value.pointer (Option.some (Go.Addr.mk 1001 0 Option.none)))) ∧
 (((Go.Value.agg [(vI x1), (vI x2), (vI x3)].toArray) = (Go.Value.agg [(vI x1), (vI x2), (vI x3)].toArray)) ∧
 (((Go.Value.slice (Option.some (Go.Addr.mk 500 0 Option.none)) (n0) (c0)) = (Go.Value.slice (Option.some (Go.Addr.mk 500 0 Option.none)) (n0) (c0))) ∧
 True)))) ∧
 (bcase (decide (0 + n0 * 1 ≤ List.length l0))
 ((Says C 15 [(D.sl (n0) 1 (List.take (n0 * 1) (List.drop 0 l0)))] [(D.sl (n0) 1 (List.take (n0 * 1) (List.drop 0 l0)))]) ∧
 ((((vI x4) = (vI x4)) ∧
 (((Go.Value.pointer (Option.some (Go.Addr.mk 1001 0 Option.none))) = (Go.Value.pointer (Option.some (Go.Addr.mk 1001 0 Option.none)))) ∧
 (((Go.Value.agg [(vI x1), (vI x2), (vI x3)].toArray) = (Go.Value.agg [(vI x1), (vI x2), (vI x3)].toArray)) ∧
 True))) ∧
 (bcase (decide (0 + n0 * 1 ≤ List.length (List.take (n0 * 1) (List.drop 0 l0))))
 ((∃ n2 : Int,
 ((Says C 59 [(D.sl (n0) 1 (List.take (n0 * 1) (List.drop 0 (List.take (n0 * 1) (List.drop 0 l0))))), (D.agg [(D.val (vI x1)), (D.val (vI x2)), (D.val (vI x3))]), (D.val (vI x4))] [D.nil, (D.val (vI n2))]) ∧
 ((((vI n2) = (vI n2)) ∧
 (((Go.Value.slice Option.none 0 0) = (Go.Value.slice Option.none 0 0)) ∧
 (((Go.Value.tuple [(Go.Value.slice Option.none 0 0), (vI n2)].toArray) = (Go.Value.tuple [(Go.Value.slice Option.none 0 0), (vI n2)].toArray)) ∧
 (((Go.Value.pointer (Option.some (Go.Addr.mk 1001 0 Option.none))) = (Go.Value.pointer (Option.some (Go.Addr.mk 1001 0 Option.none)))) ∧
 True)))) ∧
 ((((vI n2) = (vI n2)) ∧
 True) ∧
 (True ∧
 ((((vI (IntKind.wrap .i64 (x4 + x5))) = (vI (IntKind.wrap .i64 (x4 + x5)))) ∧
 (((vI x5) = (vI x5)) ∧
 (((Go.Value.pointer (Option.some (Go.Addr.mk 1001 1 Option.none))) = (Go.Value.pointer (Option.some (Go.Addr.mk 1001 1 Option.none)))) ∧
 (((vI x4) = (vI x4)) ∧
 (((Go.Value.pointer (Option.some (Go.Addr.mk 1001 0 Option.none))) = (Go.Value.pointer (Option.some (Go.Addr.mk 1001 0 Option.none)))) ∧
 (((Go.Value.agg [(vI x1), (vI x2), (vI x3)].toArray) = (Go.Value.agg [(vI x1), (vI x2), (vI x3)].toArray)) ∧
 (((Go.Value.slice (Option.some (Go.Addr.mk 500 0 Option.none)) (n0) (c0)) = (Go.Value.slice (Option.some (Go.Addr.mk 500 0 Option.none)) (n0) (c0))) ∧
 True))))))) ∧
 (bcase (decide (0 + n0 * 1 ≤ List.length l0))
 ((Says C 15 [(D.sl (n0) 1 (List.take (n0 * 1) (List.drop 0 l0)))] [(D.sl (n0) 1 (List.take (n0 * 1) (List.drop 0 l0)))]) ∧
 ((((vI (IntKind.wrap .i64 (x4 + x5))) = (vI (IntKind.wrap .i64 (x4 + x5)))) ∧
 (((vI x5) = (vI x5)) ∧
 (((Go.Value.pointer (Option.some (Go.Addr.mk 1001 1 Option.none))) = (Go.Value.pointer (Option.some (Go.Addr.mk 1001 1 Option.none)))) ∧
 (((vI x4) = (vI x4)) ∧
 (((Go.Value.pointer (Option.some (Go.Addr.mk 1001 0 Option.none))) = (Go.Value.pointer (Option.some (Go.Addr.mk 1001 0 Option.none)))) ∧
 (((Go.Value.agg [(vI x1), (vI x2), (vI x3)].toArray) = (Go.Value.agg [(vI x1), (vI x2), (vI x3)].toArray)) ∧
 True)))))) ∧
 (bcase (decide (0 + n0 * 1 ≤ List.length (List.take (n0 * 1) (List.drop 0 l0))))
 ((∃ n3 : Int,
 ((Says C 59 [(D.sl (n0) 1 (List.take (n0 * 1) (List.drop 0 (List.take (n0 * 1) (List.drop 0 l0))))), (D.agg [(D.val (vI x1)), (D.val (vI x2)), (D.val (vI x3))]), (D.val (vI (IntKind.wrap .i64 (x4 + x5))))] [D.nil, (D.val (vI n3))]) ∧
 ((((vI n3) = (vI n3)) ∧
 (((Go.Value.slice Option.none 0 0) = (Go.Value.slice Option.none 0 0)) ∧
 (((Go.Value.tuple [(Go.Value.slice Option.none 0 0), (vI n3)].toArray) = (Go.Value.tuple [(Go.Value.slice Option.none 0 0), (vI n3)].toArray)) ∧
 (((vI x5) = (vI x5)) ∧
 (((Go.Value.pointer (Option.some (Go.Addr.mk 1001 1 Option.none))) = (Go.Value.pointer (Option.some (Go.Addr.mk 1001 1 Option.none)))) ∧
 (((vI x4) = (vI x4)) ∧
 (((Go.Value.pointer (Option.some (Go.Addr.mk 1001 0 Option.none))) = (Go.Value.pointer (Option.some (Go.Addr.mk 1001 0 Option.none)))) ∧
 True))))))) ∧
 ((((vI n3) = (vI n3)) ∧
 True) ∧
 (True ∧
 (bcase (n2 != 0)
 (k [(D.val (Value.bool false))])
 (bcase (n3 != 0)
 (k [(D.val (Value.bool false))])
 (bcase ((↑0 : Int) != (↑n0 : Int))
 (k [(D.val (Value.bool false))])
 (bcase ((↑0 : Int) != (↑n0 : Int))
 (k [(D.val (Value.bool false))])
 ((((vI x1) = (vI x1)) ∧
 (((Go.Value.pointer (Option.some (Go.Addr.mk 1000 0 Option.none))) = (Go.Value.pointer (Option.some (Go.Addr.mk 1000 0 Option.none)))) ∧
 (((vI x1) = (vI x1)) ∧
 (((Go.Value.pointer (Option.some (Go.Addr.mk 1000 0 Option.none))) = (Go.Value.pointer (Option.some (Go.Addr.mk 1000 0 Option.none)))) ∧
 True)))) ∧
 ((((vI x1) = (vI x1)) ∧
 (((Go.Value.pointer (Option.some (Go.Addr.mk 1000 0 Option.none))) = (Go.Value.pointer (Option.some (Go.Addr.mk 1000 0 Option.none)))) ∧
 True)) ∧
 (True ∧
 (L 0 [(Prod.mk 0 (Go.Value.slice (Option.some (Go.Addr.mk 500 0 Option.none)) (n0) (c0))), (Prod.mk 4 (Go.Value.pointer (Option.some (Go.Addr.mk 1000 0 Option.none)))), (Prod.mk 5 (Go.Value.pointer (Option.some (Go.Addr.mk 1001 0 Option.none)))), (Prod.mk 7 (Go.Value.slice Option.none 0 0)), (Prod.mk 9 (Go.Value.slice Option.none 0 0)), (Prod.mk 11 (vI x1)), (Prod.mk 12 (vI x1)), (Prod.mk 13 (Go.Value.slice Option.none 0 0)), (Prod.mk 14 (vI (0 : Int)))] [(Prod.mk 500 (AObj.sym (l0) false 1)), (Prod.mk 1000 (AObj.cells [(vI x1), (vI x2), (vI x3)] 101 false 1)), (Prod.mk 1001 (AObj.cells [(vI x4), (vI x5), (vI x6)] 106 false 1))]))))))))))))) ∨
 (∃ n3 : Nat,
 (∃ cs1 : List Go.Value,
 (∃ n4 : Int,
 ((Says C 59 [(D.sl (n0) 1 (List.take (n0 * 1) (List.drop 0 (List.take (n0 * 1) (List.drop 0 l0))))), (D.agg [(D.val (vI x1)), (D.val (vI x2)), (D.val (vI x3))]), (D.val (vI (IntKind.wrap .i64 (x4 + x5))))] [(D.sl (n3) 1 (cs1)), (D.val (vI n4))]) ∧
 ((((vI n4) = (vI n4)) ∧
 (((Go.Value.slice (Option.some (Go.Addr.mk 1004 0 Option.none)) (n3) (n3)) = (Go.Value.slice (Option.some (Go.Addr.mk 1004 0 Option.none)) (n3) (n3))) ∧
 (((Go.Value.tuple [(Go.Value.slice (Option.some (Go.Addr.mk 1004 0 Option.none)) (n3) (n3)), (vI n4)].toArray) = (Go.Value.tuple [(Go.Value.slice (Option.some (Go.Addr.mk 1004 0 Option.none)) (n3) (n3)), (vI n4)].toArray)) ∧
 (((vI x5) = (vI x5)) ∧
 (((Go.Value.pointer (Option.some (Go.Addr.mk 1001 1 Option.none))) = (Go.Value.pointer (Option.some (Go.Addr.mk 1001 1 Option.none)))) ∧
 (((vI x4) = (vI x4)) ∧
 (((Go.Value.pointer (Option.some (Go.Addr.mk 1001 0 Option.none))) = (Go.Value.pointer (Option.some (Go.Addr.mk 1001 0 Option.none)))) ∧
 True))))))) ∧
 ((((vI n4) = (vI n4)) ∧
 True) ∧
 (True ∧
 (bcase (n2 != 0)
 (k [(D.val (Value.bool false))])
 (bcase (n4 != 0)
 (k [(D.val (Value.bool false))])
 (bcase ((↑0 : Int) != (↑n0 : Int))
 (k [(D.val (Value.bool false))])
 (bcase ((↑n3 : Int) != (↑n0 : Int))
 (k [(D.val (Value.bool false))])
 ((((vI x1) = (vI x1)) ∧
 (((Go.Value.pointer (Option.some (Go.Addr.mk 1000 0 Option.none))) = (Go.Value.pointer (Option.some (Go.Addr.mk 1000 0 Option.none)))) ∧
 (((vI x1) = (vI x1)) ∧
 (((Go.Value.pointer (Option.some (Go.Addr.mk 1000 0 Option.none))) = (Go.Value.pointer (Option.some (Go.Addr.mk 1000 0 Option.none)))) ∧
 True)))) ∧
 ((((vI x1) = (vI x1)) ∧
 (((Go.Value.pointer (Option.some (Go.Addr.mk 1000 0 Option.none))) = (Go.Value.pointer (Option.some (Go.Addr.mk 1000 0 Option.none)))) ∧
 True)) ∧
 (True ∧
 (L 0 [(Prod.mk 0 (Go.Value.slice (Option.some (Go.Addr.mk 500 0 Option.none)) (n0) (c0))), (Prod.mk 4 (Go.Value.pointer (Option.some (Go.Addr.mk 1000 0 Option.none)))), (Prod.mk 5 (Go.Value.pointer (Option.some (Go.Addr.mk 1001 0 Option.none)))), (Prod.mk 7 (Go.Value.slice Option.none 0 0)), (Prod.mk 9 (Go.Value.slice (Option.some (Go.Addr.mk 1002 0 Option.none)) (n3) (n3))), (Prod.mk 11 (vI x1)), (Prod.mk 12 (vI x1)), (Prod.mk 13 (Go.Value.slice Option.none 0 0)), (Prod.mk 14 (vI (0 : Int)))] [(Prod.mk 500 (AObj.sym (l0) false 1)), (Prod.mk 1000 (AObj.cells [(vI x1), (vI x2), (vI x3)] 101 false 1)), (Prod.mk 1001 (AObj.cells [(vI x4), (vI x5), (vI x6)] 106 false 1)), (Prod.mk 1002 (AObj.sym (cs1) true 1))]))))))))))))))))
 False)))
 False))))))) ∨
 (∃ n2 : Nat,
 (∃ cs1 : List Go.Value,
 (∃ n3 : Int,
 ((Says C 59 [(D.sl (n0) 1 (List.take (n0 * 1) (List.drop 0 (List.take (n0 * 1) (List.drop 0 l0))))), (D.agg [(D.val (vI x1)), (D.val (vI x2)), (D.val (vI x3))]), (D.val (vI x4))] [(D.sl (n2) 1 (cs1)), (D.val (vI n3))]) ∧
 ((((vI n3) = (vI n3)) ∧
 (((Go.Value.slice (Option.some (Go.Addr.mk 1003 0 Option.none)) (n2) (n2)) = (Go.Value.slice (Option.some (Go.Addr.mk 1003 0 Option.none)) (n2) (n2))) ∧
 (((Go.Value.tuple [(Go.Value.slice (Option.some (Go.Addr.mk 1003 0 Option.none)) (n2) (n2)), (vI n3)].toArray) = (Go.Value.tuple [(Go.Value.slice (Option.some (Go.Addr.mk 1003 0 Option.none)) (n2) (n2)), (vI n3)].toArray)) ∧
 (((Go.Value.pointer (Option.some (Go.Addr.mk 1001 0 Option.none))) = (Go.Value.pointer (Option.some (Go.Addr.mk 1001 0 Option.none)))) ∧
 True)))) ∧
 ((((vI n3) = (vI n3)) ∧
 True) ∧
 (True ∧
 ((((vI (IntKind.wrap .i64 (x4 + x5))) = (vI (IntKind.wrap .i64 (x4 + x5)))) ∧
 (((vI x5) = (vI x5)) ∧
 (((Go.Value.pointer (Option.some (Go.Addr.mk 1001 1 Option.none))) = (Go.Value.pointer (Option.some (Go.Addr.mk 1001 1 Option.none)))) ∧
 (((vI x4) = (vI x4)) ∧
 (((Go.Value.pointer (Option.some (Go.Addr.mk 1001 0 Option.none))) = (Go.Value.pointer (Option.some (Go.Addr.mk 1001 0 Option.none)))) ∧
 (((Go.Value.agg [(vI x1), (vI x2), (vI x3)].toArray) = (Go.Value.agg [(vI x1), (vI x2), (vI x3)].toArray)) ∧
 (((Go.Value.slice (Option.some (Go.Addr.mk 500 0 Option.none)) (n0) (c0)) = (Go.Value.slice (Option.some (Go.Addr.mk 500 0 Option.none)) (n0) (c0))) ∧
 True))))))) ∧
 (bcase (decide (0 + n0 * 1 ≤ List.length l0))
 ((Says C 15 [(D.sl (n0) 1 (List.take (n0 * 1) (List.drop 0 l0)))] [(D.sl (n0) 1 (List.take (n0 * 1) (List.drop 0 l0)))]) ∧
 ((((vI (IntKind.wrap .i64 (x4 + x5))) = (vI (IntKind.wrap .i64 (x4 + x5)))) ∧
 (((vI x5) = (vI x5)) ∧
 (((Go.Value.pointer (Option.some (Go.Addr.mk 1001 1 Option.none))) = (Go.Value.pointer (Option.some (Go.Addr.mk 1001 1 Option.none)))) ∧
 (((vI x4) = (vI x4)) ∧
 (((Go.Value.pointer (Option.some (Go.Addr.mk 1001 0 Option.none))) = (Go.Value.pointer (Option.some (Go.Addr.mk 1001 0 Option.none)))) ∧
 (((Go.Value.agg [(vI x1), (vI x2), (vI x3)].toArray) = (Go.Value.agg [(vI x1), (vI x2), (vI x3)].toArray)) ∧
 True)))))) ∧
 (bcase (decide (0 + n0 * 1 ≤ List.length (List.take (n0 * 1) (List.drop 0 l0))))
 ((∃ n4 : Int,
 ((Says C 59 [(D.sl (n0) 1 (List.take (n0 * 1) (List.drop 0 (List.take (n0 * 1) (List.drop 0 l0))))), (D.agg [(D.val (vI x1)), (D.val (vI x2)), (D.val (vI x3))]), (D.val (vI (IntKind.wrap .i64 (x4 + x5))))] [D.nil, (D.val (vI n4))]) ∧
 ((((vI n4) = (vI n4)) ∧
 (((Go.Value.slice Option.none 0 0) = (Go.Value.slice Option.none 0 0)) ∧
 (((Go.Value.tuple [(Go.Value.slice Option.none 0 0), (vI n4)].toArray) = (Go.Value.tuple [(Go.Value.slice Option.none 0 0), (vI n4)].toArray)) ∧
 (((vI x5) = (vI x5)) ∧
 (((Go.Value.pointer (Option.some (Go.Addr.mk 1001 1 Option.none))) = (Go.Value.pointer (Option.some (Go.Addr.mk 1001 1 Option.none)))) ∧
 (((vI x4) = (vI x4)) ∧
 (((Go.Value.pointer (Option.some (Go.Addr.mk 1001 0 Option.none))) = (Go.Value.pointer (Option.some (Go.Addr.mk 1001 0 Option.none)))) ∧
 True))))))) ∧
 ((((vI n4) = (vI n4)) ∧
 True) ∧
 (True ∧
 (bcase (n3 != 0)
 (k [(D.val (Value.bool false))])
 (bcase (n4 != 0)
 (k [(D.val (Value.bool false))])
 (bcase ((↑n2 : Int) != (↑n0 : Int))
 (k [(D.val (Value.bool false))])
 (bcase ((↑0 : Int) != (↑n0 : Int))
 (k [(D.val (Value.bool false))])
 ((((vI x1) = (vI x1)) ∧
 (((Go.Value.pointer (Option.some (Go.Addr.mk 1000 0 Option.none))) = (Go.Value.pointer (Option.some (Go.Addr.mk 1000 0 Option.none)))) ∧
 (((vI x1) = (vI x1)) ∧
 (((Go.Value.pointer (Option.some (Go.Addr.mk 1000 0 Option.none))) = (Go.Value.pointer (Option.some (Go.Addr.mk 1000 0 Option.none)))) ∧
 True)))) ∧
 ((((vI x1) = (vI x1)) ∧
 (((Go.Value.pointer (Option.some (Go.Addr.mk 1000 0 Option.none))) = (Go.Value.pointer (Option.some (Go.Addr.mk 1000 0 Option.none)))) ∧
 True)) ∧
 (True ∧
 (L 0 [(Prod.mk 0 (Go.Value.slice (Option.some (Go.Addr.mk 500 0 Option.none)) (n0) (c0))), (Prod.mk 4 (Go.Value.pointer (Option.some (Go.Addr.mk 1000 0 Option.none)))), (Prod.mk 5 (Go.Value.pointer (Option.some (Go.Addr.mk 1001 0 Option.none)))), (Prod.mk 7 (Go.Value.slice (Option.some (Go.Addr.mk 1002 0 Option.none)) (n2) (n2))), (Prod.mk 9 (Go.Value.slice Option.none 0 0)), (Prod.mk 11 (vI x1)), (Prod.mk 12 (vI x1)), (Prod.mk 13 (Go.Value.slice Option.none 0 0)), (Prod.mk 14 (vI (0 : Int)))] [(Prod.mk 500 (AObj.sym (l0) false 1)), (Prod.mk 1000 (AObj.cells [(vI x1), (vI x2), (vI x3)] 101 false 1)), (Prod.mk 1001 (AObj.cells [(vI x4), (vI x5), (vI x6)] 106 false 1)), (Prod.mk 1002 (AObj.sym (cs1) true 1))]))))))))))))) ∨
 (∃ n4 : Nat,
 (∃ cs2 : List Go.Value,
 (∃ n5 : Int,
 ((Says C 59 [(D.sl (n0) 1 (List.take (n0 * 1) (List.drop 0 (List.take (n0 * 1) (List.drop 0 l0))))), (D.agg [(D.val (vI x1)), (D.val (vI x2)), (D.val (vI x3))]), (D.val (vI (IntKind.wrap .i64 (x4 + x5))))] [(D.sl (n4) 1 (cs2)), (D.val (vI n5))]) ∧
 ((((vI n5) = (vI n5)) ∧
 (((Go.Value.slice (Option.some (Go.Addr.mk 1005 0 Option.none)) (n4) (n4)) = (Go.Value.slice (Option.some (Go.Addr.mk 1005 0 Option.none)) (n4) (n4))) ∧
 (((Go.Value.tuple [(Go.Value.slice (Option.some (Go.Addr.mk 1005 0 Option.none)) (n4) (n4)), (vI n5)].toArray) = (Go.Value.tuple [(Go.Value.slice (Option.some (Go.Addr.mk 1005 0 Option.none)) (n4) (n4)), (vI n5)].toArray)) ∧
 (((vI x5) = (vI x5)) ∧
 (((Go.Value.pointer (Option.some (Go.Addr.mk 1001 1 Option.none))) = (Go.Value.pointer (Option.some (Go.Addr.mk 1001 1 Option.none)))) ∧
 (((vI x4) = (vI x4)) ∧
 (((Go.Value.pointer (Option.some (Go.Addr.mk 1001 0 Option.none))) = (Go.Value.pointer (Option.some (Go.Addr.mk 1001 0 Option.none)))) ∧
 True))))))) ∧
 ((((vI n5) = (vI n5)) ∧
 True) ∧
 (True ∧
 (bcase (n3 != 0)
 (k [(D.val (Value.bool false))])
 (bcase (n5 != 0)
 (k [(D.val (Value.bool false))])
 (bcase ((↑n2 : Int) != (↑n0 : Int))
 (k [(D.val (Value.bool false))])
 (bcase ((↑n4 : Int) != (↑n0 : Int))
 (k [(D.val (Value.bool false))])
 ((((vI x1) = (vI x1)) ∧
 (((Go.Value.pointer (Option.some (Go.Addr.mk 1000 0 Option.none))) = (Go.Value.pointer (Option.some (Go.Addr.mk 1000 0 Option.none)))) ∧
 (((vI x1) = (vI x1)) ∧
 (((Go.Value.pointer (Option.some (Go.Addr.mk 1000 0 Option.none))) = (Go.Value.pointer (Option.some (Go.Addr.mk 1000 0 Option.none)))) ∧
 True)))) ∧
 ((((vI x1) = (vI x1)) ∧
 (((Go.Value.pointer (Option.some (Go.Addr.mk 1000 0 Option.none))) = (Go.Value.pointer (Option.some (Go.Addr.mk 1000 0 Option.none)))) ∧
 True)) ∧
 (True ∧
 (L 0 [(Prod.mk 0 (Go.Value.slice (Option.some (Go.Addr.mk 500 0 Option.none)) (n0) (c0))), (Prod.mk 4 (Go.Value.pointer (Option.some (Go.Addr.mk 1000 0 Option.none)))), (Prod.mk 5 (Go.Value.pointer (Option.some (Go.Addr.mk 1001 0 Option.none)))), (Prod.mk 7 (Go.Value.slice (Option.some (Go.Addr.mk 1002 0 Option.none)) (n2) (n2))), (Prod.mk 9 (Go.Value.slice (Option.some (Go.Addr.mk 1003 0 Option.none)) (n4) (n4))), (Prod.mk 11 (vI x1)), (Prod.mk 12 (vI x1)), (Prod.mk 13 (Go.Value.slice Option.none 0 0)), (Prod.mk 14 (vI (0 : Int)))] [(Prod.mk 500 (AObj.sym (l0) false 1)), (Prod.mk 1000 (AObj.cells [(vI x1), (vI x2), (vI x3)] 101 false 1)), (Prod.mk 1001 (AObj.cells [(vI x4), (vI x5), (vI x6)] 106 false 1)), (Prod.mk 1002 (AObj.sym (cs1) true 1)), (Prod.mk 1003 (AObj.sym (cs2) true 1))]))))))))))))))))
 False)))
 False))))))))))
 False)))
 False))) ∨
 ((Says C 23 [(D.val (vI x6)), (D.val (vI (0 : Int))), (D.val (vI (1000 : Int)))] [(D.val (Value.bool false))]) ∧
 (k [(D.val (Value.bool true))])))) ∨
 ((Says C 23 [(D.val (vI x5)), (D.val (vI (0 : Int))), (D.val (vI (100 : Int)))] [(D.val (Value.bool false))]) ∧
 (k [(D.val (Value.bool true))])))) ∨
 ((Says C 23 [(D.val (vI x4)), (D.val (vI (0 : Int))), (D.val (vI (100 : Int)))] [(D.val (Value.bool false))]) ∧
 (k [(D.val (Value.bool true))]))))))
 False)) ∨
 ((Says C 12 [] [(D.val (Value.bool false))]) ∧
 (k [(D.val (Value.bool false))]))) := by kernel_rfl
abbrev zLb1 (n0 : Nat) (c1 : Nat) (n2 : Nat) (n3 : Nat) (x4 : Int) (x5 : Int) (x6 : Int) (l7 : List Value) (x8 : Int) (x9 : Int) (x10 : Int) (x11 : Int) (x12 : Int) (x13 : Int) (l14 : List Value) (l15 : List Value) : Slots × Blocks := ([(0, (Value.slice (some ⟨500, 0, none⟩) n0 c1)), (4, (Value.pointer (some ⟨1000, 0, none⟩))), (5, (Value.pointer (some ⟨1001, 0, none⟩))), (7, (Value.slice (some ⟨1002, 0, none⟩) n2 n2)), (9, (Value.slice (some ⟨1003, 0, none⟩) n3 n3)), (11, (Value.int .i64 x4)), (12, (Value.int .i64 x5)), (13, (Value.slice none 0 0)), (14, (Value.int .i64 x6))], [(500, (AObj.sym l7 false 1)), (1000, (AObj.cells [(Value.int .i64 x8), (Value.int .i64 x9), (Value.int .i64 x10)] 101 false 1)), (1001, (AObj.cells [(Value.int .i64 x11), (Value.int .i64 x12), (Value.int .i64 x13)] 106 false 1)), (1002, (AObj.sym l14 true 1)), (1003, (AObj.sym l15 true 1))])
def rLb1 (C : Ct) (L : AtLoop) (n0 : Nat) (c1 : Nat) (n2 : Nat) (n3 : Nat) (x4 : Int) (x5 : Int) (x6 : Int) (l7 : List Value) (x8 : Int) (x9 : Int) (x10 : Int) (x11 : Int) (x12 : Int) (x13 : Int) (l14 : List Value) (l15 : List Value) (B : Bx) (X : Xx) (k : List D → Prop) : Prop := wpRound Try.prog (hF7 C) L 11 0 [(0, (Value.slice (some ⟨500, 0, none⟩) n0 c1)), (4, (Value.pointer (some ⟨1000, 0, none⟩))), (5, (Value.pointer (some ⟨1001, 0, none⟩))), (7, (Value.slice (some ⟨1002, 0, none⟩) n2 n2)), (9, (Value.slice (some ⟨1003, 0, none⟩) n3 n3)), (11, (Value.int .i64 x4)), (12, (Value.int .i64 x5)), (13, (Value.slice none 0 0)), (14, (Value.int .i64 x6))] [(500, (AObj.sym l7 false 1)), (1000, (AObj.cells [(Value.int .i64 x8), (Value.int .i64 x9), (Value.int .i64 x10)] 101 false 1)), (1001, (AObj.cells [(Value.int .i64 x11), (Value.int .i64 x12), (Value.int .i64 x13)] 106 false 1)), (1002, (AObj.sym l14 true 1)), (1003, (AObj.sym l15 true 1))] B X (dataK k)
theorem rLb1_text (C : Ct) (L : AtLoop) (n0 : Nat) (c1 : Nat) (n2 : Nat) (n3 : Nat) (x4 : Int) (x5 : Int) (x6 : Int) (l7 : List Go.Value) (x8 : Int) (x9 : Int) (x10 : Int) (x11 : Int) (x12 : Int) (x13 : Int) (l14 : List Go.Value) (l15 : List Go.Value) (B : Bx) (X : Xx) (k : List D → Prop) : rLb1 C L n0 c1 n2 n3 x4 x5 x6 l7 x8 x9 x10 x11 x12 x13 l14 l15 B X k =
 (bcase (decide (x6 < (↑n0 : Int)))
 (bcase (decide (0 ≤ x6))
 (bcase (decide (x6 < (↑n0 : Int)))
 (∃ n1 : Int,
 ((At (l7) (0 + Int.toNat x6 * 1) 1 [(vI n1)]) ∧
 (bcase (decide (0 ≤ x6))
 (bcase (decide (x6 < (↑n0 : Int)))
 (∃ n4 : Int,
 ((At (l7) (0 + Int.toNat x6 * 1) 1 [(vI n4)]) ∧
 ((((vI (if n4 > x5 then n4 else x5)) = (vI (if n4 > x5 then n4 else x5))) ∧
 ((∃ n5 : Int,
 ((At (l7) (0 + Int.toNat x6 * 1) 1 [(vI n5)]) ∧
 ((vI n5) = (vI n4)))) ∧
 ((bcase (decide (0 ≤ x6))
 (bcase (decide (x6 < (↑n0 : Int)))
 ((Go.Value.pointer (Option.some (Go.Addr.mk 500 (0 + Int.toNat x6 * 1) Option.none))) = (Go.Value.pointer (Option.some (Go.Addr.mk 500 (0 + Int.toNat x6 * 1) Option.none))))
 False)
 False) ∧
 (((vI x6) = (vI x6)) ∧
 (((Go.Value.slice (Option.some (Go.Addr.mk 500 0 Option.none)) (n0) (c1)) = (Go.Value.slice (Option.some (Go.Addr.mk 500 0 Option.none)) (n0) (c1))) ∧
 (((vI x5) = (vI x5)) ∧
 (((vI (if n1 < x4 then n1 else x4)) = (vI (if n1 < x4 then n1 else x4))) ∧
 ((∃ n5 : Int,
 ((At (l7) (0 + Int.toNat x6 * 1) 1 [(vI n5)]) ∧
 ((vI n5) = (vI n1)))) ∧
 ((bcase (decide (0 ≤ x6))
 (bcase (decide (x6 < (↑n0 : Int)))
 ((Go.Value.pointer (Option.some (Go.Addr.mk 500 (0 + Int.toNat x6 * 1) Option.none))) = (Go.Value.pointer (Option.some (Go.Addr.mk 500 (0 + Int.toNat x6 * 1) Option.none))))
 False)
 False) ∧
 (((vI x6) = (vI x6)) ∧
 (((Go.Value.slice (Option.some (Go.Addr.mk 500 0 Option.none)) (n0) (c1)) = (Go.Value.slice (Option.some (Go.Addr.mk 500 0 Option.none)) (n0) (c1))) ∧
 (((vI x4) = (vI x4)) ∧
 True)))))))))))) ∧
 ((((vI (if n4 > x5 then n4 else x5)) = (vI (if n4 > x5 then n4 else x5))) ∧
 ((∃ n5 : Int,
 ((At (l7) (0 + Int.toNat x6 * 1) 1 [(vI n5)]) ∧
 ((vI n5) = (vI n4)))) ∧
 ((bcase (decide (0 ≤ x6))
 (bcase (decide (x6 < (↑n0 : Int)))
 ((Go.Value.pointer (Option.some (Go.Addr.mk 500 (0 + Int.toNat x6 * 1) Option.none))) = (Go.Value.pointer (Option.some (Go.Addr.mk 500 (0 + Int.toNat x6 * 1) Option.none))))
 False)
 False) ∧
 (((vI x6) = (vI x6)) ∧
 (((Go.Value.slice (Option.some (Go.Addr.mk 500 0 Option.none)) (n0) (c1)) = (Go.Value.slice (Option.some (Go.Addr.mk 500 0 Option.none)) (n0) (c1))) ∧
 (((vI x5) = (vI x5)) ∧
 True)))))) ∧
 (True ∧
 (bcase (decide (0 ≤ x6))
 (bcase (decide (x6 < (↑n0 : Int)))
 (∃ n5 : Int,
 ((At (l7) (0 + Int.toNat x6 * 1) 1 [(vI n5)]) ∧
 (((((Go.Value.slice (Option.some (Go.Addr.mk 1004 0 Option.none)) 1 1) = (Go.Value.slice (Option.some (Go.Addr.mk 1004 0 Option.none)) 1 1)) ∧
 ((Option.some (AObj.cells [(vI (if IntKind.wrap .i64 (n5 + IntKind.wrap .i64 (x13 * Int.tmod x6 2)) < 100000 then IntKind.wrap .i64 (n5 + IntKind.wrap .i64 (x13 * Int.tmod x6 2)) else 100000))] 3 false 1)) = (Option.some (AObj.cells [(vI (if IntKind.wrap .i64 (n5 + IntKind.wrap .i64 (x13 * Int.tmod x6 2)) < 100000 then IntKind.wrap .i64 (n5 + IntKind.wrap .i64 (x13 * Int.tmod x6 2)) else 100000))] 3 false 1)))) ∧
 (((vI (if IntKind.wrap .i64 (n5 + IntKind.wrap .i64 (x13 * Int.tmod x6 2)) < 100000 then IntKind.wrap .i64 (n5 + IntKind.wrap .i64 (x13 * Int.tmod x6 2)) else 100000)) = (vI (if IntKind.wrap .i64 (n5 + IntKind.wrap .i64 (x13 * Int.tmod x6 2)) < 100000 then IntKind.wrap .i64 (n5 + IntKind.wrap .i64 (x13 * Int.tmod x6 2)) else 100000))) ∧
 (((vI (IntKind.wrap .i64 (n5 + IntKind.wrap .i64 (x13 * Int.tmod x6 2)))) = (vI (IntKind.wrap .i64 (n5 + IntKind.wrap .i64 (x13 * Int.tmod x6 2))))) ∧
 (((vI (IntKind.wrap .i64 (x13 * Int.tmod x6 2))) = (vI (IntKind.wrap .i64 (x13 * Int.tmod x6 2)))) ∧
 (((vI (Int.tmod x6 2)) = (vI (Int.tmod x6 2))) ∧
 (((vI x6) = (vI x6)) ∧
 (((vI x13) = (vI x13)) ∧
 (((Go.Value.pointer (Option.some (Go.Addr.mk 1001 2 Option.none))) = (Go.Value.pointer (Option.some (Go.Addr.mk 1001 2 Option.none)))) ∧
 ((∃ n6 : Int,
 ((At (l7) (0 + Int.toNat x6 * 1) 1 [(vI n6)]) ∧
 ((vI n6) = (vI n5)))) ∧
 ((bcase (decide (0 ≤ x6))
 (bcase (decide (x6 < (↑n0 : Int)))
 ((Go.Value.pointer (Option.some (Go.Addr.mk 500 (0 + Int.toNat x6 * 1) Option.none))) = (Go.Value.pointer (Option.some (Go.Addr.mk 500 (0 + Int.toNat x6 * 1) Option.none))))
 False)
 False) ∧
 (((vI x6) = (vI x6)) ∧
 (((Go.Value.slice (Option.some (Go.Addr.mk 500 0 Option.none)) (n0) (c1)) = (Go.Value.slice (Option.some (Go.Addr.mk 500 0 Option.none)) (n0) (c1))) ∧
 (((Go.Value.slice Option.none 0 0) = (Go.Value.slice Option.none 0 0)) ∧
 True))))))))))))) ∧
 ((((vI (if IntKind.wrap .i64 (n5 + IntKind.wrap .i64 (x13 * Int.tmod x6 2)) < 100000 then IntKind.wrap .i64 (n5 + IntKind.wrap .i64 (x13 * Int.tmod x6 2)) else 100000)) = (vI (if IntKind.wrap .i64 (n5 + IntKind.wrap .i64 (x13 * Int.tmod x6 2)) < 100000 then IntKind.wrap .i64 (n5 + IntKind.wrap .i64 (x13 * Int.tmod x6 2)) else 100000))) ∧
 (((vI (IntKind.wrap .i64 (n5 + IntKind.wrap .i64 (x13 * Int.tmod x6 2)))) = (vI (IntKind.wrap .i64 (n5 + IntKind.wrap .i64 (x13 * Int.tmod x6 2))))) ∧
 (((vI (IntKind.wrap .i64 (x13 * Int.tmod x6 2))) = (vI (IntKind.wrap .i64 (x13 * Int.tmod x6 2)))) ∧
 (((vI (Int.tmod x6 2)) = (vI (Int.tmod x6 2))) ∧
 (((vI x6) = (vI x6)) ∧
 (((vI x13) = (vI x13)) ∧
 (((Go.Value.pointer (Option.some (Go.Addr.mk 1001 2 Option.none))) = (Go.Value.pointer (Option.some (Go.Addr.mk 1001 2 Option.none)))) ∧
 ((∃ n6 : Int,
 ((At (l7) (0 + Int.toNat x6 * 1) 1 [(vI n6)]) ∧
 ((vI n6) = (vI n5)))) ∧
 ((bcase (decide (0 ≤ x6))
 (bcase (decide (x6 < (↑n0 : Int)))
 ((Go.Value.pointer (Option.some (Go.Addr.mk 500 (0 + Int.toNat x6 * 1) Option.none))) = (Go.Value.pointer (Option.some (Go.Addr.mk 500 (0 + Int.toNat x6 * 1) Option.none))))
 False)
 False) ∧
 (((vI x6) = (vI x6)) ∧
 (((Go.Value.slice (Option.some (Go.Addr.mk 500 0 Option.none)) (n0) (c1)) = (Go.Value.slice (Option.some (Go.Addr.mk 500 0 Option.none)) (n0) (c1))) ∧
 True))))))))))) ∧
 (True ∧
 (B [(Prod.mk 0 (Go.Value.slice (Option.some (Go.Addr.mk 500 0 Option.none)) (n0) (c1))), (Prod.mk 4 (Go.Value.pointer (Option.some (Go.Addr.mk 1000 0 Option.none)))), (Prod.mk 5 (Go.Value.pointer (Option.some (Go.Addr.mk 1001 0 Option.none)))), (Prod.mk 7 (Go.Value.slice (Option.some (Go.Addr.mk 1002 0 Option.none)) (n2) (n2))), (Prod.mk 9 (Go.Value.slice (Option.some (Go.Addr.mk 1003 0 Option.none)) (n3) (n3))), (Prod.mk 11 (vI (if n1 < x4 then n1 else x4))), (Prod.mk 12 (vI (if n4 > x5 then n4 else x5))), (Prod.mk 13 (Go.Value.slice (Option.some (Go.Addr.mk 1004 0 Option.none)) 1 1)), (Prod.mk 14 (vI (IntKind.wrap .i64 (x6 + 1))))] [(Prod.mk 500 (AObj.sym (l7) false 1)), (Prod.mk 1000 (AObj.cells [(vI x8), (vI x9), (vI x10)] 101 false 1)), (Prod.mk 1001 (AObj.cells [(vI x11), (vI x12), (vI x13)] 106 false 1)), (Prod.mk 1002 (AObj.sym (l14) true 1)), (Prod.mk 1003 (AObj.sym (l15) true 1)), (Prod.mk 1004 (AObj.sym [(vI (if IntKind.wrap .i64 (n5 + IntKind.wrap .i64 (x13 * Int.tmod x6 2)) < 100000 then IntKind.wrap .i64 (n5 + IntKind.wrap .i64 (x13 * Int.tmod x6 2)) else 100000))] true 1))]))))))
 False)
 False))))))
 False)
 False)))
 False)
 False)
 (X 0 [(Prod.mk 0 (Go.Value.slice (Option.some (Go.Addr.mk 500 0 Option.none)) (n0) (c1))), (Prod.mk 4 (Go.Value.pointer (Option.some (Go.Addr.mk 1000 0 Option.none)))), (Prod.mk 5 (Go.Value.pointer (Option.some (Go.Addr.mk 1001 0 Option.none)))), (Prod.mk 7 (Go.Value.slice (Option.some (Go.Addr.mk 1002 0 Option.none)) (n2) (n2))), (Prod.mk 9 (Go.Value.slice (Option.some (Go.Addr.mk 1003 0 Option.none)) (n3) (n3))), (Prod.mk 11 (vI x4)), (Prod.mk 12 (vI x5)), (Prod.mk 13 (Go.Value.slice Option.none 0 0))] [(Prod.mk 500 (AObj.sym (l7) false 1)), (Prod.mk 1000 (AObj.cells [(vI x8), (vI x9), (vI x10)] 101 false 1)), (Prod.mk 1001 (AObj.cells [(vI x11), (vI x12), (vI x13)] 106 false 1)), (Prod.mk 1002 (AObj.sym (l14) true 1)), (Prod.mk 1003 (AObj.sym (l15) true 1))])) := by kernel_rfl
abbrev zLb2 (n0 : Nat) (c1 : Nat) (n2 : Nat) (n3 : Nat) (x4 : Int) (x5 : Int) (n6 : Nat) (x7 : Int) (l8 : List Value) (x9 : Int) (x10 : Int) (x11 : Int) (x12 : Int) (x13 : Int) (x14 : Int) (l15 : List Value) (l16 : List Value) (l17 : List Value) : Slots × Blocks := ([(0, (Value.slice (some ⟨500, 0, none⟩) n0 c1)), (4, (Value.pointer (some ⟨1000, 0, none⟩))), (5, (Value.pointer (some ⟨1001, 0, none⟩))), (7, (Value.slice (some ⟨1002, 0, none⟩) n2 n2)), (9, (Value.slice (some ⟨1003, 0, none⟩) n3 n3)), (11, (Value.int .i64 x4)), (12, (Value.int .i64 x5)), (13, (Value.slice (some ⟨1004, 0, none⟩) n6 n6)), (14, (Value.int .i64 x7))], [(500, (AObj.sym l8 false 1)), (1000, (AObj.cells [(Value.int .i64 x9), (Value.int .i64 x10), (Value.int .i64 x11)] 101 false 1)), (1001, (AObj.cells [(Value.int .i64 x12), (Value.int .i64 x13), (Value.int .i64 x14)] 106 false 1)), (1002, (AObj.sym l15 true 1)), (1003, (AObj.sym l16 true 1)), (1004, (AObj.sym l17 true 1))])
def rLb2 (C : Ct) (L : AtLoop) (n0 : Nat) (c1 : Nat) (n2 : Nat) (n3 : Nat) (x4 : Int) (x5 : Int) (n6 : Nat) (x7 : Int) (l8 : List Value) (x9 : Int) (x10 : Int) (x11 : Int) (x12 : Int) (x13 : Int) (x14 : Int) (l15 : List Value) (l16 : List Value) (l17 : List Value) (B : Bx) (X : Xx) (k : List D → Prop) : Prop := wpRound Try.prog (hF7 C) L 11 0 [(0, (Value.slice (some ⟨500, 0, none⟩) n0 c1)), (4, (Value.pointer (some ⟨1000, 0, none⟩))), (5, (Value.pointer (some ⟨1001, 0, none⟩))), (7, (Value.slice (some ⟨1002, 0, none⟩) n2 n2)), (9, (Value.slice (some ⟨1003, 0, none⟩) n3 n3)), (11, (Value.int .i64 x4)), (12, (Value.int .i64 x5)), (13, (Value.slice (some ⟨1004, 0, none⟩) n6 n6)), (14, (Value.int .i64 x7))] [(500, (AObj.sym l8 false 1)), (1000, (AObj.cells [(Value.int .i64 x9), (Value.int .i64 x10), (Value.int .i64 x11)] 101 false 1)), (1001, (AObj.cells [(Value.int .i64 x12), (Value.int .i64 x13), (Value.int .i64 x14)] 106 false 1)), (1002, (AObj.sym l15 true 1)), (1003, (AObj.sym l16 true 1)), (1004, (AObj.sym l17 true 1))] B X (dataK k)
theorem rLb2_text (C : Ct) (L : AtLoop) (n0 : Nat) (c1 : Nat) (n2 : Nat) (n3 : Nat) (x4 : Int) (x5 : Int) (n6 : Nat) (x7 : Int) (l8 : List Go.Value) (x9 : Int) (x10 : Int) (x11 : Int) (x12 : Int) (x13 : Int) (x14 : Int) (l15 : List Go.Value) (l16 : List Go.Value) (l17 : List Go.Value) (B : Bx) (X : Xx) (k : List D → Prop) : rLb2 C L n0 c1 n2 n3 x4 x5 n6 x7 l8 x9 x10 x11 x12 x13 x14 l15 l16 l17 B X k =
 (bcase (decide (x7 < (↑n0 : Int)))
 (bcase (decide (0 ≤ x7))
 (bcase (decide (x7 < (↑n0 : Int)))
 (∃ n1 : Int,
 ((At (l8) (0 + Int.toNat x7 * 1) 1 [(vI n1)]) ∧
 (bcase (decide (0 ≤ x7))
 (bcase (decide (x7 < (↑n0 : Int)))
 (∃ n4 : Int,
 ((At (l8) (0 + Int.toNat x7 * 1) 1 [(vI n4)]) ∧
 ((((vI (if n4 > x5 then n4 else x5)) = (vI (if n4 > x5 then n4 else x5))) ∧
 ((∃ n5 : Int,
 ((At (l8) (0 + Int.toNat x7 * 1) 1 [(vI n5)]) ∧
 ((vI n5) = (vI n4)))) ∧
 ((bcase (decide (0 ≤ x7))
 (bcase (decide (x7 < (↑n0 : Int)))
 ((Go.Value.pointer (Option.some (Go.Addr.mk 500 (0 + Int.toNat x7 * 1) Option.none))) = (Go.Value.pointer (Option.some (Go.Addr.mk 500 (0 + Int.toNat x7 * 1) Option.none))))
 False)
 False) ∧
 (((vI x7) = (vI x7)) ∧
 (((Go.Value.slice (Option.some (Go.Addr.mk 500 0 Option.none)) (n0) (c1)) = (Go.Value.slice (Option.some (Go.Addr.mk 500 0 Option.none)) (n0) (c1))) ∧
 (((vI x5) = (vI x5)) ∧
 (((vI (if n1 < x4 then n1 else x4)) = (vI (if n1 < x4 then n1 else x4))) ∧
 ((∃ n5 : Int,
 ((At (l8) (0 + Int.toNat x7 * 1) 1 [(vI n5)]) ∧
 ((vI n5) = (vI n1)))) ∧
 ((bcase (decide (0 ≤ x7))
 (bcase (decide (x7 < (↑n0 : Int)))
 ((Go.Value.pointer (Option.some (Go.Addr.mk 500 (0 + Int.toNat x7 * 1) Option.none))) = (Go.Value.pointer (Option.some (Go.Addr.mk 500 (0 + Int.toNat x7 * 1) Option.none))))
 False)
 False) ∧
 (((vI x7) = (vI x7)) ∧
 (((Go.Value.slice (Option.some (Go.Addr.mk 500 0 Option.none)) (n0) (c1)) = (Go.Value.slice (Option.some (Go.Addr.mk 500 0 Option.none)) (n0) (c1))) ∧
 (((vI x4) = (vI x4)) ∧
 True)))))))))))) ∧
 ((((vI (if n4 > x5 then n4 else x5)) = (vI (if n4 > x5 then n4 else x5))) ∧
 ((∃ n5 : Int,
 ((At (l8) (0 + Int.toNat x7 * 1) 1 [(vI n5)]) ∧
 ((vI n5) = (vI n4)))) ∧
 ((bcase (decide (0 ≤ x7))
 (bcase (decide (x7 < (↑n0 : Int)))
 ((Go.Value.pointer (Option.some (Go.Addr.mk 500 (0 + Int.toNat x7 * 1) Option.none))) = (Go.Value.pointer (Option.some (Go.Addr.mk 500 (0 + Int.toNat x7 * 1) Option.none))))
 False)
 False) ∧
 (((vI x7) = (vI x7)) ∧
 (((Go.Value.slice (Option.some (Go.Addr.mk 500 0 Option.none)) (n0) (c1)) = (Go.Value.slice (Option.some (Go.Addr.mk 500 0 Option.none)) (n0) (c1))) ∧
 (((vI x5) = (vI x5)) ∧
 True)))))) ∧
 (True ∧
 (bcase (decide (0 ≤ x7))
 (bcase (decide (x7 < (↑n0 : Int)))
 (∃ n5 : Int,
 ((At (l8) (0 + Int.toNat x7 * 1) 1 [(vI n5)]) ∧
 (((((Go.Value.slice (Option.some (Go.Addr.mk 1005 0 Option.none)) 1 1) = (Go.Value.slice (Option.some (Go.Addr.mk 1005 0 Option.none)) 1 1)) ∧
 ((Option.some (AObj.cells [(vI (if IntKind.wrap .i64 (n5 + IntKind.wrap .i64 (x14 * Int.tmod x7 2)) < 100000 then IntKind.wrap .i64 (n5 + IntKind.wrap .i64 (x14 * Int.tmod x7 2)) else 100000))] 3 false 1)) = (Option.some (AObj.cells [(vI (if IntKind.wrap .i64 (n5 + IntKind.wrap .i64 (x14 * Int.tmod x7 2)) < 100000 then IntKind.wrap .i64 (n5 + IntKind.wrap .i64 (x14 * Int.tmod x7 2)) else 100000))] 3 false 1)))) ∧
 (((vI (if IntKind.wrap .i64 (n5 + IntKind.wrap .i64 (x14 * Int.tmod x7 2)) < 100000 then IntKind.wrap .i64 (n5 + IntKind.wrap .i64 (x14 * Int.tmod x7 2)) else 100000)) = (vI (if IntKind.wrap .i64 (n5 + IntKind.wrap .i64 (x14 * Int.tmod x7 2)) < 100000 then IntKind.wrap .i64 (n5 + IntKind.wrap .i64 (x14 * Int.tmod x7 2)) else 100000))) ∧
 (((vI (IntKind.wrap .i64 (n5 + IntKind.wrap .i64 (x14 * Int.tmod x7 2)))) = (vI (IntKind.wrap .i64 (n5 + IntKind.wrap .i64 (x14 * Int.tmod x7 2))))) ∧
 (((vI (IntKind.wrap .i64 (x14 * Int.tmod x7 2))) = (vI (IntKind.wrap .i64 (x14 * Int.tmod x7 2)))) ∧
 (((vI (Int.tmod x7 2)) = (vI (Int.tmod x7 2))) ∧
 (((vI x7) = (vI x7)) ∧
 (((vI x14) = (vI x14)) ∧
 (((Go.Value.pointer (Option.some (Go.Addr.mk 1001 2 Option.none))) = (Go.Value.pointer (Option.some (Go.Addr.mk 1001 2 Option.none)))) ∧
 ((∃ n7 : Int,
 ((At (l8) (0 + Int.toNat x7 * 1) 1 [(vI n7)]) ∧
 ((vI n7) = (vI n5)))) ∧
 ((bcase (decide (0 ≤ x7))
 (bcase (decide (x7 < (↑n0 : Int)))
 ((Go.Value.pointer (Option.some (Go.Addr.mk 500 (0 + Int.toNat x7 * 1) Option.none))) = (Go.Value.pointer (Option.some (Go.Addr.mk 500 (0 + Int.toNat x7 * 1) Option.none))))
 False)
 False) ∧
 (((vI x7) = (vI x7)) ∧
 (((Go.Value.slice (Option.some (Go.Addr.mk 500 0 Option.none)) (n0) (c1)) = (Go.Value.slice (Option.some (Go.Addr.mk 500 0 Option.none)) (n0) (c1))) ∧
 (((Go.Value.slice (Option.some (Go.Addr.mk 1004 0 Option.none)) (n6) (n6)) = (Go.Value.slice (Option.some (Go.Addr.mk 1004 0 Option.none)) (n6) (n6))) ∧
 True))))))))))))) ∧
 (bcase (decide (n6 < n6 + 1))
 (bcase (decide ((2 * (n6 + 1) + 768) * 8 ≤ 281474976710656))
 (bcase (decide (n6 + 1 ≤ 1099511627776))
 (bcase (decide (0 + n6 * 1 ≤ List.length l17))
 (bcase (decide (0 + n6 * 1 = List.length l17))
 ((((vI (if IntKind.wrap .i64 (n5 + IntKind.wrap .i64 (x14 * Int.tmod x7 2)) < 100000 then IntKind.wrap .i64 (n5 + IntKind.wrap .i64 (x14 * Int.tmod x7 2)) else 100000)) = (vI (if IntKind.wrap .i64 (n5 + IntKind.wrap .i64 (x14 * Int.tmod x7 2)) < 100000 then IntKind.wrap .i64 (n5 + IntKind.wrap .i64 (x14 * Int.tmod x7 2)) else 100000))) ∧
 (((vI (IntKind.wrap .i64 (n5 + IntKind.wrap .i64 (x14 * Int.tmod x7 2)))) = (vI (IntKind.wrap .i64 (n5 + IntKind.wrap .i64 (x14 * Int.tmod x7 2))))) ∧
 (((vI (IntKind.wrap .i64 (x14 * Int.tmod x7 2))) = (vI (IntKind.wrap .i64 (x14 * Int.tmod x7 2)))) ∧
 (((vI (Int.tmod x7 2)) = (vI (Int.tmod x7 2))) ∧
 (((vI x7) = (vI x7)) ∧
 (((vI x14) = (vI x14)) ∧
 (((Go.Value.pointer (Option.some (Go.Addr.mk 1001 2 Option.none))) = (Go.Value.pointer (Option.some (Go.Addr.mk 1001 2 Option.none)))) ∧
 ((∃ n7 : Int,
 ((At (l8) (0 + Int.toNat x7 * 1) 1 [(vI n7)]) ∧
 ((vI n7) = (vI n5)))) ∧
 ((bcase (decide (0 ≤ x7))
 (bcase (decide (x7 < (↑n0 : Int)))
 ((Go.Value.pointer (Option.some (Go.Addr.mk 500 (0 + Int.toNat x7 * 1) Option.none))) = (Go.Value.pointer (Option.some (Go.Addr.mk 500 (0 + Int.toNat x7 * 1) Option.none))))
 False)
 False) ∧
 (((vI x7) = (vI x7)) ∧
 (((Go.Value.slice (Option.some (Go.Addr.mk 500 0 Option.none)) (n0) (c1)) = (Go.Value.slice (Option.some (Go.Addr.mk 500 0 Option.none)) (n0) (c1))) ∧
 True))))))))))) ∧
 (True ∧
 (B [(Prod.mk 0 (Go.Value.slice (Option.some (Go.Addr.mk 500 0 Option.none)) (n0) (c1))), (Prod.mk 4 (Go.Value.pointer (Option.some (Go.Addr.mk 1000 0 Option.none)))), (Prod.mk 5 (Go.Value.pointer (Option.some (Go.Addr.mk 1001 0 Option.none)))), (Prod.mk 7 (Go.Value.slice (Option.some (Go.Addr.mk 1002 0 Option.none)) (n2) (n2))), (Prod.mk 9 (Go.Value.slice (Option.some (Go.Addr.mk 1003 0 Option.none)) (n3) (n3))), (Prod.mk 11 (vI (if n1 < x4 then n1 else x4))), (Prod.mk 12 (vI (if n4 > x5 then n4 else x5))), (Prod.mk 13 (Go.Value.slice (Option.some (Go.Addr.mk 1004 0 Option.none)) (n6 + 1) (n6 + 1))), (Prod.mk 14 (vI (IntKind.wrap .i64 (x7 + 1))))] [(Prod.mk 500 (AObj.sym (l8) false 1)), (Prod.mk 1000 (AObj.cells [(vI x9), (vI x10), (vI x11)] 101 false 1)), (Prod.mk 1001 (AObj.cells [(vI x12), (vI x13), (vI x14)] 106 false 1)), (Prod.mk 1002 (AObj.sym (l15) true 1)), (Prod.mk 1003 (AObj.sym (l16) true 1)), (Prod.mk 1004 (AObj.sym ((List.take (n6 * 1) (List.drop 0 l17)) ++ [(vI (if IntKind.wrap .i64 (n5 + IntKind.wrap .i64 (x14 * Int.tmod x7 2)) < 100000 then IntKind.wrap .i64 (n5 + IntKind.wrap .i64 (x14 * Int.tmod x7 2)) else 100000))]) true 1))])))
 False)
 False)
 False)
 False)
 False))))
 False)
 False))))))
 False)
 False)))
 False)
 False)
 (X 0 [(Prod.mk 0 (Go.Value.slice (Option.some (Go.Addr.mk 500 0 Option.none)) (n0) (c1))), (Prod.mk 4 (Go.Value.pointer (Option.some (Go.Addr.mk 1000 0 Option.none)))), (Prod.mk 5 (Go.Value.pointer (Option.some (Go.Addr.mk 1001 0 Option.none)))), (Prod.mk 7 (Go.Value.slice (Option.some (Go.Addr.mk 1002 0 Option.none)) (n2) (n2))), (Prod.mk 9 (Go.Value.slice (Option.some (Go.Addr.mk 1003 0 Option.none)) (n3) (n3))), (Prod.mk 11 (vI x4)), (Prod.mk 12 (vI x5)), (Prod.mk 13 (Go.Value.slice (Option.some (Go.Addr.mk 1004 0 Option.none)) (n6) (n6)))] [(Prod.mk 500 (AObj.sym (l8) false 1)), (Prod.mk 1000 (AObj.cells [(vI x9), (vI x10), (vI x11)] 101 false 1)), (Prod.mk 1001 (AObj.cells [(vI x12), (vI x13), (vI x14)] 106 false 1)), (Prod.mk 1002 (AObj.sym (l15) true 1)), (Prod.mk 1003 (AObj.sym (l16) true 1)), (Prod.mk 1004 (AObj.sym (l17) true 1))])) := by kernel_rfl
def nLb4 (C : Ct) (L : AtLoop) (n0 : Nat) (c1 : Nat) (n2 : Nat) (n3 : Nat) (x4 : Int) (x5 : Int) (n6 : Nat) (l7 : List Value) (x8 : Int) (x9 : Int) (x10 : Int) (x11 : Int) (x12 : Int) (x13 : Int) (l14 : List Value) (l15 : List Value) (l16 : List Value) (k : List D → Prop) : Prop := wpNext Try.prog (hF7 C) L 11 0 .normal [(0, (Value.slice (some ⟨500, 0, none⟩) n0 c1)), (4, (Value.pointer (some ⟨1000, 0, none⟩))), (5, (Value.pointer (some ⟨1001, 0, none⟩))), (7, (Value.slice (some ⟨1002, 0, none⟩) n2 n2)), (9, (Value.slice (some ⟨1003, 0, none⟩) n3 n3)), (11, (Value.int .i64 x4)), (12, (Value.int .i64 x5)), (13, (Value.slice (some ⟨1004, 0, none⟩) n6 n6))] [(500, (AObj.sym l7 false 1)), (1000, (AObj.cells [(Value.int .i64 x8), (Value.int .i64 x9), (Value.int .i64 x10)] 101 false 1)), (1001, (AObj.cells [(Value.int .i64 x11), (Value.int .i64 x12), (Value.int .i64 x13)] 106 false 1)), (1002, (AObj.sym l14 true 1)), (1003, (AObj.sym l15 true 1)), (1004, (AObj.sym l16 true 1))] (dataK k)
theorem nLb4_text (C : Ct) (L : AtLoop) (n0 : Nat) (c1 : Nat) (n2 : Nat) (n3 : Nat) (x4 : Int) (x5 : Int) (n6 : Nat) (l7 : List Go.Value) (x8 : Int) (x9 : Int) (x10 : Int) (x11 : Int) (x12 : Int) (x13 : Int) (l14 : List Go.Value) (l15 : List Go.Value) (l16 : List Go.Value) (k : List D → Prop) : nLb4 C L n0 c1 n2 n3 x4 x5 n6 l7 x8 x9 x10 x11 x12 x13 l14 l15 l16 k =
 (L 2 [(Prod.mk 0 (Go.Value.slice (Option.some (Go.Addr.mk 500 0 Option.none)) (n0) (c1))), (Prod.mk 4 (Go.Value.pointer (Option.some (Go.Addr.mk 1000 0 Option.none)))), (Prod.mk 5 (Go.Value.pointer (Option.some (Go.Addr.mk 1001 0 Option.none)))), (Prod.mk 7 (Go.Value.slice (Option.some (Go.Addr.mk 1002 0 Option.none)) (n2) (n2))), (Prod.mk 9 (Go.Value.slice (Option.some (Go.Addr.mk 1003 0 Option.none)) (n3) (n3))), (Prod.mk 11 (vI x4)), (Prod.mk 12 (vI x5)), (Prod.mk 13 (Go.Value.slice (Option.some (Go.Addr.mk 1004 0 Option.none)) (n6) (n6))), (Prod.mk 15 (vI (0 : Int)))] [(Prod.mk 500 (AObj.sym (l7) false 1)), (Prod.mk 1000 (AObj.cells [(vI x8), (vI x9), (vI x10)] 101 false 1)), (Prod.mk 1001 (AObj.cells [(vI x11), (vI x12), (vI x13)] 106 false 1)), (Prod.mk 1002 (AObj.sym (l14) true 1)), (Prod.mk 1003 (AObj.sym (l15) true 1)), (Prod.mk 1004 (AObj.sym (l16) true 1))]) := by kernel_rfl
abbrev zLb6 (n0 : Nat) (c1 : Nat) (n2 : Nat) (n3 : Nat) (x4 : Int) (x5 : Int) (n6 : Nat) (x7 : Int) (l8 : List Value) (x9 : Int) (x10 : Int) (x11 : Int) (x12 : Int) (x13 : Int) (x14 : Int) (l15 : List Value) (l16 : List Value) (l17 : List Value) : Slots × Blocks := ([(0, (Value.slice (some ⟨500, 0, none⟩) n0 c1)), (4, (Value.pointer (some ⟨1000, 0, none⟩))), (5, (Value.pointer (some ⟨1001, 0, none⟩))), (7, (Value.slice (some ⟨1002, 0, none⟩) n2 n2)), (9, (Value.slice (some ⟨1003, 0, none⟩) n3 n3)), (11, (Value.int .i64 x4)), (12, (Value.int .i64 x5)), (13, (Value.slice (some ⟨1004, 0, none⟩) n6 n6)), (15, (Value.int .i64 x7))], [(500, (AObj.sym l8 false 1)), (1000, (AObj.cells [(Value.int .i64 x9), (Value.int .i64 x10), (Value.int .i64 x11)] 101 false 1)), (1001, (AObj.cells [(Value.int .i64 x12), (Value.int .i64 x13), (Value.int .i64 x14)] 106 false 1)), (1002, (AObj.sym l15 true 1)), (1003, (AObj.sym l16 true 1)), (1004, (AObj.sym l17 true 1))])
def rLb6 (C : Ct) (L : AtLoop) (n0 : Nat) (c1 : Nat) (n2 : Nat) (n3 : Nat) (x4 : Int) (x5 : Int) (n6 : Nat) (x7 : Int) (l8 : List Value) (x9 : Int) (x10 : Int) (x11 : Int) (x12 : Int) (x13 : Int) (x14 : Int) (l15 : List Value) (l16 : List Value) (l17 : List Value) (B : Bx) (X : Xx) (k : List D → Prop) : Prop := wpRound Try.prog (hF7 C) L 11 2 [(0, (Value.slice (some ⟨500, 0, none⟩) n0 c1)), (4, (Value.pointer (some ⟨1000, 0, none⟩))), (5, (Value.pointer (some ⟨1001, 0, none⟩))), (7, (Value.slice (some ⟨1002, 0, none⟩) n2 n2)), (9, (Value.slice (some ⟨1003, 0, none⟩) n3 n3)), (11, (Value.int .i64 x4)), (12, (Value.int .i64 x5)), (13, (Value.slice (some ⟨1004, 0, none⟩) n6 n6)), (15, (Value.int .i64 x7))] [(500, (AObj.sym l8 false 1)), (1000, (AObj.cells [(Value.int .i64 x9), (Value.int .i64 x10), (Value.int .i64 x11)] 101 false 1)), (1001, (AObj.cells [(Value.int .i64 x12), (Value.int .i64 x13), (Value.int .i64 x14)] 106 false 1)), (1002, (AObj.sym l15 true 1)), (1003, (AObj.sym l16 true 1)), (1004, (AObj.sym l17 true 1))] B X (dataK k)
theorem rLb6_text (C : Ct) (L : AtLoop) (n0 : Nat) (c1 : Nat) (n2 : Nat) (n3 : Nat) (x4 : Int) (x5 : Int) (n6 : Nat) (x7 : Int) (l8 : List Go.Value) (x9 : Int) (x10 : Int) (x11 : Int) (x12 : Int) (x13 : Int) (x14 : Int) (l15 : List Go.Value) (l16 : List Go.Value) (l17 : List Go.Value) (B : Bx) (X : Xx) (k : List D → Prop) : rLb6 C L n0 c1 n2 n3 x4 x5 n6 x7 l8 x9 x10 x11 x12 x13 x14 l15 l16 l17 B X k =
 (bcase (decide (x7 < (↑n0 : Int)))
 (bcase (decide (0 ≤ x7))
 (bcase (decide (x7 < (↑n2 : Int)))
 (∃ n1 : Int,
 ((At (l15) (0 + Int.toNat x7 * 1) 1 [(vI n1)]) ∧
 (((Says C 23 [(D.val (vI n1)), (D.val (vI x4)), (D.val (vI x5))] [(D.val (Value.bool true))]) ∧
 (bcase (decide (0 ≤ x7))
 (bcase (decide (x7 < (↑n3 : Int)))
 (∃ n4 : Int,
 ((At (l16) (0 + Int.toNat x7 * 1) 1 [(vI n4)]) ∧
 (((Says C 23 [(D.val (vI n4)), (D.val (vI x4)), (D.val (vI x5))] [(D.val (Value.bool true))]) ∧
 (B [(Prod.mk 0 (Go.Value.slice (Option.some (Go.Addr.mk 500 0 Option.none)) (n0) (c1))), (Prod.mk 4 (Go.Value.pointer (Option.some (Go.Addr.mk 1000 0 Option.none)))), (Prod.mk 5 (Go.Value.pointer (Option.some (Go.Addr.mk 1001 0 Option.none)))), (Prod.mk 7 (Go.Value.slice (Option.some (Go.Addr.mk 1002 0 Option.none)) (n2) (n2))), (Prod.mk 9 (Go.Value.slice (Option.some (Go.Addr.mk 1003 0 Option.none)) (n3) (n3))), (Prod.mk 11 (vI x4)), (Prod.mk 12 (vI x5)), (Prod.mk 13 (Go.Value.slice (Option.some (Go.Addr.mk 1004 0 Option.none)) (n6) (n6))), (Prod.mk 15 (vI (IntKind.wrap .i64 (x7 + 1))))] [(Prod.mk 500 (AObj.sym (l8) false 1)), (Prod.mk 1000 (AObj.cells [(vI x9), (vI x10), (vI x11)] 101 false 1)), (Prod.mk 1001 (AObj.cells [(vI x12), (vI x13), (vI x14)] 106 false 1)), (Prod.mk 1002 (AObj.sym (l15) true 1)), (Prod.mk 1003 (AObj.sym (l16) true 1)), (Prod.mk 1004 (AObj.sym (l17) true 1))])) ∨
 ((Says C 23 [(D.val (vI n4)), (D.val (vI x4)), (D.val (vI x5))] [(D.val (Value.bool false))]) ∧
 (k [(D.val (Value.bool false))])))))
 False)
 False)) ∨
 ((Says C 23 [(D.val (vI n1)), (D.val (vI x4)), (D.val (vI x5))] [(D.val (Value.bool false))]) ∧
 (k [(D.val (Value.bool false))])))))
 False)
 False)
 (X 2 [(Prod.mk 0 (Go.Value.slice (Option.some (Go.Addr.mk 500 0 Option.none)) (n0) (c1))), (Prod.mk 4 (Go.Value.pointer (Option.some (Go.Addr.mk 1000 0 Option.none)))), (Prod.mk 5 (Go.Value.pointer (Option.some (Go.Addr.mk 1001 0 Option.none)))), (Prod.mk 7 (Go.Value.slice (Option.some (Go.Addr.mk 1002 0 Option.none)) (n2) (n2))), (Prod.mk 9 (Go.Value.slice (Option.some (Go.Addr.mk 1003 0 Option.none)) (n3) (n3))), (Prod.mk 13 (Go.Value.slice (Option.some (Go.Addr.mk 1004 0 Option.none)) (n6) (n6)))] [(Prod.mk 500 (AObj.sym (l8) false 1)), (Prod.mk 1000 (AObj.cells [(vI x9), (vI x10), (vI x11)] 101 false 1)), (Prod.mk 1001 (AObj.cells [(vI x12), (vI x13), (vI x14)] 106 false 1)), (Prod.mk 1002 (AObj.sym (l15) true 1)), (Prod.mk 1003 (AObj.sym (l16) true 1)), (Prod.mk 1004 (AObj.sym (l17) true 1))])) := by kernel_rfl
def nLb8 (C : Ct) (L : AtLoop) (n0 : Nat) (c1 : Nat) (n2 : Nat) (n3 : Nat) (n4 : Nat) (l5 : List Value) (x6 : Int) (x7 : Int) (x8 : Int) (x9 : Int) (x10 : Int) (x11 : Int) (l12 : List Value) (l13 : List Value) (l14 : List Value) (k : List D → Prop) : Prop := wpNext Try.prog (hF7 C) L 11 2 .normal [(0, (Value.slice (some ⟨500, 0, none⟩) n0 c1)), (4, (Value.pointer (some ⟨1000, 0, none⟩))), (5, (Value.pointer (some ⟨1001, 0, none⟩))), (7, (Value.slice (some ⟨1002, 0, none⟩) n2 n2)), (9, (Value.slice (some ⟨1003, 0, none⟩) n3 n3)), (13, (Value.slice (some ⟨1004, 0, none⟩) n4 n4))] [(500, (AObj.sym l5 false 1)), (1000, (AObj.cells [(Value.int .i64 x6), (Value.int .i64 x7), (Value.int .i64 x8)] 101 false 1)), (1001, (AObj.cells [(Value.int .i64 x9), (Value.int .i64 x10), (Value.int .i64 x11)] 106 false 1)), (1002, (AObj.sym l12 true 1)), (1003, (AObj.sym l13 true 1)), (1004, (AObj.sym l14 true 1))] (dataK k)
theorem nLb8_text (C : Ct) (L : AtLoop) (n0 : Nat) (c1 : Nat) (n2 : Nat) (n3 : Nat) (n4 : Nat) (l5 : List Go.Value) (x6 : Int) (x7 : Int) (x8 : Int) (x9 : Int) (x10 : Int) (x11 : Int) (l12 : List Go.Value) (l13 : List Go.Value) (l14 : List Go.Value) (k : List D → Prop) : nLb8 C L n0 c1 n2 n3 n4 l5 x6 x7 x8 x9 x10 x11 l12 l13 l14 k =
 ((((vI x10) = (vI x10)) ∧
 (((Go.Value.pointer (Option.some (Go.Addr.mk 1001 1 Option.none))) = (Go.Value.pointer (Option.some (Go.Addr.mk 1001 1 Option.none)))) ∧
 (((Go.Value.agg [(vI x6), (vI x7), (vI x8)].toArray) = (Go.Value.agg [(vI x6), (vI x7), (vI x8)].toArray)) ∧
 (((Go.Value.slice (Option.some (Go.Addr.mk 1002 0 Option.none)) (n2) (n2)) = (Go.Value.slice (Option.some (Go.Addr.mk 1002 0 Option.none)) (n2) (n2))) ∧
 True)))) ∧
 (bcase (decide (0 + n2 * 1 ≤ List.length l12))
 ((Says C 15 [(D.sl (n2) 1 (List.take (n2 * 1) (List.drop 0 l12)))] [(D.sl (n2) 1 (List.take (n2 * 1) (List.drop 0 l12)))]) ∧
 ((((vI x10) = (vI x10)) ∧
 (((Go.Value.pointer (Option.some (Go.Addr.mk 1001 1 Option.none))) = (Go.Value.pointer (Option.some (Go.Addr.mk 1001 1 Option.none)))) ∧
 (((Go.Value.agg [(vI x6), (vI x7), (vI x8)].toArray) = (Go.Value.agg [(vI x6), (vI x7), (vI x8)].toArray)) ∧
 True))) ∧
 (bcase (decide (0 + n2 * 1 ≤ List.length (List.take (n2 * 1) (List.drop 0 l12))))
 ((∃ n1 : Int,
 ((Says C 59 [(D.sl (n2) 1 (List.take (n2 * 1) (List.drop 0 (List.take (n2 * 1) (List.drop 0 l12))))), (D.agg [(D.val (vI x6)), (D.val (vI x7)), (D.val (vI x8))]), (D.val (vI x10))] [D.nil, (D.val (vI n1))]) ∧
 ((((vI n1) = (vI n1)) ∧
 (((Go.Value.slice Option.none 0 0) = (Go.Value.slice Option.none 0 0)) ∧
 (((Go.Value.tuple [(Go.Value.slice Option.none 0 0), (vI n1)].toArray) = (Go.Value.tuple [(Go.Value.slice Option.none 0 0), (vI n1)].toArray)) ∧
 (((Go.Value.pointer (Option.some (Go.Addr.mk 1001 1 Option.none))) = (Go.Value.pointer (Option.some (Go.Addr.mk 1001 1 Option.none)))) ∧
 True)))) ∧
 ((((vI n1) = (vI n1)) ∧
 True) ∧
 (True ∧
 (bcase (decide (0 + n4 * 1 ≤ List.length l14))
 ((∃ n5 : Int,
 ((Says C 59 [(D.sl (n4) 1 (List.take (n4 * 1) (List.drop 0 l14))), (D.agg [(D.val (vI x6)), (D.val (vI x7)), (D.val (vI x8))]), (D.val (vI x9))] [D.nil, (D.val (vI n5))]) ∧
 (bcase (n1 != 0)
 (k [(D.val (Value.bool false))])
 (bcase (decide (0 + n3 * 1 ≤ List.length l13))
 (((Says C 36 [D.nil, (D.sl (n3) 1 (List.take (n3 * 1) (List.drop 0 l13)))] [(D.val (Value.bool true))]) ∧
 (bcase (n5 != 0)
 (k [(D.val (Value.bool false))])
 (bcase ((↑0 : Int) != (↑n0 : Int))
 (k [(D.val (Value.bool false))])
 (L 4 [(Prod.mk 0 (Go.Value.slice (Option.some (Go.Addr.mk 500 0 Option.none)) (n0) (c1))), (Prod.mk 7 (Go.Value.slice (Option.some (Go.Addr.mk 1000 0 Option.none)) (n2) (n2))), (Prod.mk 18 (Go.Value.slice Option.none 0 0)), (Prod.mk 20 (vI (0 : Int)))] [(Prod.mk 500 (AObj.sym (l5) false 1)), (Prod.mk 1000 (AObj.sym (l12) true 1))])))) ∨
 ((Says C 36 [D.nil, (D.sl (n3) 1 (List.take (n3 * 1) (List.drop 0 l13)))] [(D.val (Value.bool false))]) ∧
 (k [(D.val (Value.bool false))])))
 False)))) ∨
 (∃ n5 : Nat,
 (∃ cs1 : List Go.Value,
 (∃ n6 : Int,
 ((Says C 59 [(D.sl (n4) 1 (List.take (n4 * 1) (List.drop 0 l14))), (D.agg [(D.val (vI x6)), (D.val (vI x7)), (D.val (vI x8))]), (D.val (vI x9))] [(D.sl (n5) 1 (cs1)), (D.val (vI n6))]) ∧
 (bcase (n1 != 0)
 (k [(D.val (Value.bool false))])
 (bcase (decide (0 + n3 * 1 ≤ List.length l13))
 (((Says C 36 [D.nil, (D.sl (n3) 1 (List.take (n3 * 1) (List.drop 0 l13)))] [(D.val (Value.bool true))]) ∧
 (bcase (n6 != 0)
 (k [(D.val (Value.bool false))])
 (bcase ((↑n5 : Int) != (↑n0 : Int))
 (k [(D.val (Value.bool false))])
 (L 4 [(Prod.mk 0 (Go.Value.slice (Option.some (Go.Addr.mk 500 0 Option.none)) (n0) (c1))), (Prod.mk 7 (Go.Value.slice (Option.some (Go.Addr.mk 1000 0 Option.none)) (n2) (n2))), (Prod.mk 18 (Go.Value.slice (Option.some (Go.Addr.mk 1001 0 Option.none)) (n5) (n5))), (Prod.mk 20 (vI (0 : Int)))] [(Prod.mk 500 (AObj.sym (l5) false 1)), (Prod.mk 1000 (AObj.sym (l12) true 1)), (Prod.mk 1001 (AObj.sym (cs1) true 1))])))) ∨
 ((Says C 36 [D.nil, (D.sl (n3) 1 (List.take (n3 * 1) (List.drop 0 l13)))] [(D.val (Value.bool false))]) ∧
 (k [(D.val (Value.bool false))])))
 False)))))))
 False)))))) ∨
 (∃ n1 : Nat,
 (∃ cs1 : List Go.Value,
 (∃ n5 : Int,
 ((Says C 59 [(D.sl (n2) 1 (List.take (n2 * 1) (List.drop 0 (List.take (n2 * 1) (List.drop 0 l12))))), (D.agg [(D.val (vI x6)), (D.val (vI x7)), (D.val (vI x8))]), (D.val (vI x10))] [(D.sl (n1) 1 (cs1)), (D.val (vI n5))]) ∧
 ((((vI n5) = (vI n5)) ∧
 (((Go.Value.slice (Option.some (Go.Addr.mk 1006 0 Option.none)) (n1) (n1)) = (Go.Value.slice (Option.some (Go.Addr.mk 1006 0 Option.none)) (n1) (n1))) ∧
 (((Go.Value.tuple [(Go.Value.slice (Option.some (Go.Addr.mk 1006 0 Option.none)) (n1) (n1)), (vI n5)].toArray) = (Go.Value.tuple [(Go.Value.slice (Option.some (Go.Addr.mk 1006 0 Option.none)) (n1) (n1)), (vI n5)].toArray)) ∧
 (((Go.Value.pointer (Option.some (Go.Addr.mk 1001 1 Option.none))) = (Go.Value.pointer (Option.some (Go.Addr.mk 1001 1 Option.none)))) ∧
 True)))) ∧
 ((((vI n5) = (vI n5)) ∧
 True) ∧
 (True ∧
 (bcase (decide (0 + n4 * 1 ≤ List.length l14))
 ((∃ n6 : Int,
 ((Says C 59 [(D.sl (n4) 1 (List.take (n4 * 1) (List.drop 0 l14))), (D.agg [(D.val (vI x6)), (D.val (vI x7)), (D.val (vI x8))]), (D.val (vI x9))] [D.nil, (D.val (vI n6))]) ∧
 (bcase (n5 != 0)
 (k [(D.val (Value.bool false))])
 (bcase (decide (0 + n1 * 1 ≤ List.length cs1))
 (bcase (decide (0 + n3 * 1 ≤ List.length l13))
 (((Says C 36 [(D.sl (n1) 1 (List.take (n1 * 1) (List.drop 0 cs1))), (D.sl (n3) 1 (List.take (n3 * 1) (List.drop 0 l13)))] [(D.val (Value.bool true))]) ∧
 (bcase (n6 != 0)
 (k [(D.val (Value.bool false))])
 (bcase ((↑0 : Int) != (↑n0 : Int))
 (k [(D.val (Value.bool false))])
 (L 4 [(Prod.mk 0 (Go.Value.slice (Option.some (Go.Addr.mk 500 0 Option.none)) (n0) (c1))), (Prod.mk 7 (Go.Value.slice (Option.some (Go.Addr.mk 1000 0 Option.none)) (n2) (n2))), (Prod.mk 18 (Go.Value.slice Option.none 0 0)), (Prod.mk 20 (vI (0 : Int)))] [(Prod.mk 500 (AObj.sym (l5) false 1)), (Prod.mk 1000 (AObj.sym (l12) true 1))])))) ∨
 ((Says C 36 [(D.sl (n1) 1 (List.take (n1 * 1) (List.drop 0 cs1))), (D.sl (n3) 1 (List.take (n3 * 1) (List.drop 0 l13)))] [(D.val (Value.bool false))]) ∧
 (k [(D.val (Value.bool false))])))
 False)
 False)))) ∨
 (∃ n6 : Nat,
 (∃ cs2 : List Go.Value,
 (∃ n7 : Int,
 ((Says C 59 [(D.sl (n4) 1 (List.take (n4 * 1) (List.drop 0 l14))), (D.agg [(D.val (vI x6)), (D.val (vI x7)), (D.val (vI x8))]), (D.val (vI x9))] [(D.sl (n6) 1 (cs2)), (D.val (vI n7))]) ∧
 (bcase (n5 != 0)
 (k [(D.val (Value.bool false))])
 (bcase (decide (0 + n1 * 1 ≤ List.length cs1))
 (bcase (decide (0 + n3 * 1 ≤ List.length l13))
 (((Says C 36 [(D.sl (n1) 1 (List.take (n1 * 1) (List.drop 0 cs1))), (D.sl (n3) 1 (List.take (n3 * 1) (List.drop 0 l13)))] [(D.val (Value.bool true))]) ∧
 (bcase (n7 != 0)
 (k [(D.val (Value.bool false))])
 (bcase ((↑n6 : Int) != (↑n0 : Int))
 (k [(D.val (Value.bool false))])
 (L 4 [(Prod.mk 0 (Go.Value.slice (Option.some (Go.Addr.mk 500 0 Option.none)) (n0) (c1))), (Prod.mk 7 (Go.Value.slice (Option.some (Go.Addr.mk 1000 0 Option.none)) (n2) (n2))), (Prod.mk 18 (Go.Value.slice (Option.some (Go.Addr.mk 1001 0 Option.none)) (n6) (n6))), (Prod.mk 20 (vI (0 : Int)))] [(Prod.mk 500 (AObj.sym (l5) false 1)), (Prod.mk 1000 (AObj.sym (l12) true 1)), (Prod.mk 1001 (AObj.sym (cs2) true 1))])))) ∨
 ((Says C 36 [(D.sl (n1) 1 (List.take (n1 * 1) (List.drop 0 cs1))), (D.sl (n3) 1 (List.take (n3 * 1) (List.drop 0 l13)))] [(D.val (Value.bool false))]) ∧
 (k [(D.val (Value.bool false))])))
 False)
 False)))))))
 False)))))))))
 False)))
 False)) := by kernel_rfl
abbrev zLb9 (n0 : Nat) (c1 : Nat) (n2 : Nat) (n3 : Nat) (x4 : Int) (l5 : List Value) (l6 : List Value) (l7 : List Value) : Slots × Blocks := ([(0, (Value.slice (some ⟨500, 0, none⟩) n0 c1)), (7, (Value.slice (some ⟨1000, 0, none⟩) n2 n2)), (18, (Value.slice (some ⟨1001, 0, none⟩) n3 n3)), (20, (Value.int .i64 x4))], [(500, (AObj.sym l5 false 1)), (1000, (AObj.sym l6 true 1)), (1001, (AObj.sym l7 true 1))])
def rLb9 (C : Ct) (L : AtLoop) (n0 : Nat) (c1 : Nat) (n2 : Nat) (n3 : Nat) (x4 : Int) (l5 : List Value) (l6 : List Value) (l7 : List Value) (B : Bx) (X : Xx) (k : List D → Prop) : Prop := wpRound Try.prog (hF7 C) L 11 4 [(0, (Value.slice (some ⟨500, 0, none⟩) n0 c1)), (7, (Value.slice (some ⟨1000, 0, none⟩) n2 n2)), (18, (Value.slice (some ⟨1001, 0, none⟩) n3 n3)), (20, (Value.int .i64 x4))] [(500, (AObj.sym l5 false 1)), (1000, (AObj.sym l6 true 1)), (1001, (AObj.sym l7 true 1))] B X (dataK k)
theorem rLb9_text (C : Ct) (L : AtLoop) (n0 : Nat) (c1 : Nat) (n2 : Nat) (n3 : Nat) (x4 : Int) (l5 : List Go.Value) (l6 : List Go.Value) (l7 : List Go.Value) (B : Bx) (X : Xx) (k : List D → Prop) : rLb9 C L n0 c1 n2 n3 x4 l5 l6 l7 B X k =
 (bcase (decide (x4 < (↑n0 : Int)))
 (bcase (decide (0 ≤ x4))
 (bcase (decide (x4 < (↑n3 : Int)))
 (∃ n1 : Int,
 ((At (l7) (0 + Int.toNat x4 * 1) 1 [(vI n1)]) ∧
 (bcase (decide (0 ≤ x4))
 (bcase (decide (x4 < (↑n2 : Int)))
 (∃ n4 : Int,
 ((At (l6) (0 + Int.toNat x4 * 1) 1 [(vI n4)]) ∧
 (bcase (decide (n1 < n4))
 (((bcase (decide (n1 < n4))
 ((Value.bool true) = (Value.bool true))
 ((Value.bool false) = (Value.bool true))) ∧
 ((∃ n5 : Int,
 ((At (l6) (0 + Int.toNat x4 * 1) 1 [(vI n5)]) ∧
 ((vI n5) = (vI n4)))) ∧
 ((bcase (decide (0 ≤ x4))
 (bcase (decide (x4 < (↑n2 : Int)))
 ((Go.Value.pointer (Option.some (Go.Addr.mk 1000 (0 + Int.toNat x4 * 1) Option.none))) = (Go.Value.pointer (Option.some (Go.Addr.mk 1000 (0 + Int.toNat x4 * 1) Option.none))))
 False)
 False) ∧
 (((vI x4) = (vI x4)) ∧
 (((Go.Value.slice (Option.some (Go.Addr.mk 1000 0 Option.none)) (n2) (n2)) = (Go.Value.slice (Option.some (Go.Addr.mk 1000 0 Option.none)) (n2) (n2))) ∧
 ((∃ n5 : Int,
 ((At (l7) (0 + Int.toNat x4 * 1) 1 [(vI n5)]) ∧
 ((vI n5) = (vI n1)))) ∧
 ((bcase (decide (0 ≤ x4))
 (bcase (decide (x4 < (↑n3 : Int)))
 ((Go.Value.pointer (Option.some (Go.Addr.mk 1001 (0 + Int.toNat x4 * 1) Option.none))) = (Go.Value.pointer (Option.some (Go.Addr.mk 1001 (0 + Int.toNat x4 * 1) Option.none))))
 False)
 False) ∧
 (((vI x4) = (vI x4)) ∧
 (((Go.Value.slice (Option.some (Go.Addr.mk 1001 0 Option.none)) (n3) (n3)) = (Go.Value.slice (Option.some (Go.Addr.mk 1001 0 Option.none)) (n3) (n3))) ∧
 True))))))))) ∧
 (k [(D.val (Value.bool false))]))
 (((bcase (decide (n1 < n4))
 ((Value.bool true) = (Value.bool false))
 ((Value.bool false) = (Value.bool false))) ∧
 ((∃ n5 : Int,
 ((At (l6) (0 + Int.toNat x4 * 1) 1 [(vI n5)]) ∧
 ((vI n5) = (vI n4)))) ∧
 ((bcase (decide (0 ≤ x4))
 (bcase (decide (x4 < (↑n2 : Int)))
 ((Go.Value.pointer (Option.some (Go.Addr.mk 1000 (0 + Int.toNat x4 * 1) Option.none))) = (Go.Value.pointer (Option.some (Go.Addr.mk 1000 (0 + Int.toNat x4 * 1) Option.none))))
 False)
 False) ∧
 (((vI x4) = (vI x4)) ∧
 (((Go.Value.slice (Option.some (Go.Addr.mk 1000 0 Option.none)) (n2) (n2)) = (Go.Value.slice (Option.some (Go.Addr.mk 1000 0 Option.none)) (n2) (n2))) ∧
 ((∃ n5 : Int,
 ((At (l7) (0 + Int.toNat x4 * 1) 1 [(vI n5)]) ∧
 ((vI n5) = (vI n1)))) ∧
 ((bcase (decide (0 ≤ x4))
 (bcase (decide (x4 < (↑n3 : Int)))
 ((Go.Value.pointer (Option.some (Go.Addr.mk 1001 (0 + Int.toNat x4 * 1) Option.none))) = (Go.Value.pointer (Option.some (Go.Addr.mk 1001 (0 + Int.toNat x4 * 1) Option.none))))
 False)
 False) ∧
 (((vI x4) = (vI x4)) ∧
 (((Go.Value.slice (Option.some (Go.Addr.mk 1001 0 Option.none)) (n3) (n3)) = (Go.Value.slice (Option.some (Go.Addr.mk 1001 0 Option.none)) (n3) (n3))) ∧
 True))))))))) ∧
 (B [(Prod.mk 0 (Go.Value.slice (Option.some (Go.Addr.mk 500 0 Option.none)) (n0) (c1))), (Prod.mk 7 (Go.Value.slice (Option.some (Go.Addr.mk 1000 0 Option.none)) (n2) (n2))), (Prod.mk 18 (Go.Value.slice (Option.some (Go.Addr.mk 1001 0 Option.none)) (n3) (n3))), (Prod.mk 20 (vI (IntKind.wrap .i64 (x4 + 1))))] [(Prod.mk 500 (AObj.sym (l5) false 1)), (Prod.mk 1000 (AObj.sym (l6) true 1)), (Prod.mk 1001 (AObj.sym (l7) true 1))])))))
 False)
 False)))
 False)
 False)
 (X 4 [] [])) := by kernel_rfl
def nLb10 (C : Ct) (L : AtLoop) (k : List D → Prop) : Prop := wpNext Try.prog (hF7 C) L 11 4 .normal [] [] (dataK k)
theorem nLb10_text (C : Ct) (L : AtLoop) (k : List D → Prop) : nLb10 C L k =
 (k [(D.val (Value.bool true))]) := by kernel_rfl
def gLbn (C : Ct) (L : AtLoop) (x1 : Int) (x2 : Int) (x3 : Int) (x4 : Int) (x5 : Int) (x6 : Int) (k : List D → Prop) : Prop := wpFn Try.prog (hF7 C) L 0 11 #[.slice none 0 0, .agg #[.int .i64 x1, .int .i64 x2, .int .i64 x3], .agg #[.int .i64 x4, .int .i64 x5, .int .i64 x6]] (heapOf []) (dataK k)
theorem gLbn_text (C : Ct) (L : AtLoop) (x1 : Int) (x2 : Int) (x3 : Int) (x4 : Int) (x5 : Int) (x6 : Int) (k : List D → Prop) : gLbn C L x1 x2 x3 x4 x5 x6 k =
 (((Says C 12 [] [(D.val (Value.bool true))]) ∧
 (∃ n1 : Int,
 ((Says C 60 [D.nil, (D.agg [(D.val (vI x1)), (D.val (vI x2)), (D.val (vI x3))]), (D.val (vI (0 : Int)))] [(D.val (vI n1))]) ∧
 (bcase (n1 != 0)
 (k [(D.val (Value.bool true))])
 (((Says C 23 [(D.val (vI x4)), (D.val (vI (0 : Int))), (D.val (vI (100 : Int)))] [(D.val (Value.bool true))]) ∧
 (((Says C 23 [(D.val (vI x5)), (D.val (vI (0 : Int))), (D.val (vI (100 : Int)))] [(D.val (Value.bool true))]) ∧
 (((Says C 23 [(D.val (vI x6)), (D.val (vI (0 : Int))), (D.val (vI (1000 : Int)))] [(D.val (Value.bool true))]) ∧
 ((((vI x4) = (vI x4)) ∧
 (((Go.Value.pointer (Option.some (Go.Addr.mk 1001 0 Option.none))) = (Go.Value.pointer (Option.some (Go.Addr.mk 1001 0 Option.none)))) ∧
 (((Go.Value.agg [(vI x1), (vI x2), (vI x3)].toArray) = (Go.Value.agg [(vI x1), (vI x2), (vI x3)].toArray)) ∧
 (((Go.Value.slice Option.none 0 0) = (Go.Value.slice Option.none 0 0)) ∧
 True)))) ∧
 ((Says C 15 [D.nil] [(D.sl 0 1 [])]) ∧
 ((((vI x4) = (vI x4)) ∧
 (((Go.Value.pointer (Option.some (Go.Addr.mk 1001 0 Option.none))) = (Go.Value.pointer (Option.some (Go.Addr.mk 1001 0 Option.none)))) ∧
 (((Go.Value.agg [(vI x1), (vI x2), (vI x3)].toArray) = (Go.Value.agg [(vI x1), (vI x2), (vI x3)].toArray)) ∧
 True))) ∧
 ((∃ n2 : Int,
 ((Says C 59 [(D.sl 0 1 []), (D.agg [(D.val (vI x1)), (D.val (vI x2)), (D.val (vI x3))]), (D.val (vI x4))] [D.nil, (D.val (vI n2))]) ∧
 ((((vI n2) = (vI n2)) ∧
 (((Go.Value.slice Option.none 0 0) = (Go.Value.slice Option.none 0 0)) ∧
 (((Go.Value.tuple [(Go.Value.slice Option.none 0 0), (vI n2)].toArray) = (Go.Value.tuple [(Go.Value.slice Option.none 0 0), (vI n2)].toArray)) ∧
 (((Go.Value.pointer (Option.some (Go.Addr.mk 1001 0 Option.none))) = (Go.Value.pointer (Option.some (Go.Addr.mk 1001 0 Option.none)))) ∧
 True)))) ∧
 ((((vI n2) = (vI n2)) ∧
 True) ∧
 (True ∧
 ((((vI (IntKind.wrap .i64 (x4 + x5))) = (vI (IntKind.wrap .i64 (x4 + x5)))) ∧
 (((vI x5) = (vI x5)) ∧
 (((Go.Value.pointer (Option.some (Go.Addr.mk 1001 1 Option.none))) = (Go.Value.pointer (Option.some (Go.Addr.mk 1001 1 Option.none)))) ∧
 (((vI x4) = (vI x4)) ∧
 (((Go.Value.pointer (Option.some (Go.Addr.mk 1001 0 Option.none))) = (Go.Value.pointer (Option.some (Go.Addr.mk 1001 0 Option.none)))) ∧
 (((Go.Value.agg [(vI x1), (vI x2), (vI x3)].toArray) = (Go.Value.agg [(vI x1), (vI x2), (vI x3)].toArray)) ∧
 (((Go.Value.slice Option.none 0 0) = (Go.Value.slice Option.none 0 0)) ∧
 True))))))) ∧
 ((Says C 15 [D.nil] [(D.sl 0 1 [])]) ∧
 ((((vI (IntKind.wrap .i64 (x4 + x5))) = (vI (IntKind.wrap .i64 (x4 + x5)))) ∧
 (((vI x5) = (vI x5)) ∧
 (((Go.Value.pointer (Option.some (Go.Addr.mk 1001 1 Option.none))) = (Go.Value.pointer (Option.some (Go.Addr.mk 1001 1 Option.none)))) ∧
 (((vI x4) = (vI x4)) ∧
 (((Go.Value.pointer (Option.some (Go.Addr.mk 1001 0 Option.none))) = (Go.Value.pointer (Option.some (Go.Addr.mk 1001 0 Option.none)))) ∧
 (((Go.Value.agg [(vI x1), (vI x2), (vI x3)].toArray) = (Go.Value.agg [(vI x1), (vI x2), (vI x3)].toArray)) ∧
 True)))))) ∧
 ((∃ n3 : Int,
 ((Says C 59 [(D.sl 0 1 []), (D.agg [(D.val (vI x1)), (D.val (vI x2)), (D.val (vI x3))]), (D.val (vI (IntKind.wrap .i64 (x4 + x5))))] [D.nil, (D.val (vI n3))]) ∧
 ((((vI n3) = (vI n3)) ∧
 (((Go.Value.slice Option.none 0 0) = (Go.Value.slice Option.none 0 0)) ∧
 (((Go.Value.tuple [(Go.Value.slice Option.none 0 0), (vI n3)].toArray) = (Go.Value.tuple [(Go.Value.slice Option.none 0 0), (vI n3)].toArray)) ∧
 (((vI x5) = (vI x5)) ∧
 (((Go.Value.pointer (Option.some (Go.Addr.mk 1001 1 Option.none))) = (Go.Value.pointer (Option.some (Go.Addr.mk 1001 1 Option.none)))) ∧
 (((vI x4) = (vI x4)) ∧
 (((Go.Value.pointer (Option.some (Go.Addr.mk 1001 0 Option.none))) = (Go.Value.pointer (Option.some (Go.Addr.mk 1001 0 Option.none)))) ∧
 True))))))) ∧
 ((((vI n3) = (vI n3)) ∧
 True) ∧
 (True ∧
 (bcase (n2 != 0)
 (k [(D.val (Value.bool false))])
 (bcase (n3 != 0)
 (k [(D.val (Value.bool false))])
 ((((vI x1) = (vI x1)) ∧
 (((Go.Value.pointer (Option.some (Go.Addr.mk 1000 0 Option.none))) = (Go.Value.pointer (Option.some (Go.Addr.mk 1000 0 Option.none)))) ∧
 (((vI x1) = (vI x1)) ∧
 (((Go.Value.pointer (Option.some (Go.Addr.mk 1000 0 Option.none))) = (Go.Value.pointer (Option.some (Go.Addr.mk 1000 0 Option.none)))) ∧
 True)))) ∧
 ((((vI x1) = (vI x1)) ∧
 (((Go.Value.pointer (Option.some (Go.Addr.mk 1000 0 Option.none))) = (Go.Value.pointer (Option.some (Go.Addr.mk 1000 0 Option.none)))) ∧
 True)) ∧
 (True ∧
 (L 0 [(Prod.mk 0 (Go.Value.slice Option.none 0 0)), (Prod.mk 4 (Go.Value.pointer (Option.some (Go.Addr.mk 1000 0 Option.none)))), (Prod.mk 5 (Go.Value.pointer (Option.some (Go.Addr.mk 1001 0 Option.none)))), (Prod.mk 7 (Go.Value.slice Option.none 0 0)), (Prod.mk 9 (Go.Value.slice Option.none 0 0)), (Prod.mk 11 (vI x1)), (Prod.mk 12 (vI x1)), (Prod.mk 13 (Go.Value.slice Option.none 0 0)), (Prod.mk 14 (vI (0 : Int)))] [(Prod.mk 1000 (AObj.cells [(vI x1), (vI x2), (vI x3)] 101 false 1)), (Prod.mk 1001 (AObj.cells [(vI x4), (vI x5), (vI x6)] 106 false 1))]))))))))))) ∨
 (∃ n3 : Nat,
 (∃ cs1 : List Go.Value,
 (∃ n4 : Int,
 ((Says C 59 [(D.sl 0 1 []), (D.agg [(D.val (vI x1)), (D.val (vI x2)), (D.val (vI x3))]), (D.val (vI (IntKind.wrap .i64 (x4 + x5))))] [(D.sl (n3) 1 (cs1)), (D.val (vI n4))]) ∧
 ((((vI n4) = (vI n4)) ∧
 (((Go.Value.slice (Option.some (Go.Addr.mk 1004 0 Option.none)) (n3) (n3)) = (Go.Value.slice (Option.some (Go.Addr.mk 1004 0 Option.none)) (n3) (n3))) ∧
 (((Go.Value.tuple [(Go.Value.slice (Option.some (Go.Addr.mk 1004 0 Option.none)) (n3) (n3)), (vI n4)].toArray) = (Go.Value.tuple [(Go.Value.slice (Option.some (Go.Addr.mk 1004 0 Option.none)) (n3) (n3)), (vI n4)].toArray)) ∧
 (((vI x5) = (vI x5)) ∧
 (((Go.Value.pointer (Option.some (Go.Addr.mk 1001 1 Option.none))) = (Go.Value.pointer (Option.some (Go.Addr.mk 1001 1 Option.none)))) ∧
 (((vI x4) = (vI x4)) ∧
 (((Go.Value.pointer (Option.some (Go.Addr.mk 1001 0 Option.none))) = (Go.Value.pointer (Option.some (Go.Addr.mk 1001 0 Option.none)))) ∧
 True))))))) ∧
 ((((vI n4) = (vI n4)) ∧
 True) ∧
 (True ∧
 (bcase (n2 != 0)
 (k [(D.val (Value.bool false))])
 (bcase (n4 != 0)
 (k [(D.val (Value.bool false))])
 (bcase ((↑n3 : Int) != (↑0 : Int))
 (k [(D.val (Value.bool false))])
 ((((vI x1) = (vI x1)) ∧
 (((Go.Value.pointer (Option.some (Go.Addr.mk 1000 0 Option.none))) = (Go.Value.pointer (Option.some (Go.Addr.mk 1000 0 Option.none)))) ∧
 (((vI x1) = (vI x1)) ∧
 (((Go.Value.pointer (Option.some (Go.Addr.mk 1000 0 Option.none))) = (Go.Value.pointer (Option.some (Go.Addr.mk 1000 0 Option.none)))) ∧
 True)))) ∧
 ((((vI x1) = (vI x1)) ∧
 (((Go.Value.pointer (Option.some (Go.Addr.mk 1000 0 Option.none))) = (Go.Value.pointer (Option.some (Go.Addr.mk 1000 0 Option.none)))) ∧
 True)) ∧
 (True ∧
 (L 0 [(Prod.mk 0 (Go.Value.slice Option.none 0 0)), (Prod.mk 4 (Go.Value.pointer (Option.some (Go.Addr.mk 1000 0 Option.none)))), (Prod.mk 5 (Go.Value.pointer (Option.some (Go.Addr.mk 1001 0 Option.none)))), (Prod.mk 7 (Go.Value.slice Option.none 0 0)), (Prod.mk 9 (Go.Value.slice (Option.some (Go.Addr.mk 1002 0 Option.none)) (n3) (n3))), (Prod.mk 11 (vI x1)), (Prod.mk 12 (vI x1)), (Prod.mk 13 (Go.Value.slice Option.none 0 0)), (Prod.mk 14 (vI (0 : Int)))] [(Prod.mk 1000 (AObj.cells [(vI x1), (vI x2), (vI x3)] 101 false 1)), (Prod.mk 1001 (AObj.cells [(vI x4), (vI x5), (vI x6)] 106 false 1)), (Prod.mk 1002 (AObj.sym (cs1) true 1))]))))))))))))))))))))))) ∨
 (∃ n2 : Nat,
 (∃ cs1 : List Go.Value,
 (∃ n3 : Int,
 ((Says C 59 [(D.sl 0 1 []), (D.agg [(D.val (vI x1)), (D.val (vI x2)), (D.val (vI x3))]), (D.val (vI x4))] [(D.sl (n2) 1 (cs1)), (D.val (vI n3))]) ∧
 ((((vI n3) = (vI n3)) ∧
 (((Go.Value.slice (Option.some (Go.Addr.mk 1003 0 Option.none)) (n2) (n2)) = (Go.Value.slice (Option.some (Go.Addr.mk 1003 0 Option.none)) (n2) (n2))) ∧
 (((Go.Value.tuple [(Go.Value.slice (Option.some (Go.Addr.mk 1003 0 Option.none)) (n2) (n2)), (vI n3)].toArray) = (Go.Value.tuple [(Go.Value.slice (Option.some (Go.Addr.mk 1003 0 Option.none)) (n2) (n2)), (vI n3)].toArray)) ∧
 (((Go.Value.pointer (Option.some (Go.Addr.mk 1001 0 Option.none))) = (Go.Value.pointer (Option.some (Go.Addr.mk 1001 0 Option.none)))) ∧
 True)))) ∧
 ((((vI n3) = (vI n3)) ∧
 True) ∧
 (True ∧
 ((((vI (IntKind.wrap .i64 (x4 + x5))) = (vI (IntKind.wrap .i64 (x4 + x5)))) ∧
 (((vI x5) = (vI x5)) ∧
 (((Go.Value.pointer (Option.some (Go.Addr.mk 1001 1 Option.none))) = (Go.Value.pointer (Option.some (Go.Addr.mk 1001 1 Option.none)))) ∧
 (((vI x4) = (vI x4)) ∧
 (((Go.Value.pointer (Option.some (Go.Addr.mk 1001 0 Option.none))) = (Go.Value.pointer (Option.some (Go.Addr.mk 1001 0 Option.none)))) ∧
 (((Go.Value.agg [(vI x1), (vI x2), (vI x3)].toArray) = (Go.Value.agg [(vI x1), (vI x2), (vI x3)].toArray)) ∧
 (((Go.Value.slice Option.none 0 0) = (Go.Value.slice Option.none 0 0)) ∧
 True))))))) ∧
 ((Says C 15 [D.nil] [(D.sl 0 1 [])]) ∧
 ((((vI (IntKind.wrap .i64 (x4 + x5))) = (vI (IntKind.wrap .i64 (x4 + x5)))) ∧
 (((vI x5) = (vI x5)) ∧
 (((Go.Value.pointer (Option.some (Go.Addr.mk 1001 1 Option.none))) = (Go.Value.pointer (Option.some (Go.Addr.mk 1001 1 Option.none)))) ∧
 (((vI x4) = (vI x4)) ∧
 (((Go.Value.pointer (Option.some (Go.Addr.mk 1001 0 Option.none))) = (Go.Value.pointer (Option.some (Go.Addr.mk 1001 0 Option.none)))) ∧
 (((Go.Value.agg [(vI x1), (vI x2), (vI x3)].toArray) = (Go.Value.agg [(vI x1), (vI x2), (vI x3)].toArray)) ∧
 True)))))) ∧
 ((∃ n4 : Int,
 ((Says C 59 [(D.sl 0 1 []), (D.agg [(D.val (vI x1)), (D.val (vI x2)), (D.val (vI x3))]), (D.val (vI (IntKind.wrap .i64 (x4 + x5))))] [D.nil, (D.val (vI n4))]) ∧
 ((((vI n4) = (vI n4)) ∧
 (((Go.Value.slice Option.none 0 0) = (Go.Value.slice Option.none 0 0)) ∧
 (((Go.Value.tuple [(Go.Value.slice Option.none 0 0), (vI n4)].toArray) = (Go.Value.tuple [(Go.Value.slice Option.none 0 0), (vI n4)].toArray)) ∧
 (((vI x5) = (vI x5)) ∧
 (((Go.Value.pointer (Option.some (Go.Addr.mk 1001 1 Option.none))) = (Go.Value.pointer (Option.some (Go.Addr.mk 1001 1 Option.none)))) ∧
 (((vI x4) = (vI x4)) ∧
 (((Go.Value.pointer (Option.some (Go.Addr.mk 1001 0 Option.none))) = (Go.Value.pointer (Option.some (Go.Addr.mk 1001 0 Option.none)))) ∧
 True))))))) ∧
 ((((vI n4) = (vI n4)) ∧
 True) ∧
 (True ∧
 (bcase (n3 != 0)
 (k [(D.val (Value.bool false))])
 (bcase (n4 != 0)
 (k [(D.val (Value.bool false))])
 (bcase ((↑n2 : Int) != (↑0 : Int))
 (k [(D.val (Value.bool false))])
 ((((vI x1) = (vI x1)) ∧
 (((Go.Value.pointer (Option.some (Go.Addr.mk 1000 0 Option.none))) = (Go.Value.pointer (Option.some (Go.Addr.mk 1000 0 Option.none)))) ∧
 (((vI x1) = (vI x1)) ∧
 (((Go.Value.pointer (Option.some (Go.Addr.mk 1000 0 Option.none))) = (Go.Value.pointer (Option.some (Go.Addr.mk 1000 0 Option.none)))) ∧
 True)))) ∧
 ((((vI x1) = (vI x1)) ∧
 (((Go.Value.pointer (Option.some (Go.Addr.mk 1000 0 Option.none))) = (Go.Value.pointer (Option.some (Go.Addr.mk 1000 0 Option.none)))) ∧
 True)) ∧
 (True ∧
 (L 0 [(Prod.mk 0 (Go.Value.slice Option.none 0 0)), (Prod.mk 4 (Go.Value.pointer (Option.some (Go.Addr.mk 1000 0 Option.none)))), (Prod.mk 5 (Go.Value.pointer (Option.some (Go.Addr.mk 1001 0 Option.none)))), (Prod.mk 7 (Go.Value.slice (Option.some (Go.Addr.mk 1002 0 Option.none)) (n2) (n2))), (Prod.mk 9 (Go.Value.slice Option.none 0 0)), (Prod.mk 11 (vI x1)), (Prod.mk 12 (vI x1)), (Prod.mk 13 (Go.Value.slice Option.none 0 0)), (Prod.mk 14 (vI (0 : Int)))] [(Prod.mk 1000 (AObj.cells [(vI x1), (vI x2), (vI x3)] 101 false 1)), (Prod.mk 1001 (AObj.cells [(vI x4), (vI x5), (vI x6)] 106 false 1)), (Prod.mk 1002 (AObj.sym (cs1) true 1))])))))))))))) ∨
 (∃ n4 : Nat,
 (∃ cs2 : List Go.Value,
 (∃ n5 : Int,
 ((Says C 59 [(D.sl 0 1 []), (D.agg [(D.val (vI x1)), (D.val (vI x2)), (D.val (vI x3))]), (D.val (vI (IntKind.wrap .i64 (x4 + x5))))] [(D.sl (n4) 1 (cs2)), (D.val (vI n5))]) ∧
 ((((vI n5) = (vI n5)) ∧
 (((Go.Value.slice (Option.some (Go.Addr.mk 1005 0 Option.none)) (n4) (n4)) = (Go.Value.slice (Option.some (Go.Addr.mk 1005 0 Option.none)) (n4) (n4))) ∧
 (((Go.Value.tuple [(Go.Value.slice (Option.some (Go.Addr.mk 1005 0 Option.none)) (n4) (n4)), (vI n5)].toArray) = (Go.Value.tuple [(Go.Value.slice (Option.some (Go.Addr.mk 1005 0 Option.none)) (n4) (n4)), (vI n5)].toArray)) ∧
 (((vI x5) = (vI x5)) ∧
 (((Go.Value.pointer (Option.some (Go.Addr.mk 1001 1 Option.none))) = (Go.Value.pointer (Option.some (Go.Addr.mk 1001 1 Option.none)))) ∧
 (((vI x4) = (vI x4)) ∧
 (((Go.Value.pointer (Option.some (Go.Addr.mk 1001 0 Option.none))) = (Go.Value.pointer (Option.some (Go.Addr.mk 1001 0 Option.none)))) ∧
 True))))))) ∧
 ((((vI n5) = (vI n5)) ∧
 True) ∧
 (True ∧
 (bcase (n3 != 0)
 (k [(D.val (Value.bool false))])
 (bcase (n5 != 0)
 (k [(D.val (Value.bool false))])
 (bcase ((↑n2 : Int) != (↑0 : Int))
 (k [(D.val (Value.bool false))])
 (bcase ((↑n4 : Int) != (↑0 : Int))
 (k [(D.val (Value.bool false))])
 ((((vI x1) = (vI x1)) ∧
 (((Go.Value.pointer (Option.some (Go.Addr.mk 1000 0 Option.none))) = (Go.Value.pointer (Option.some (Go.Addr.mk 1000 0 Option.none)))) ∧
 (((vI x1) = (vI x1)) ∧
 (((Go.Value.pointer (Option.some (Go.Addr.mk 1000 0 Option.none))) = (Go.Value.pointer (Option.some (Go.Addr.mk 1000 0 Option.none)))) ∧
 True)))) ∧
 ((((vI x1) = (vI x1)) ∧
 (((Go.Value.pointer (Option.some (Go.Addr.mk 1000 0 Option.none))) = (Go.Value.pointer (Option.some (Go.Addr.mk 1000 0 Option.none)))) ∧
 True)) ∧
 (True ∧
 (L 0 [(Prod.mk 0 (Go.Value.slice Option.none 0 0)), (Prod.mk 4 (Go.Value.pointer (Option.some (Go.Addr.mk 1000 0 Option.none)))), (Prod.mk 5 (Go.Value.pointer (Option.some (Go.Addr.mk 1001 0 Option.none)))), (Prod.mk 7 (Go.Value.slice (Option.some (Go.Addr.mk 1002 0 Option.none)) (n2) (n2))), (Prod.mk 9 (Go.Value.slice (Option.some (Go.Addr.mk 1003 0 Option.none)) (n4) (n4))), (Prod.mk 11 (vI x1)), (Prod.mk 12 (vI x1)), (Prod.mk 13 (Go.Value.slice Option.none 0 0)), (Prod.mk 14 (vI (0 : Int)))] [(Prod.mk 1000 (AObj.cells [(vI x1), (vI x2), (vI x3)] 101 false 1)), (Prod.mk 1001 (AObj.cells [(vI x4), (vI x5), (vI x6)] 106 false 1)), (Prod.mk 1002 (AObj.sym (cs1) true 1)), (Prod.mk 1003 (AObj.sym (cs2) true 1))]))))))))))))))))))))))))))))))) ∨
 ((Says C 23 [(D.val (vI x6)), (D.val (vI (0 : Int))), (D.val (vI (1000 : Int)))] [(D.val (Value.bool false))]) ∧
 (k [(D.val (Value.bool true))])))) ∨
 ((Says C 23 [(D.val (vI x5)), (D.val (vI (0 : Int))), (D.val (vI (100 : Int)))] [(D.val (Value.bool false))]) ∧
 (k [(D.val (Value.bool true))])))) ∨
 ((Says C 23 [(D.val (vI x4)), (D.val (vI (0 : Int))), (D.val (vI (100 : Int)))] [(D.val (Value.bool false))]) ∧
 (k [(D.val (Value.bool true))]))))))) ∨
 ((Says C 12 [] [(D.val (Value.bool false))]) ∧
 (k [(D.val (Value.bool false))]))) := by kernel_rfl
end Go.Proofs.G5f

/- Chapter 7: FlatBetween, in data. -/
namespace Go.Proofs.G5f
open Go Go.Abs Go.Proofs Go.Proofs.G7
set_option maxRecDepth 100000
def loM (ar : Int) (t : List Int) : Nat → Int
  | 0 => ar
  | i + 1 => if gt t i < loM ar t i then gt t i else loM ar t i
def hiM (ar : Int) (t : List Int) : Nat → Int
  | 0 => ar
  | i + 1 => if gt t i > hiM ar t i then gt t i else hiM ar t i
theorem loM_le (ar : Int) (t : List Int) : ∀ i, loM ar t i ≤ ar ∧ ∀ j, j < i → loM ar t i ≤ gt t j
  | 0 => ⟨Int.le_refl _, fun j hj => absurd hj (Nat.not_lt_zero j)⟩
  | i + 1 => by
    have h := loM_le ar t i
    unfold loM
    split
    · refine ⟨by omega, fun j hj => ?_⟩
      by_cases e : j = i
      · rw [e]; omega
      · have := h.2 j (by omega); omega
    · refine ⟨h.1, fun j hj => ?_⟩
      by_cases e : j = i
      · rw [e]; omega
      · exact h.2 j (by omega)
theorem hiM_ge (ar : Int) (t : List Int) : ∀ i, ar ≤ hiM ar t i ∧ ∀ j, j < i → gt t j ≤ hiM ar t i
  | 0 => ⟨Int.le_refl _, fun j hj => absurd hj (Nat.not_lt_zero j)⟩
  | i + 1 => by
    have h := hiM_ge ar t i
    unfold hiM
    split
    · refine ⟨by omega, fun j hj => ?_⟩
      by_cases e : j = i
      · rw [e]; omega
      · have := h.2 j (by omega); omega
    · refine ⟨h.1, fun j hj => ?_⟩
      by_cases e : j = i
      · rw [e]; omega
      · exact h.2 j (by omega)
def hotV (r : Int) (t : List Int) (i : Nat) : Int := if gt t i + r * ((i % 2 : Nat) : Int) < 100000 then gt t i + r * ((i % 2 : Nat) : Int) else 100000
def hots (r : Int) (t : List Int) : List Int := (List.range t.length).map (hotV r t)
@[simp] theorem hots_length {r : Int} {t : List Int} : (hots r t).length = t.length := by simp [hots]
theorem mod_bd {r : Int} (hr : 0 ≤ r ∧ r ≤ 1000) (i : Nat) : 0 ≤ r * ((i % 2 : Nat) : Int) ∧ r * ((i % 2 : Nat) : Int) ≤ 1000 := by
  have : i % 2 = 0 ∨ i % 2 = 1 := by omega
  rcases this with h | h <;> rw [h] <;> simp <;> omega
theorem hotV_bd {r : Int} (hr : 0 ≤ r ∧ r ≤ 1000) {t : List Int} (ht : Hot t) (i : Nat) : gt t i ≤ hotV r t i ∧ -100000 ≤ hotV r t i ∧ hotV r t i ≤ 100000 := by
  have h1 := hot_gt ht i
  have h2 := mod_bd hr i
  unfold hotV
  split <;> omega
theorem hots_hot {r : Int} (hr : 0 ≤ r ∧ r ≤ 1000) {t : List Int} (ht : Hot t) : Hot (hots r t) := by
  intro z hz
  obtain ⟨i, _, rfl⟩ := List.mem_map.1 hz
  exact (hotV_bd hr ht i).2
theorem hots_ge {r : Int} (hr : 0 ≤ r ∧ r ≤ 1000) {t : List Int} (ht : Hot t) (j : Nat) : gt t j ≤ gt (hots r t) j := by
  by_cases h : j < t.length
  · rw [hots, gt_range _ h]; exact (hotV_bd hr ht j).1
  · rw [gt_out (by omega), gt_out (by simp; omega)]; omega
theorem con3 {t : List Int} {ar c b x y z : Int} : C5 11 [.sl t.length 1 (vi t), .agg [dI ar, dI c, dI b], .agg [dI x, dI y, dI z]] [.val (.bool true)] := by
  let A : List Int := heatsT ar c b x.toNat t
  let B2 : List Int := heatsT ar c b (x + y).toNat t
  let Dd : List Int := heatsT ar c b x.toNat (hots z t)
  let V : Prop := HV t ar c b 0 ∧ (0 ≤ x ∧ x ≤ 100) ∧ (0 ≤ y ∧ y ≤ 100) ∧ (0 ≤ z ∧ z ≤ 1000)
  have hA : A.length = t.length := heatsT_length
  have hB : B2.length = t.length := heatsT_length
  have hD : Dd.length = t.length := by show (heatsT ar c b x.toNat (hots z t)).length = _; simp
  let st0 : Nat × Nat → Slots × Blocks := fun q => match q.1 with
    | 0 => zLb1 t.length q.2 t.length t.length (loM ar t 0) (hiM ar t 0) ((0 : Nat) : Int) (vi t) ar c b x y z (vi A) (vi B2)
    | i + 1 => zLb2 t.length q.2 t.length t.length (loM ar t (i + 1)) (hiM ar t (i + 1)) (i + 1) ((i + 1 : Nat) : Int) (vi t) ar c b x y z (vi A) (vi B2) (vi ((List.range (i + 1)).map (hotV z t)))
  let st2 : Nat × Nat → Slots × Blocks := fun q => zLb6 t.length q.2 t.length t.length (loM ar t t.length) (hiM ar t t.length) t.length (q.1 : Int) (vi t) ar c b x y z (vi A) (vi B2) (vi (hots z t))
  let st4 : Nat × Nat → Slots × Blocks := fun q => zLb9 t.length q.2 t.length t.length (q.1 : Int) (vi t) (vi A) (vi Dd)
  let inv : Nat × Nat → Prop := fun q => V ∧ q.1 ≤ t.length
  refine con_of (L := fun id s b => match id with | 0 => ∃ q, inv q ∧ st0 q = (s, b) | 2 => ∃ q, inv q ∧ st2 q = (s, b) | _ => ∃ q, inv q ∧ st4 q = (s, b)) hok mixed Try.func11 rfl (by show 1 ≤ 400; omega) rfl (ids := [0, 2, 4]) (by kernel_rfl) rfl (fun caps => ?_) (fun id hid => ?_)
  · show gLb _ _ t.length (caps 500) (vi t) ar c b x y z _
    rw [gLb_text]
    refine .inl ⟨⟨conAw⟩, ?_⟩
    by_cases hn : t.length ≤ 1000000
    · have hr : C5 60 [.sl t.length 1 (vi t), .agg [dI ar, dI c, dI b], dI 0] [dI (htE t ar c b 0)] := by
        by_cases h1 : t.length ≤ 1000
        · exact conRH t ar c b 0 h1
        · exact conRHl t ar c b 0 (by omega)
      simp only [bc_t (v1le t), vi_whole, eq_self, true_and]
      refine ⟨_, ⟨hr⟩, bc_bne (fun _ => by trivial) (fun he => ?_)⟩
      have hv := htE_ok.1 he
      have hn2 := hv.n
      by_cases hx : 0 ≤ x ∧ x ≤ 100
      · refine .inl ⟨sayWt hx, ?_⟩
        by_cases hy : 0 ≤ y ∧ y ≤ 100
        · refine .inl ⟨sayWt hy, ?_⟩
          by_cases hz : 0 ≤ z ∧ z ≤ 1000
          · refine .inl ⟨sayWt hz, ⟨conCI t hn⟩, ?_⟩
            have h1 := conHB t ar c b x (by omega)
            have h2 := conHB t ar c b (x + y) (by omega)
            rw [htP, if_pos (htE_ok.2 ⟨hv.n, hv.t, hv.h, hv.r, by omega⟩)] at h1 h2
            rw [w64 (z := x + y) (by omega) (by omega)]
            refine .inr ⟨_, _, _, ⟨h1⟩, ⟨conCI t hn⟩, .inr ⟨_, _, _, ⟨h2⟩, ?_⟩⟩
            refine bc_bne (fun h => absurd rfl h) (fun _ => bc_bne (fun h => absurd rfl h) (fun _ => bc_bne (fun h => absurd rfl h) (fun _ => bc_bne (fun h => absurd rfl h) (fun _ => ?_))))
            exact ⟨(0, caps 500), ⟨⟨hv, hx, hy, hz⟩, Nat.zero_le _⟩, rfl⟩
          · exact .inr ⟨sayWf hz, by trivial⟩
        · exact .inr ⟨sayWf hy, by trivial⟩
      · exact .inr ⟨sayWf hx, by trivial⟩
    · simp only [bc_t (v1le t), vi_whole, eq_self, true_and]
      refine ⟨_, ⟨conRHl t ar c b 0 (by omega)⟩, bc_bne (fun _ => by trivial) (fun he => ?_)⟩
      have := (htE_ok.1 he).n
      omega
  · have hid' : id = 0 ∨ id = 2 ∨ id = 4 := by simpa using hid
    rcases hid' with rfl | rfl | rfl
    · refine ⟨Nat × Nat, st0, inv, fun q => t.length - q.1, ⟨fun s b h => h, by kernel_rfl, ?_⟩⟩
      rintro ⟨i, c1⟩ ⟨⟨hv, hx, hy, hz⟩, hi⟩
      have hi : i ≤ t.length := hi
      have hn := hv.n
      have hb := hotV_bd hz hv.t i
      have hm := mod_bd hz i
      have hg := hot_gt hv.t i
      have e1 : IntKind.wrap .i64 (z * Int.tmod (i : Int) 2) = z * ((i % 2 : Nat) : Int) := by
        rw [Int.tmod_eq_emod_of_nonneg (by omega)]
        exact w64 (show _ ≤ z * ((i % 2 : Nat) : Int) by omega) (show z * ((i % 2 : Nat) : Int) ≤ _ by omega)
      have e2 : IntKind.wrap .i64 (gt t i + z * ((i % 2 : Nat) : Int)) = gt t i + z * ((i % 2 : Nat) : Int) := w64 (by omega) (by omega)
      have wi : i < t.length → IntKind.wrap .i64 ((i : Int) + 1) = ((i + 1 : Nat) : Int) := fun h => by rw [w64 (by omega) (by omega)]; rfl
      cases i with
      | zero =>
        have h0 : 0 < t.length := by omega
        have hat := at_gt (u := t) h0
        show rLb1 _ _ t.length c1 t.length t.length (loM ar t 0) (hiM ar t 0) ((0 : Nat) : Int) (vi t) ar c b x y z (vi A) (vi B2) _ _ _
        rw [rLb1_text]
        simp only [bc_t (show ((0 : Nat) : Int) < (t.length : Int) by omega), bc_t (show (0 : Int) ≤ ((0 : Nat) : Int) by omega), Int.toNat_natCast, at1 hat, wi h0, e1, e2, eq_self, true_and, and_true]
        exact ⟨(1, c1), ⟨⟨hv, hx, hy, hz⟩, h0⟩, by show t.length - 1 < t.length - 0; omega, rfl⟩
      | succ i =>
        show rLb2 _ _ t.length c1 t.length t.length (loM ar t (i + 1)) (hiM ar t (i + 1)) (i + 1) ((i + 1 : Nat) : Int) (vi t) ar c b x y z (vi A) (vi B2) (vi ((List.range (i + 1)).map (hotV z t))) _ _ _
        rw [rLb2_text]
        refine bc_dec (fun h => ?_) (fun h => ?_)
        · have h1 : i + 1 < t.length := by omega
          have hat := at_gt (u := t) h1
          simp only [bc_t h, bc_t (show (0 : Int) ≤ ((i + 1 : Nat) : Int) by omega), Int.toNat_natCast, at1 hat, wi h1, e1, e2, eq_self, true_and, and_true, bc_t (show i + 1 < i + 1 + 1 by omega), bc_t (show (2 * (i + 1 + 1) + 768) * 8 ≤ 281474976710656 by omega), bc_t (show i + 1 + 1 ≤ 1099511627776 by omega), bc_t (show 0 + (i + 1) * 1 ≤ (vi ((List.range (i + 1)).map (hotV z t))).length by simp), bc_t (show 0 + (i + 1) * 1 = (vi ((List.range (i + 1)).map (hotV z t))).length by simp), rg_take]
          refine ⟨(i + 2, c1), ⟨⟨hv, hx, hy, hz⟩, h1⟩, by show t.length - (i + 2) < t.length - (i + 1); omega, ?_⟩
          have := rg_snoc (hotV z t) (i + 1)
          have e3 : (if gt t (i + 1) + z * (((i + 1) % 2 : Nat) : Int) < 100000 then gt t (i + 1) + z * (((i + 1) % 2 : Nat) : Int) else 100000) = hotV z t (i + 1) := rfl
          rw [e3, this]; rfl
        · show (if 0 = 0 then _ else _)
          rw [if_pos rfl]
          show nLb4 _ _ t.length c1 t.length t.length (loM ar t (i + 1)) (hiM ar t (i + 1)) (i + 1) (vi t) ar c b x y z (vi A) (vi B2) (vi ((List.range (i + 1)).map (hotV z t))) _
          rw [nLb4_text]
          have : i + 1 = t.length := by omega
          refine ⟨(0, c1), ⟨⟨hv, hx, hy, hz⟩, Nat.zero_le _⟩, ?_⟩
          rw [this]; rfl
    · refine ⟨Nat × Nat, st2, inv, fun q => t.length - q.1, ⟨fun s b h => h, by kernel_rfl, ?_⟩⟩
      rintro ⟨i, c1⟩ ⟨⟨hv, hx, hy, hz⟩, hi⟩
      have hi : i ≤ t.length := hi
      have hn := hv.n
      have hlo := loM_le ar t t.length
      have hhi := hiM_ge ar t t.length
      have inr : ∀ n, ∀ w ∈ heatsT ar c b n t, loM ar t t.length ≤ w ∧ w ≤ hiM ar t t.length := fun n w hw => ⟨heatsT_lo hv.r hlo.1 (mem_gt (p := fun w => loM ar t t.length ≤ w) hlo.2) w hw, heatsT_hi hv.r hhi.1 (mem_gt (p := fun w => w ≤ hiM ar t t.length) hhi.2) w hw⟩
      show rLb6 _ _ t.length c1 t.length t.length (loM ar t t.length) (hiM ar t t.length) t.length (i : Int) (vi t) ar c b x y z (vi A) (vi B2) (vi (hots z t)) _ _ _
      rw [rLb6_text]
      refine bc_dec (fun h => ?_) (fun h => ?_)
      · have h1 : i < t.length := by omega
        have ha := at_gt (u := A) (i := i) (by omega)
        have hb := at_gt (u := B2) (i := i) (by omega)
        have ra := gt_mem (p := fun w => loM ar t t.length ≤ w ∧ w ≤ hiM ar t t.length) (inr x.toNat) (i := i) (by rw [heatsT_length]; exact h1)
        have rb := gt_mem (p := fun w => loM ar t t.length ≤ w ∧ w ≤ hiM ar t t.length) (inr (x + y).toNat) (i := i) (by rw [heatsT_length]; exact h1)
        simp only [bc_t h, bc_t (show (0 : Int) ≤ (i : Int) by omega), Int.toNat_natCast, at1 ha, at1 hb]
        refine .inl ⟨sayWt ra, .inl ⟨sayWt rb, (i + 1, c1), ⟨⟨hv, hx, hy, hz⟩, h1⟩, by show t.length - (i + 1) < t.length - i; omega, ?_⟩⟩
        rw [w64 (by omega) (by omega)]; rfl
      · show (if 2 = 2 then _ else _)
        rw [if_pos rfl]
        show nLb8 _ _ t.length c1 t.length t.length t.length (vi t) ar c b x y z (vi A) (vi B2) (vi (hots z t)) _
        rw [nLb8_text]
        have va : HV A ar c b y := ⟨by omega, heats_hot hv.h hv.r hv.t _, hv.h, hv.r, by omega⟩
        have vh : HV (hots z t) ar c b x := ⟨by rw [hots_length]; exact hn, hots_hot hz hv.t, hv.h, hv.r, by omega⟩
        have h1 := conHB A ar c b y (by omega)
        have h2 := conHB (hots z t) ar c b x (by rw [hots_length]; omega)
        rw [htP, if_pos (htE_ok.2 va)] at h1
        rw [htP, if_pos (htE_ok.2 vh)] at h2
        have eB : heatsT ar c b y.toNat A = B2 := by
          show _ = heatsT ar c b (x + y).toNat t
          rw [show (x + y).toNat = x.toNat + y.toNat by omega, heatsT_add]
        rw [eB] at h1
        have k1 := conCI A (by omega)
        have w1 := vi_whole A
        have w2 := vi_whole B2
        have w3 := vi_whole (hots z t)
        have l1 := v1le A
        have l2 := v1le B2
        have l3 := v1le (hots z t)
        have e3 := sayIt (l := B2) rfl (by omega)
        rw [hA] at h1 k1 w1 l1
        rw [hB] at w2 l2 e3
        rw [hots_length] at h2 w3 l3
        simp only [bc_t l1, bc_t l2, bc_t l3, w1, w2, w3, eq_self, true_and]
        refine ⟨⟨k1⟩, .inr ⟨_, _, _, ⟨h1⟩, .inr ⟨_, _, _, ⟨h2⟩, ?_⟩⟩⟩
        refine bc_bne (fun h => absurd rfl h) (fun _ => ?_)
        simp only [bc_t l2, w2]
        refine .inl ⟨e3, bc_bne (fun h => absurd rfl h) (fun _ => bc_bne (fun h => absurd rfl h) (fun _ => ?_))⟩
        exact ⟨(0, c1), ⟨⟨hv, hx, hy, hz⟩, Nat.zero_le _⟩, rfl⟩
    · refine ⟨Nat × Nat, st4, inv, fun q => t.length - q.1, ⟨fun s b h => h, by kernel_rfl, ?_⟩⟩
      rintro ⟨i, c1⟩ ⟨⟨hv, hx, hy, hz⟩, hi⟩
      have hi : i ≤ t.length := hi
      have hn := hv.n
      show rLb9 _ _ t.length c1 t.length t.length (i : Int) (vi t) (vi A) (vi Dd) _ _ _
      rw [rLb9_text]
      refine bc_dec (fun h => ?_) (fun h => ?_)
      · have h1 : i < t.length := by omega
        have ha := at_gt (u := A) (i := i) (by omega)
        have hd := at_gt (u := Dd) (i := i) (by omega)
        have hm := heatsT_mono (n := x.toNat) (ar := ar) hv.r (t := t) (u := hots z t) (by simp) (hots_ge hz hv.t) i
        have hm : ¬ gt Dd i < gt A i := by show ¬ gt (heatsT ar c b x.toNat (hots z t)) i < gt (heatsT ar c b x.toNat t) i; omega
        simp only [bc_t h, bc_t (show (0 : Int) ≤ (i : Int) by omega), Int.toNat_natCast, at1 ha, at1 hd, bc_f hm, eq_self, true_and]
        refine ⟨(i + 1, c1), ⟨⟨hv, hx, hy, hz⟩, h1⟩, by show t.length - (i + 1) < t.length - i; omega, ?_⟩
        rw [w64 (by omega) (by omega)]; rfl
      · show (if 4 = 4 then _ else _)
        rw [if_pos rfl]
        show nLb10 _ _ _
        rw [nLb10_text]
theorem con3n {ar c b x y z : Int} : C5 11 [.nil, .agg [dI ar, dI c, dI b], .agg [dI x, dI y, dI z]] [.val (.bool true)] := by
  refine con_of (L := fun _ _ _ => False) hok mixed Try.func11 rfl (by show 0 ≤ 400; omega) rfl (ids := [0, 2, 4]) (by kernel_rfl) rfl (fun caps => ?_) (fun id hid => ?_)
  · show gLbn _ _ ar c b x y z _
    rw [gLbn_text]
    refine .inl ⟨⟨conAw⟩, ?_⟩
    try simp only [eq_self, true_and]
    exact ⟨_, ⟨conRHn ar c b 0⟩, bc_bne (fun _ => by trivial) (fun h => absurd h (by decide))⟩
  · have hid' : id = 0 ∨ id = 2 ∨ id = 4 := by simpa using hid
    rcases hid' with rfl | rfl | rfl <;> exact ⟨Nat, fun _ => ([], []), fun _ => False, fun _ => 0, ⟨fun s b h => h.elim, by kernel_rfl, fun j hj => hj.elim⟩⟩
end Go.Proofs.G5f

/- FlatBetween: whatever the input, it returns true, and the input reads as it did. No condition. -/
namespace Go.Proofs.Ytpjfmeijfkbfaaa.K
open Go Go.Abs Go.RowKit Go.ChangeShapes Go.WideShapes Go.ChangeAt Go.Proofs Go.Flat Go.Proofs.G5f
set_option maxRecDepth 100000
namespace FlatBetween
abbrev shs : List Sh := [.one 22, .agg [3, 3, 3], .agg [3, 3, 3]]
theorem shapes : Try.f11.params.toList.mapM (argSh Try.prog) = some shs := by kernel_rfl
theorem all (ds : List D) (h : ShDs Try.prog shs ds) : Con Try.prog 11 ds [.val (.bool true)] := by
  cases h with | cons h1 t => cases t with | cons h2 t => cases t with | cons h3 t =>
  cases t
  obtain ⟨d2, rfl, h2⟩ := h2
  obtain ⟨d3, rfl, h3⟩ := h3
  cases h2 with | cons p1 t => cases t with | cons p2 t => cases t with | cons p3 t =>
  cases t
  cases h3 with | cons q1 t => cases t with | cons q2 t => cases t with | cons q3 t =>
  cases t
  obtain ⟨x1, rfl, _⟩ := leaf_int Try.underlying3 p1
  obtain ⟨x2, rfl, _⟩ := leaf_int Try.underlying3 p2
  obtain ⟨x3, rfl, _⟩ := leaf_int Try.underlying3 p3
  obtain ⟨x4, rfl, _⟩ := leaf_int Try.underlying3 q1
  obtain ⟨x5, rfl, _⟩ := leaf_int Try.underlying3 q2
  obtain ⟨x6, rfl, _⟩ := leaf_int Try.underlying3 q3
  rcases leaf_ints Try.underlying22 (by kernel_rfl) h1 with rfl | ⟨l, rfl⟩
  · exact con3n
  · exact con3
theorem lifted (os : Os) (started : os.Started) (H : Type) (enc : TypeId × Value → H) :
    ReturnsInHanded {} Try.checked os 11 .any (Rows.flatBetweenSpec.pre6 enc Try.prog Try.f11 Rows.flatBetweenRow.domain false) (Rows.flatBetweenSpec.post enc Try.prog Try.f11 false true false false) := by
  refine returnsInHanded_of_change (C := Try.checked) own started (by kernel_rfl) Try.func11
    (ChangeSpec.witness6 (enc := enc) (C := Try.checked) false ⟨#[], #[.slice none 0 0, .agg #[.int .i64 0, .int .i64 0, .int .i64 0], .agg #[.int .i64 0, .int .i64 0, .int .i64 0]], []⟩ 8 (by kernel_rfl) (by kernel_rfl) (by kernel_rfl) (by kernel_rfl)) ?_
  intro W base args ds gs before hval hW _ _
  exact law_shapes (tb := 4) (s := Rows.flatBetweenSpec) shapes all laidP mapsP slicesP (tsP (by kernel_rfl)) rfl Try.underlying4 rfl (fun ds h => by
    match ds, h with
    | [_, _, _], _ => exact ⟨rfl, rfl, rfl⟩) hval hW
theorem holds : Rows.FlatBetweenSaid :=
  OpenClaim.holds_of_wide 11 Try.f11 rfl rfl rfl rfl rfl rfl rfl ⟨rfl, rfl, rfl, rfl, rfl⟩ rfl rfl rfl rfl rfl (by kernel_rfl) Try.func11 (by kernel_rfl)
    (of_decide_eq_true (by kernel_rfl)) (by unfold Func.isWrapper; first | (rw [if_pos (by decide +kernel)]; kernel_rfl) | (rw [if_neg (by decide +kernel)]; exact ⟨rfl, rfl⟩))
    (fun os started H enc _ => lifted os started H enc)
#print axioms holds
end FlatBetween
end Go.Proofs.Ytpjfmeijfkbfaaa.K
