/- Texts of the proof, put together: GbTF, G5W, GbBH, GbKH. -/
import Derived.Test.YtekodcjnlkfipaaP8
import Derived.Test.YtekodcjnlkfipaaP4
/- What is left to show of each function, written out; the kernel reckons it. -/
namespace Go.Proofs.G5b
open Go Go.Abs Go.Proofs
set_option maxRecDepth 100000
set_option linter.unusedVariables false
def preL (C : Ct) : FuncId → Option Handler := fun g => if [25, 27].contains g then some (saidH Try.prog C) else preK C g
abbrev hL (C : Ct) : Handler := handlerX Try.prog (preL C) 12 6
def gHd (C : Ct) (L : AtLoop) (n0 : Nat) (c0 : Nat) (l0 : List Value) (n1 : Nat) (c1 : Nat) (l1 : List Value) (n2 : Nat) (c2 : Nat) (l2 : List Value) (k : List D → Prop) : Prop := jFn Try.prog (hL C) L [] 6 #[.agg #[.slice (some ⟨500, 0, none⟩) n0 c0], .slice (some ⟨501, 0, none⟩) n1 c1, .slice (some ⟨502, 0, none⟩) n2 c2] (heapOf [(500, .sym l0 false 7), (501, .sym l1 false 1), (502, .sym l2 false 1)]) (dataK k)
theorem gHd_text (C : Ct) (L : AtLoop) (n0 : Nat) (c0 : Nat) (l0 : List Go.Value) (n1 : Nat) (c1 : Nat) (l1 : List Go.Value) (n2 : Nat) (c2 : Nat) (l2 : List Go.Value) (k : List D → Prop) : gHd C L n0 c0 l0 n1 c1 l1 n2 c2 l2 k =
 (((Says C 27 [] [(D.val (Value.bool true))]) ∧
 (bcase (decide ((↑n0 : Int) > 4))
 (k [(D.val (Value.bool true))])
 (bcase (decide (0 + n0 * 7 ≤ List.length l0))
 (∃ n3 : Int,
 ((Says C 21 [(D.agg [(D.sl (n0) 7 (List.take (n0 * 7) (List.drop 0 l0)))])] [(D.val (vI n3))]) ∧
 (bcase (n3 != 0)
 (k [(D.val (Value.bool true))])
 (bcase ((↑n1 : Int) != (↑n0 : Int))
 (k [(D.val (Value.bool true))])
 (bcase ((↑n2 : Int) == 0)
 (k [(D.val (Value.bool true))])
 (bcase (decide ((↑n2 : Int) > 60))
 (k [(D.val (Value.bool true))])
 (L 0 [(Prod.mk 1 (Go.Value.slice (Option.some (Go.Addr.mk 501 0 Option.none)) (n1) (c1))), (Prod.mk 2 (Go.Value.slice (Option.some (Go.Addr.mk 502 0 Option.none)) (n2) (c2))), (Prod.mk 3 (Go.Value.pointer (Option.some (Go.Addr.mk 1000 0 Option.none)))), (Prod.mk 7 (vI (0 : Int)))] [(Prod.mk 501 (AObj.sym (l1) false 1)), (Prod.mk 502 (AObj.sym (l2) false 1)), (Prod.mk 1000 (AObj.cells [(Go.Value.slice (Option.some (Go.Addr.mk 500 0 Option.none)) (n0) (c0))] 24 false 1)), (Prod.mk 500 (AObj.sym (l0) false 7))])))))))
 False))) ∨
 ((Says C 27 [] [(D.val (Value.bool false))]) ∧
 (k [(D.val (Value.bool false))]))) := by kernel_rfl
abbrev zHd1 (n0 : Nat) (c1 : Nat) (n2 : Nat) (c3 : Nat) (x4 : Int) (l5 : List Value) (l6 : List Value) (n7 : Nat) (c8 : Nat) (l9 : List Value) : Slots × Blocks := ([(1, (Value.slice (some ⟨501, 0, none⟩) n0 c1)), (2, (Value.slice (some ⟨502, 0, none⟩) n2 c3)), (3, (Value.pointer (some ⟨1000, 0, none⟩))), (7, (Value.int .i64 x4))], [(501, (AObj.sym l5 false 1)), (502, (AObj.sym l6 false 1)), (1000, (AObj.cells [(Value.slice (some ⟨500, 0, none⟩) n7 c8)] 24 false 1)), (500, (AObj.sym l9 false 7))])
def rHd1 (C : Ct) (L : AtLoop) (n0 : Nat) (c1 : Nat) (n2 : Nat) (c3 : Nat) (x4 : Int) (l5 : List Value) (l6 : List Value) (n7 : Nat) (c8 : Nat) (l9 : List Value) (B : Bx) (X : Xx) (k : List D → Prop) : Prop := jRound Try.prog (hL C) L [] 6 0 [(1, (Value.slice (some ⟨501, 0, none⟩) n0 c1)), (2, (Value.slice (some ⟨502, 0, none⟩) n2 c3)), (3, (Value.pointer (some ⟨1000, 0, none⟩))), (7, (Value.int .i64 x4))] [(501, (AObj.sym l5 false 1)), (502, (AObj.sym l6 false 1)), (1000, (AObj.cells [(Value.slice (some ⟨500, 0, none⟩) n7 c8)] 24 false 1)), (500, (AObj.sym l9 false 7))] B X (dataK k)
theorem rHd1_text (C : Ct) (L : AtLoop) (n0 : Nat) (c1 : Nat) (n2 : Nat) (c3 : Nat) (x4 : Int) (l5 : List Go.Value) (l6 : List Go.Value) (n7 : Nat) (c8 : Nat) (l9 : List Go.Value) (B : Bx) (X : Xx) (k : List D → Prop) : rHd1 C L n0 c1 n2 c3 x4 l5 l6 n7 c8 l9 B X k =
 (bcase (decide (x4 < (↑n0 : Int)))
 (bcase (decide (0 ≤ x4))
 (bcase (decide (x4 < (↑n0 : Int)))
 (∃ n1 : Int,
 ((At (l5) (0 + Int.toNat x4 * 1) 1 [(vI n1)]) ∧
 (bcase (decide (0 ≤ x4))
 (bcase (decide (x4 < (↑n7 : Int)))
 (∃ n3 : Int,
 ((At (l9) (Go.Addr.off { block := 500, off := 0 + Int.toNat x4 * 7 } + 5) 1 [(vI n3)]) ∧
 (bcase (decide (0 ≤ x4))
 (bcase (decide (x4 < (↑n7 : Int)))
 (∃ n4 : Int,
 ((At (l9) (Go.Addr.off (Go.Addr.add { block := 500, off := 0 + Int.toNat x4 * 7 } 5) + 1) 1 [(vI n4)]) ∧
 (((∃ n5 : Int,
 ((At (l9) (Go.Addr.off (Go.Addr.add { block := 500, off := 0 + Int.toNat x4 * 7 } 5) + 1) 1 [(vI n5)]) ∧
 ((vI n5) = (vI n4)))) ∧
 (((Go.Value.pointer (Option.some (Go.Addr.mk 500 (Go.Addr.off { block := 500, off := Go.Addr.off { block := 500, off := 0 + Int.toNat x4 * 7 } + 5 } + 1) Option.none))) = (Go.Value.pointer (Option.some (Go.Addr.mk 500 (Go.Addr.off (Go.Addr.add { block := 500, off := 0 + Int.toNat x4 * 7 } 5) + 1) Option.none)))) ∧
 (((Go.Value.pointer (Option.some (Go.Addr.mk 500 (Go.Addr.off { block := 500, off := 0 + Int.toNat x4 * 7 } + 5) Option.none))) = (Go.Value.pointer (Option.some (Go.Addr.mk 500 (Go.Addr.off { block := 500, off := 0 + Int.toNat x4 * 7 } + 5) Option.none)))) ∧
 ((bcase (decide (0 ≤ x4))
 (bcase (decide (x4 < (↑n7 : Int)))
 ((Go.Value.pointer (Option.some (Go.Addr.mk 500 (0 + Int.toNat x4 * 7) Option.none))) = (Go.Value.pointer (Option.some (Go.Addr.mk 500 (0 + Int.toNat x4 * 7) Option.none))))
 False)
 False) ∧
 (((vI x4) = (vI x4)) ∧
 (((Go.Value.slice (Option.some (Go.Addr.mk 500 0 Option.none)) (n7) (c8)) = (Go.Value.slice (Option.some (Go.Addr.mk 500 0 Option.none)) (n7) (c8))) ∧
 (((Go.Value.pointer (Option.some (Go.Addr.mk 1000 0 Option.none))) = (Go.Value.pointer (Option.some (Go.Addr.mk 1000 0 Option.none)))) ∧
 ((∃ n5 : Int,
 ((At (l9) (Go.Addr.off { block := 500, off := 0 + Int.toNat x4 * 7 } + 5) 1 [(vI n5)]) ∧
 ((vI n5) = (vI n3)))) ∧
 (((Go.Value.pointer (Option.some (Go.Addr.mk 500 (Go.Addr.off { block := 500, off := 0 + Int.toNat x4 * 7 } + 5) Option.none))) = (Go.Value.pointer (Option.some (Go.Addr.mk 500 (Go.Addr.off { block := 500, off := 0 + Int.toNat x4 * 7 } + 5) Option.none)))) ∧
 (((Go.Value.pointer (Option.some (Go.Addr.mk 500 (Go.Addr.off { block := 500, off := 0 + Int.toNat x4 * 7 } + 5) Option.none))) = (Go.Value.pointer (Option.some (Go.Addr.mk 500 (Go.Addr.off { block := 500, off := 0 + Int.toNat x4 * 7 } + 5) Option.none)))) ∧
 ((bcase (decide (0 ≤ x4))
 (bcase (decide (x4 < (↑n7 : Int)))
 ((Go.Value.pointer (Option.some (Go.Addr.mk 500 (0 + Int.toNat x4 * 7) Option.none))) = (Go.Value.pointer (Option.some (Go.Addr.mk 500 (0 + Int.toNat x4 * 7) Option.none))))
 False)
 False) ∧
 (((vI x4) = (vI x4)) ∧
 (((Go.Value.slice (Option.some (Go.Addr.mk 500 0 Option.none)) (n7) (c8)) = (Go.Value.slice (Option.some (Go.Addr.mk 500 0 Option.none)) (n7) (c8))) ∧
 (((Go.Value.pointer (Option.some (Go.Addr.mk 1000 0 Option.none))) = (Go.Value.pointer (Option.some (Go.Addr.mk 1000 0 Option.none)))) ∧
 ((∃ n5 : Int,
 ((At (l5) (0 + Int.toNat x4 * 1) 1 [(vI n5)]) ∧
 ((vI n5) = (vI n1)))) ∧
 ((bcase (decide (0 ≤ x4))
 (bcase (decide (x4 < (↑n0 : Int)))
 ((Go.Value.pointer (Option.some (Go.Addr.mk 501 (0 + Int.toNat x4 * 1) Option.none))) = (Go.Value.pointer (Option.some (Go.Addr.mk 501 (0 + Int.toNat x4 * 1) Option.none))))
 False)
 False) ∧
 (((vI x4) = (vI x4)) ∧
 (((Go.Value.slice (Option.some (Go.Addr.mk 501 0 Option.none)) (n0) (c1)) = (Go.Value.slice (Option.some (Go.Addr.mk 501 0 Option.none)) (n0) (c1))) ∧
 True)))))))))))))))))) ∧
 (((Says C 26 [(D.val (vI n1)), (D.val (vI n3)), (D.val (vI n4))] [(D.val (Value.bool true))]) ∧
 ((((Value.bool false) = (Value.bool false)) ∧
 (((Go.Value.pointer (Option.some (Go.Addr.mk 500 (Go.Addr.off { block := 500, off := Go.Addr.off { block := 500, off := 0 + Int.toNat x4 * 7 } + 5 } + 1) Option.none))) = (Go.Value.pointer (Option.some (Go.Addr.mk 500 (Go.Addr.off (Go.Addr.add { block := 500, off := 0 + Int.toNat x4 * 7 } 5) + 1) Option.none)))) ∧
 (((Go.Value.pointer (Option.some (Go.Addr.mk 500 (Go.Addr.off { block := 500, off := 0 + Int.toNat x4 * 7 } + 5) Option.none))) = (Go.Value.pointer (Option.some (Go.Addr.mk 500 (Go.Addr.off { block := 500, off := 0 + Int.toNat x4 * 7 } + 5) Option.none)))) ∧
 ((bcase (decide (0 ≤ x4))
 (bcase (decide (x4 < (↑n7 : Int)))
 ((Go.Value.pointer (Option.some (Go.Addr.mk 500 (0 + Int.toNat x4 * 7) Option.none))) = (Go.Value.pointer (Option.some (Go.Addr.mk 500 (0 + Int.toNat x4 * 7) Option.none))))
 False)
 False) ∧
 (((vI x4) = (vI x4)) ∧
 (((Go.Value.slice (Option.some (Go.Addr.mk 500 0 Option.none)) (n7) (c8)) = (Go.Value.slice (Option.some (Go.Addr.mk 500 0 Option.none)) (n7) (c8))) ∧
 (((Go.Value.pointer (Option.some (Go.Addr.mk 1000 0 Option.none))) = (Go.Value.pointer (Option.some (Go.Addr.mk 1000 0 Option.none)))) ∧
 (((Go.Value.pointer (Option.some (Go.Addr.mk 500 (Go.Addr.off { block := 500, off := 0 + Int.toNat x4 * 7 } + 5) Option.none))) = (Go.Value.pointer (Option.some (Go.Addr.mk 500 (Go.Addr.off { block := 500, off := 0 + Int.toNat x4 * 7 } + 5) Option.none)))) ∧
 (((Go.Value.pointer (Option.some (Go.Addr.mk 500 (Go.Addr.off { block := 500, off := 0 + Int.toNat x4 * 7 } + 5) Option.none))) = (Go.Value.pointer (Option.some (Go.Addr.mk 500 (Go.Addr.off { block := 500, off := 0 + Int.toNat x4 * 7 } + 5) Option.none)))) ∧
 ((bcase (decide (0 ≤ x4))
 (bcase (decide (x4 < (↑n7 : Int)))
 ((Go.Value.pointer (Option.some (Go.Addr.mk 500 (0 + Int.toNat x4 * 7) Option.none))) = (Go.Value.pointer (Option.some (Go.Addr.mk 500 (0 + Int.toNat x4 * 7) Option.none))))
 False)
 False) ∧
 (((vI x4) = (vI x4)) ∧
 (((Go.Value.slice (Option.some (Go.Addr.mk 500 0 Option.none)) (n7) (c8)) = (Go.Value.slice (Option.some (Go.Addr.mk 500 0 Option.none)) (n7) (c8))) ∧
 (((Go.Value.pointer (Option.some (Go.Addr.mk 1000 0 Option.none))) = (Go.Value.pointer (Option.some (Go.Addr.mk 1000 0 Option.none)))) ∧
 ((bcase (decide (0 ≤ x4))
 (bcase (decide (x4 < (↑n0 : Int)))
 ((Go.Value.pointer (Option.some (Go.Addr.mk 501 (0 + Int.toNat x4 * 1) Option.none))) = (Go.Value.pointer (Option.some (Go.Addr.mk 501 (0 + Int.toNat x4 * 1) Option.none))))
 False)
 False) ∧
 (((vI x4) = (vI x4)) ∧
 (((Go.Value.slice (Option.some (Go.Addr.mk 501 0 Option.none)) (n0) (c1)) = (Go.Value.slice (Option.some (Go.Addr.mk 501 0 Option.none)) (n0) (c1))) ∧
 True)))))))))))))))) ∧
 (B [(Prod.mk 1 (Go.Value.slice (Option.some (Go.Addr.mk 501 0 Option.none)) (n0) (c1))), (Prod.mk 2 (Go.Value.slice (Option.some (Go.Addr.mk 502 0 Option.none)) (n2) (c3))), (Prod.mk 3 (Go.Value.pointer (Option.some (Go.Addr.mk 1000 0 Option.none)))), (Prod.mk 7 (vI (IntKind.wrap .i64 (x4 + 1))))] [(Prod.mk 501 (AObj.sym (l5) false 1)), (Prod.mk 502 (AObj.sym (l6) false 1)), (Prod.mk 1000 (AObj.cells [(Go.Value.slice (Option.some (Go.Addr.mk 500 0 Option.none)) (n7) (c8))] 24 false 1)), (Prod.mk 500 (AObj.sym (l9) false 7))]))) ∨
 ((Says C 26 [(D.val (vI n1)), (D.val (vI n3)), (D.val (vI n4))] [(D.val (Value.bool false))]) ∧
 ((((Value.bool true) = (Value.bool true)) ∧
 (((Go.Value.pointer (Option.some (Go.Addr.mk 500 (Go.Addr.off { block := 500, off := Go.Addr.off { block := 500, off := 0 + Int.toNat x4 * 7 } + 5 } + 1) Option.none))) = (Go.Value.pointer (Option.some (Go.Addr.mk 500 (Go.Addr.off (Go.Addr.add { block := 500, off := 0 + Int.toNat x4 * 7 } 5) + 1) Option.none)))) ∧
 (((Go.Value.pointer (Option.some (Go.Addr.mk 500 (Go.Addr.off { block := 500, off := 0 + Int.toNat x4 * 7 } + 5) Option.none))) = (Go.Value.pointer (Option.some (Go.Addr.mk 500 (Go.Addr.off { block := 500, off := 0 + Int.toNat x4 * 7 } + 5) Option.none)))) ∧
 ((bcase (decide (0 ≤ x4))
 (bcase (decide (x4 < (↑n7 : Int)))
 ((Go.Value.pointer (Option.some (Go.Addr.mk 500 (0 + Int.toNat x4 * 7) Option.none))) = (Go.Value.pointer (Option.some (Go.Addr.mk 500 (0 + Int.toNat x4 * 7) Option.none))))
 False)
 False) ∧
 (((vI x4) = (vI x4)) ∧
 (((Go.Value.slice (Option.some (Go.Addr.mk 500 0 Option.none)) (n7) (c8)) = (Go.Value.slice (Option.some (Go.Addr.mk 500 0 Option.none)) (n7) (c8))) ∧
 (((Go.Value.pointer (Option.some (Go.Addr.mk 1000 0 Option.none))) = (Go.Value.pointer (Option.some (Go.Addr.mk 1000 0 Option.none)))) ∧
 (((Go.Value.pointer (Option.some (Go.Addr.mk 500 (Go.Addr.off { block := 500, off := 0 + Int.toNat x4 * 7 } + 5) Option.none))) = (Go.Value.pointer (Option.some (Go.Addr.mk 500 (Go.Addr.off { block := 500, off := 0 + Int.toNat x4 * 7 } + 5) Option.none)))) ∧
 (((Go.Value.pointer (Option.some (Go.Addr.mk 500 (Go.Addr.off { block := 500, off := 0 + Int.toNat x4 * 7 } + 5) Option.none))) = (Go.Value.pointer (Option.some (Go.Addr.mk 500 (Go.Addr.off { block := 500, off := 0 + Int.toNat x4 * 7 } + 5) Option.none)))) ∧
 ((bcase (decide (0 ≤ x4))
 (bcase (decide (x4 < (↑n7 : Int)))
 ((Go.Value.pointer (Option.some (Go.Addr.mk 500 (0 + Int.toNat x4 * 7) Option.none))) = (Go.Value.pointer (Option.some (Go.Addr.mk 500 (0 + Int.toNat x4 * 7) Option.none))))
 False)
 False) ∧
 (((vI x4) = (vI x4)) ∧
 (((Go.Value.slice (Option.some (Go.Addr.mk 500 0 Option.none)) (n7) (c8)) = (Go.Value.slice (Option.some (Go.Addr.mk 500 0 Option.none)) (n7) (c8))) ∧
 (((Go.Value.pointer (Option.some (Go.Addr.mk 1000 0 Option.none))) = (Go.Value.pointer (Option.some (Go.Addr.mk 1000 0 Option.none)))) ∧
 ((bcase (decide (0 ≤ x4))
 (bcase (decide (x4 < (↑n0 : Int)))
 ((Go.Value.pointer (Option.some (Go.Addr.mk 501 (0 + Int.toNat x4 * 1) Option.none))) = (Go.Value.pointer (Option.some (Go.Addr.mk 501 (0 + Int.toNat x4 * 1) Option.none))))
 False)
 False) ∧
 (((vI x4) = (vI x4)) ∧
 (((Go.Value.slice (Option.some (Go.Addr.mk 501 0 Option.none)) (n0) (c1)) = (Go.Value.slice (Option.some (Go.Addr.mk 501 0 Option.none)) (n0) (c1))) ∧
 True)))))))))))))))) ∧
 (k [(D.val (Value.bool true))])))))))
 False)
 False)))
 False)
 False)))
 False)
 False)
 (X 0 [(Prod.mk 1 (Go.Value.slice (Option.some (Go.Addr.mk 501 0 Option.none)) (n0) (c1))), (Prod.mk 2 (Go.Value.slice (Option.some (Go.Addr.mk 502 0 Option.none)) (n2) (c3))), (Prod.mk 3 (Go.Value.pointer (Option.some (Go.Addr.mk 1000 0 Option.none))))] [(Prod.mk 501 (AObj.sym (l5) false 1)), (Prod.mk 502 (AObj.sym (l6) false 1)), (Prod.mk 1000 (AObj.cells [(Go.Value.slice (Option.some (Go.Addr.mk 500 0 Option.none)) (n7) (c8))] 24 false 1)), (Prod.mk 500 (AObj.sym (l9) false 7))])) := by kernel_rfl
def nHd2 (C : Ct) (L : AtLoop) (n0 : Nat) (c1 : Nat) (n2 : Nat) (c3 : Nat) (l4 : List Value) (l5 : List Value) (n6 : Nat) (c7 : Nat) (l8 : List Value) (k : List D → Prop) : Prop := jNext Try.prog (hL C) L [] 6 0 .normal [(1, (Value.slice (some ⟨501, 0, none⟩) n0 c1)), (2, (Value.slice (some ⟨502, 0, none⟩) n2 c3)), (3, (Value.pointer (some ⟨1000, 0, none⟩)))] [(501, (AObj.sym l4 false 1)), (502, (AObj.sym l5 false 1)), (1000, (AObj.cells [(Value.slice (some ⟨500, 0, none⟩) n6 c7)] 24 false 1)), (500, (AObj.sym l8 false 7))] (dataK k)
theorem nHd2_text (C : Ct) (L : AtLoop) (n0 : Nat) (c1 : Nat) (n2 : Nat) (c3 : Nat) (l4 : List Go.Value) (l5 : List Go.Value) (n6 : Nat) (c7 : Nat) (l8 : List Go.Value) (k : List D → Prop) : nHd2 C L n0 c1 n2 c3 l4 l5 n6 c7 l8 k =
 (bcase (decide (0 + n6 * 7 ≤ List.length l8))
 ((Says C 10 [(D.agg [(D.sl (n6) 7 (List.take (n6 * 7) (List.drop 0 l8)))])] [(D.agg [(D.sl (n6) 7 (List.take (n6 * 7) (List.drop 0 l8)))])]) ∧
 (bcase (decide (0 + n0 * 1 ≤ List.length l4))
 ((Says C 20 [(D.sl (n0) 1 (List.take (n0 * 1) (List.drop 0 l4)))] [(D.sl (n0) 1 (List.take (n0 * 1) (List.drop 0 l4)))]) ∧
 (bcase (decide (0 + n6 * 7 ≤ List.length (List.take (n6 * 7) (List.drop 0 l8))))
 (bcase (decide (0 + n0 * 1 ≤ List.length (List.take (n0 * 1) (List.drop 0 l4))))
 ((∃ n1 : Int,
 ((Says C 19 [(D.agg [(D.sl (n6) 7 (List.take (n6 * 7) (List.drop 0 (List.take (n6 * 7) (List.drop 0 l8)))))]), (D.sl (n0) 1 (List.take (n0 * 1) (List.drop 0 (List.take (n0 * 1) (List.drop 0 l4)))))] [D.nil, (D.val (vI n1))]) ∧
 (bcase (n1 != 0)
 (bcase (n1 == 12)
 (k [(D.val (Value.bool true))])
 (k [(D.val (Value.bool false))]))
 (bcase ((↑0 : Int) != (↑n6 : Int))
 (k [(D.val (Value.bool false))])
 (bcase (decide (0 + n0 * 1 ≤ List.length l4))
 ((Says C 20 [(D.sl (n0) 1 (List.take (n0 * 1) (List.drop 0 l4)))] [(D.sl (n0) 1 (List.take (n0 * 1) (List.drop 0 l4)))]) ∧
 (L 2 [(Prod.mk 1 (Go.Value.slice (Option.some (Go.Addr.mk 501 0 Option.none)) (n0) (c1))), (Prod.mk 2 (Go.Value.slice (Option.some (Go.Addr.mk 502 0 Option.none)) (n2) (c3))), (Prod.mk 3 (Go.Value.pointer (Option.some (Go.Addr.mk 1000 0 Option.none)))), (Prod.mk 8 (Go.Value.slice Option.none 0 0)), (Prod.mk 10 (vI ((↑n6 : Int)))), (Prod.mk 11 (Go.Value.slice (Option.some (Go.Addr.mk 1001 0 Option.none)) (n0) (n0))), (Prod.mk 12 (vI (0 : Int))), (Prod.mk 13 (vI (0 : Int)))] [(Prod.mk 501 (AObj.sym (l4) false 1)), (Prod.mk 502 (AObj.sym (l5) false 1)), (Prod.mk 1000 (AObj.cells [(Go.Value.slice (Option.some (Go.Addr.mk 500 0 Option.none)) (n6) (c7))] 24 false 1)), (Prod.mk 1001 (AObj.sym (List.take (n0 * 1) (List.drop 0 l4)) true 1)), (Prod.mk 500 (AObj.sym (l8) false 7))]))
 False))))) ∨
 (∃ n1 : Nat,
 (∃ cs1 : List Go.Value,
 (∃ n3 : Int,
 ((Says C 19 [(D.agg [(D.sl (n6) 7 (List.take (n6 * 7) (List.drop 0 (List.take (n6 * 7) (List.drop 0 l8)))))]), (D.sl (n0) 1 (List.take (n0 * 1) (List.drop 0 (List.take (n0 * 1) (List.drop 0 l4)))))] [(D.sl (n1) 2 (cs1)), (D.val (vI n3))]) ∧
 (bcase (n3 != 0)
 (bcase (n3 == 12)
 (bcase ((↑n1 : Int) == 0)
 (k [(D.val (Value.bool true))])
 (k [(D.val (Value.bool false))]))
 (k [(D.val (Value.bool false))]))
 (bcase ((↑n1 : Int) != (↑n6 : Int))
 (k [(D.val (Value.bool false))])
 (bcase (decide (0 + n0 * 1 ≤ List.length l4))
 ((Says C 20 [(D.sl (n0) 1 (List.take (n0 * 1) (List.drop 0 l4)))] [(D.sl (n0) 1 (List.take (n0 * 1) (List.drop 0 l4)))]) ∧
 (L 2 [(Prod.mk 1 (Go.Value.slice (Option.some (Go.Addr.mk 501 0 Option.none)) (n0) (c1))), (Prod.mk 2 (Go.Value.slice (Option.some (Go.Addr.mk 502 0 Option.none)) (n2) (c3))), (Prod.mk 3 (Go.Value.pointer (Option.some (Go.Addr.mk 1000 0 Option.none)))), (Prod.mk 8 (Go.Value.slice (Option.some (Go.Addr.mk 1001 0 Option.none)) (n1) (n1))), (Prod.mk 10 (vI ((↑n6 : Int)))), (Prod.mk 11 (Go.Value.slice (Option.some (Go.Addr.mk 1002 0 Option.none)) (n0) (n0))), (Prod.mk 12 (vI (0 : Int))), (Prod.mk 13 (vI (0 : Int)))] [(Prod.mk 501 (AObj.sym (l4) false 1)), (Prod.mk 502 (AObj.sym (l5) false 1)), (Prod.mk 1000 (AObj.cells [(Go.Value.slice (Option.some (Go.Addr.mk 500 0 Option.none)) (n6) (c7))] 24 false 1)), (Prod.mk 1001 (AObj.sym (cs1) true 2)), (Prod.mk 1002 (AObj.sym (List.take (n0 * 1) (List.drop 0 l4)) true 1)), (Prod.mk 500 (AObj.sym (l8) false 7))]))
 False))))))))
 False)
 False))
 False))
 False) := by kernel_rfl
abbrev zHd4 (n0 : Nat) (c1 : Nat) (n2 : Nat) (c3 : Nat) (n4 : Nat) (x5 : Int) (n6 : Nat) (x7 : Int) (x8 : Int) (l9 : List Value) (l10 : List Value) (n11 : Nat) (c12 : Nat) (l13 : List Value) (l14 : List Value) (l15 : List Value) : Slots × Blocks := ([(1, (Value.slice (some ⟨501, 0, none⟩) n0 c1)), (2, (Value.slice (some ⟨502, 0, none⟩) n2 c3)), (3, (Value.pointer (some ⟨1000, 0, none⟩))), (8, (Value.slice (some ⟨1001, 0, none⟩) n4 n4)), (10, (Value.int .i64 x5)), (11, (Value.slice (some ⟨1002, 0, none⟩) n6 n6)), (12, (Value.int .i64 x7)), (13, (Value.int .i64 x8))], [(501, (AObj.sym l9 false 1)), (502, (AObj.sym l10 false 1)), (1000, (AObj.cells [(Value.slice (some ⟨500, 0, none⟩) n11 c12)] 24 false 1)), (1001, (AObj.sym l13 true 2)), (1002, (AObj.sym l14 true 1)), (500, (AObj.sym l15 false 7))])
def rHd4 (C : Ct) (L : AtLoop) (n0 : Nat) (c1 : Nat) (n2 : Nat) (c3 : Nat) (n4 : Nat) (x5 : Int) (n6 : Nat) (x7 : Int) (x8 : Int) (l9 : List Value) (l10 : List Value) (n11 : Nat) (c12 : Nat) (l13 : List Value) (l14 : List Value) (l15 : List Value) (B : Bx) (X : Xx) (k : List D → Prop) : Prop := jRound Try.prog (hL C) L [] 6 2 [(1, (Value.slice (some ⟨501, 0, none⟩) n0 c1)), (2, (Value.slice (some ⟨502, 0, none⟩) n2 c3)), (3, (Value.pointer (some ⟨1000, 0, none⟩))), (8, (Value.slice (some ⟨1001, 0, none⟩) n4 n4)), (10, (Value.int .i64 x5)), (11, (Value.slice (some ⟨1002, 0, none⟩) n6 n6)), (12, (Value.int .i64 x7)), (13, (Value.int .i64 x8))] [(501, (AObj.sym l9 false 1)), (502, (AObj.sym l10 false 1)), (1000, (AObj.cells [(Value.slice (some ⟨500, 0, none⟩) n11 c12)] 24 false 1)), (1001, (AObj.sym l13 true 2)), (1002, (AObj.sym l14 true 1)), (500, (AObj.sym l15 false 7))] B X (dataK k)
theorem rHd4_text (C : Ct) (L : AtLoop) (n0 : Nat) (c1 : Nat) (n2 : Nat) (c3 : Nat) (n4 : Nat) (x5 : Int) (n6 : Nat) (x7 : Int) (x8 : Int) (l9 : List Go.Value) (l10 : List Go.Value) (n11 : Nat) (c12 : Nat) (l13 : List Go.Value) (l14 : List Go.Value) (l15 : List Go.Value) (B : Bx) (X : Xx) (k : List D → Prop) : rHd4 C L n0 c1 n2 c3 n4 x5 n6 x7 x8 l9 l10 n11 c12 l13 l14 l15 B X k =
 (bcase (decide (x8 < 12))
 (bcase (decide (0 + n6 * 1 ≤ List.length l14))
 ((Says C 20 [(D.sl (n6) 1 (List.take (n6 * 1) (List.drop 0 l14)))] [(D.sl (n6) 1 (List.take (n6 * 1) (List.drop 0 l14)))]) ∧
 (L 4 [(Prod.mk 1 (Go.Value.slice (Option.some (Go.Addr.mk 501 0 Option.none)) (n0) (c1))), (Prod.mk 2 (Go.Value.slice (Option.some (Go.Addr.mk 502 0 Option.none)) (n2) (c3))), (Prod.mk 3 (Go.Value.pointer (Option.some (Go.Addr.mk 1000 0 Option.none)))), (Prod.mk 8 (Go.Value.slice (Option.some (Go.Addr.mk 1001 0 Option.none)) (n4) (n4))), (Prod.mk 10 (vI x5)), (Prod.mk 11 (Go.Value.slice (Option.some (Go.Addr.mk 1002 0 Option.none)) (n6) (n6))), (Prod.mk 12 (vI x7)), (Prod.mk 13 (vI x8)), (Prod.mk 14 (Go.Value.pointer (Option.some (Go.Addr.mk 1003 0 Option.none)))), (Prod.mk 15 (vI (0 : Int)))] [(Prod.mk 501 (AObj.sym (l9) false 1)), (Prod.mk 502 (AObj.sym (l10) false 1)), (Prod.mk 1000 (AObj.cells [(Go.Value.slice (Option.some (Go.Addr.mk 500 0 Option.none)) (n11) (c12))] 24 false 1)), (Prod.mk 1001 (AObj.sym (l13) true 2)), (Prod.mk 1002 (AObj.sym (l14) true 1)), (Prod.mk 1003 (AObj.cells [(Go.Value.slice (Option.some (Go.Addr.mk 1004 0 Option.none)) (n6) (n6)), (Go.Value.slice Option.none 0 0)] 27 false 2)), (Prod.mk 500 (AObj.sym (l15) false 7)), (Prod.mk 1004 (AObj.sym (List.take (n6 * 1) (List.drop 0 l14)) true 1))]))
 False)
 (X 2 [(Prod.mk 1 (Go.Value.slice (Option.some (Go.Addr.mk 501 0 Option.none)) (n0) (c1))), (Prod.mk 3 (Go.Value.pointer (Option.some (Go.Addr.mk 1000 0 Option.none)))), (Prod.mk 8 (Go.Value.slice (Option.some (Go.Addr.mk 1001 0 Option.none)) (n4) (n4))), (Prod.mk 10 (vI x5))] [(Prod.mk 501 (AObj.sym (l9) false 1)), (Prod.mk 1000 (AObj.cells [(Go.Value.slice (Option.some (Go.Addr.mk 500 0 Option.none)) (n11) (c12))] 24 false 1)), (Prod.mk 1001 (AObj.sym (l13) true 2)), (Prod.mk 500 (AObj.sym (l15) false 7))])) := by kernel_rfl
abbrev zHd7 (n0 : Nat) (c1 : Nat) (n2 : Nat) (c3 : Nat) (n4 : Nat) (x5 : Int) (n6 : Nat) (x7 : Int) (x8 : Int) (x9 : Int) (l10 : List Value) (l11 : List Value) (n12 : Nat) (c13 : Nat) (l14 : List Value) (l15 : List Value) (n16 : Nat) (l17 : List Value) (l18 : List Value) : Slots × Blocks := ([(1, (Value.slice (some ⟨501, 0, none⟩) n0 c1)), (2, (Value.slice (some ⟨502, 0, none⟩) n2 c3)), (3, (Value.pointer (some ⟨1000, 0, none⟩))), (8, (Value.slice (some ⟨1001, 0, none⟩) n4 n4)), (10, (Value.int .i64 x5)), (11, (Value.slice (some ⟨1002, 0, none⟩) n6 n6)), (12, (Value.int .i64 x7)), (13, (Value.int .i64 x8)), (14, (Value.pointer (some ⟨1003, 0, none⟩))), (15, (Value.int .i64 x9))], [(501, (AObj.sym l10 false 1)), (502, (AObj.sym l11 false 1)), (1000, (AObj.cells [(Value.slice (some ⟨500, 0, none⟩) n12 c13)] 24 false 1)), (1001, (AObj.sym l14 true 2)), (1002, (AObj.sym l15 true 1)), (1003, (AObj.cells [(Value.slice (some ⟨1004, 0, none⟩) n16 n16), (Value.slice none 0 0)] 27 false 2)), (500, (AObj.sym l17 false 7)), (1004, (AObj.sym l18 true 1))])
def rHd7 (C : Ct) (L : AtLoop) (n0 : Nat) (c1 : Nat) (n2 : Nat) (c3 : Nat) (n4 : Nat) (x5 : Int) (n6 : Nat) (x7 : Int) (x8 : Int) (x9 : Int) (l10 : List Value) (l11 : List Value) (n12 : Nat) (c13 : Nat) (l14 : List Value) (l15 : List Value) (n16 : Nat) (l17 : List Value) (l18 : List Value) (B : Bx) (X : Xx) (k : List D → Prop) : Prop := jRound2 Try.prog (hL C) L [] 6 2 4 [(1, (Value.slice (some ⟨501, 0, none⟩) n0 c1)), (2, (Value.slice (some ⟨502, 0, none⟩) n2 c3)), (3, (Value.pointer (some ⟨1000, 0, none⟩))), (8, (Value.slice (some ⟨1001, 0, none⟩) n4 n4)), (10, (Value.int .i64 x5)), (11, (Value.slice (some ⟨1002, 0, none⟩) n6 n6)), (12, (Value.int .i64 x7)), (13, (Value.int .i64 x8)), (14, (Value.pointer (some ⟨1003, 0, none⟩))), (15, (Value.int .i64 x9))] [(501, (AObj.sym l10 false 1)), (502, (AObj.sym l11 false 1)), (1000, (AObj.cells [(Value.slice (some ⟨500, 0, none⟩) n12 c13)] 24 false 1)), (1001, (AObj.sym l14 true 2)), (1002, (AObj.sym l15 true 1)), (1003, (AObj.cells [(Value.slice (some ⟨1004, 0, none⟩) n16 n16), (Value.slice none 0 0)] 27 false 2)), (500, (AObj.sym l17 false 7)), (1004, (AObj.sym l18 true 1))] B X (dataK k)
theorem rHd7_text (C : Ct) (L : AtLoop) (n0 : Nat) (c1 : Nat) (n2 : Nat) (c3 : Nat) (n4 : Nat) (x5 : Int) (n6 : Nat) (x7 : Int) (x8 : Int) (x9 : Int) (l10 : List Go.Value) (l11 : List Go.Value) (n12 : Nat) (c13 : Nat) (l14 : List Go.Value) (l15 : List Go.Value) (n16 : Nat) (l17 : List Go.Value) (l18 : List Go.Value) (B : Bx) (X : Xx) (k : List D → Prop) : rHd7 C L n0 c1 n2 c3 n4 x5 n6 x7 x8 x9 l10 l11 n12 c13 l14 l15 n16 l17 l18 B X k =
 (bcase (decide (x9 < x5))
 (bcase (decide (0 ≤ x9))
 (bcase (decide (x9 < (↑n12 : Int)))
 (∃ n1 : Int,
 (∃ n3 : Int,
 ((At (l17) (Go.Addr.off { block := 500, off := 0 + Int.toNat x9 * 7 } + 3) 2 [(vI n1), (vI n3)]) ∧
 (bcase (decide (0 ≤ x9))
 (bcase (decide (x9 < (↑n6 : Int)))
 (∃ n5 : Int,
 ((At (l15) (0 + Int.toNat x9 * 1) 1 [(vI n5)]) ∧
 (bcase (decide (0 ≤ x9))
 (bcase (decide (x9 < (↑n4 : Int)))
 (∃ n7 : Int,
 ((At (l14) (0 + Int.toNat x9 * 2) 1 [(vI n7)]) ∧
 (bcase (decide (0 ≤ x9))
 (bcase (decide (x9 < (↑n4 : Int)))
 (∃ n8 : Int,
 ((At (l14) (Go.Addr.off { block := 1001, off := 0 + Int.toNat x9 * 2 } + 1) 1 [(vI n8)]) ∧
 (((∃ n9 : Int,
 ((At (l14) (Go.Addr.off { block := 1001, off := 0 + Int.toNat x9 * 2 } + 1) 1 [(vI n9)]) ∧
 ((vI n9) = (vI n8)))) ∧
 (((Go.Value.pointer (Option.some (Go.Addr.mk 1001 (Go.Addr.off { block := 1001, off := 0 + Int.toNat x9 * 2 } + 1) Option.none))) = (Go.Value.pointer (Option.some (Go.Addr.mk 1001 (Go.Addr.off { block := 1001, off := 0 + Int.toNat x9 * 2 } + 1) Option.none)))) ∧
 ((bcase (decide (0 ≤ x9))
 (bcase (decide (x9 < (↑n4 : Int)))
 ((Go.Value.pointer (Option.some (Go.Addr.mk 1001 (0 + Int.toNat x9 * 2) Option.none))) = (Go.Value.pointer (Option.some (Go.Addr.mk 1001 (0 + Int.toNat x9 * 2) Option.none))))
 False)
 False) ∧
 (((vI x9) = (vI x9)) ∧
 (((Go.Value.slice (Option.some (Go.Addr.mk 1001 0 Option.none)) (n4) (n4)) = (Go.Value.slice (Option.some (Go.Addr.mk 1001 0 Option.none)) (n4) (n4))) ∧
 ((∃ n9 : Int,
 ((At (l14) (0 + Int.toNat x9 * 2) 1 [(vI n9)]) ∧
 ((vI n9) = (vI n7)))) ∧
 (((Go.Value.pointer (Option.some (Go.Addr.mk 1001 (0 + Int.toNat x9 * 2) Option.none))) = (Go.Value.pointer (Option.some (Go.Addr.mk 1001 (0 + Int.toNat x9 * 2) Option.none)))) ∧
 ((bcase (decide (0 ≤ x9))
 (bcase (decide (x9 < (↑n4 : Int)))
 ((Go.Value.pointer (Option.some (Go.Addr.mk 1001 (0 + Int.toNat x9 * 2) Option.none))) = (Go.Value.pointer (Option.some (Go.Addr.mk 1001 (0 + Int.toNat x9 * 2) Option.none))))
 False)
 False) ∧
 (((vI x9) = (vI x9)) ∧
 (((Go.Value.slice (Option.some (Go.Addr.mk 1001 0 Option.none)) (n4) (n4)) = (Go.Value.slice (Option.some (Go.Addr.mk 1001 0 Option.none)) (n4) (n4))) ∧
 ((∃ n9 : Int,
 ((At (l15) (0 + Int.toNat x9 * 1) 1 [(vI n9)]) ∧
 ((vI n9) = (vI n5)))) ∧
 ((bcase (decide (0 ≤ x9))
 (bcase (decide (x9 < (↑n6 : Int)))
 ((Go.Value.pointer (Option.some (Go.Addr.mk 1002 (0 + Int.toNat x9 * 1) Option.none))) = (Go.Value.pointer (Option.some (Go.Addr.mk 1002 (0 + Int.toNat x9 * 1) Option.none))))
 False)
 False) ∧
 (((vI x9) = (vI x9)) ∧
 (((Go.Value.slice (Option.some (Go.Addr.mk 1002 0 Option.none)) (n6) (n6)) = (Go.Value.slice (Option.some (Go.Addr.mk 1002 0 Option.none)) (n6) (n6))) ∧
 True)))))))))))))) ∧
 (((Says C 26 [(D.val (vI n5)), (D.val (vI n7)), (D.val (vI n8))] [(D.val (Value.bool true))]) ∧
 (bcase (decide (0 ≤ x9))
 (bcase (decide (x9 < (↑n6 : Int)))
 (∃ n9 : Int,
 ((At (l15) (0 + Int.toNat x9 * 1) 1 [(vI n9)]) ∧
 (bcase (decide (0 ≤ x9))
 (bcase (decide (x9 < (↑n12 : Int)))
 (∃ n10 : Int,
 ((At (l17) (Go.Addr.off { block := 500, off := 0 + Int.toNat x9 * 7 } + 5) 1 [(vI n10)]) ∧
 (bcase (decide (0 ≤ x9))
 (bcase (decide (x9 < (↑n12 : Int)))
 (∃ n11 : Int,
 ((At (l17) (Go.Addr.off (Go.Addr.add { block := 500, off := 0 + Int.toNat x9 * 7 } 5) + 1) 1 [(vI n11)]) ∧
 (((∃ n13 : Int,
 ((At (l17) (Go.Addr.off (Go.Addr.add { block := 500, off := 0 + Int.toNat x9 * 7 } 5) + 1) 1 [(vI n13)]) ∧
 ((vI n13) = (vI n11)))) ∧
 (((Go.Value.pointer (Option.some (Go.Addr.mk 500 (Go.Addr.off { block := 500, off := Go.Addr.off { block := 500, off := 0 + Int.toNat x9 * 7 } + 5 } + 1) Option.none))) = (Go.Value.pointer (Option.some (Go.Addr.mk 500 (Go.Addr.off (Go.Addr.add { block := 500, off := 0 + Int.toNat x9 * 7 } 5) + 1) Option.none)))) ∧
 (((Go.Value.pointer (Option.some (Go.Addr.mk 500 (Go.Addr.off { block := 500, off := 0 + Int.toNat x9 * 7 } + 5) Option.none))) = (Go.Value.pointer (Option.some (Go.Addr.mk 500 (Go.Addr.off { block := 500, off := 0 + Int.toNat x9 * 7 } + 5) Option.none)))) ∧
 ((bcase (decide (0 ≤ x9))
 (bcase (decide (x9 < (↑n12 : Int)))
 ((Go.Value.pointer (Option.some (Go.Addr.mk 500 (0 + Int.toNat x9 * 7) Option.none))) = (Go.Value.pointer (Option.some (Go.Addr.mk 500 (0 + Int.toNat x9 * 7) Option.none))))
 False)
 False) ∧
 (((vI x9) = (vI x9)) ∧
 (((Go.Value.slice (Option.some (Go.Addr.mk 500 0 Option.none)) (n12) (c13)) = (Go.Value.slice (Option.some (Go.Addr.mk 500 0 Option.none)) (n12) (c13))) ∧
 (((Go.Value.pointer (Option.some (Go.Addr.mk 1000 0 Option.none))) = (Go.Value.pointer (Option.some (Go.Addr.mk 1000 0 Option.none)))) ∧
 ((∃ n13 : Int,
 ((At (l17) (Go.Addr.off { block := 500, off := 0 + Int.toNat x9 * 7 } + 5) 1 [(vI n13)]) ∧
 ((vI n13) = (vI n10)))) ∧
 (((Go.Value.pointer (Option.some (Go.Addr.mk 500 (Go.Addr.off { block := 500, off := 0 + Int.toNat x9 * 7 } + 5) Option.none))) = (Go.Value.pointer (Option.some (Go.Addr.mk 500 (Go.Addr.off { block := 500, off := 0 + Int.toNat x9 * 7 } + 5) Option.none)))) ∧
 (((Go.Value.pointer (Option.some (Go.Addr.mk 500 (Go.Addr.off { block := 500, off := 0 + Int.toNat x9 * 7 } + 5) Option.none))) = (Go.Value.pointer (Option.some (Go.Addr.mk 500 (Go.Addr.off { block := 500, off := 0 + Int.toNat x9 * 7 } + 5) Option.none)))) ∧
 ((bcase (decide (0 ≤ x9))
 (bcase (decide (x9 < (↑n12 : Int)))
 ((Go.Value.pointer (Option.some (Go.Addr.mk 500 (0 + Int.toNat x9 * 7) Option.none))) = (Go.Value.pointer (Option.some (Go.Addr.mk 500 (0 + Int.toNat x9 * 7) Option.none))))
 False)
 False) ∧
 (((vI x9) = (vI x9)) ∧
 (((Go.Value.slice (Option.some (Go.Addr.mk 500 0 Option.none)) (n12) (c13)) = (Go.Value.slice (Option.some (Go.Addr.mk 500 0 Option.none)) (n12) (c13))) ∧
 (((Go.Value.pointer (Option.some (Go.Addr.mk 1000 0 Option.none))) = (Go.Value.pointer (Option.some (Go.Addr.mk 1000 0 Option.none)))) ∧
 ((∃ n13 : Int,
 ((At (l15) (0 + Int.toNat x9 * 1) 1 [(vI n13)]) ∧
 ((vI n13) = (vI n9)))) ∧
 ((bcase (decide (0 ≤ x9))
 (bcase (decide (x9 < (↑n6 : Int)))
 ((Go.Value.pointer (Option.some (Go.Addr.mk 1002 (0 + Int.toNat x9 * 1) Option.none))) = (Go.Value.pointer (Option.some (Go.Addr.mk 1002 (0 + Int.toNat x9 * 1) Option.none))))
 False)
 False) ∧
 (((vI x9) = (vI x9)) ∧
 (((Go.Value.slice (Option.some (Go.Addr.mk 1002 0 Option.none)) (n6) (n6)) = (Go.Value.slice (Option.some (Go.Addr.mk 1002 0 Option.none)) (n6) (n6))) ∧
 (((Value.bool false) = (Value.bool false)) ∧
 (((Value.bool false) = (Value.bool false)) ∧
 (((Go.Value.pointer (Option.some (Go.Addr.mk 1001 (Go.Addr.off { block := 1001, off := 0 + Int.toNat x9 * 2 } + 1) Option.none))) = (Go.Value.pointer (Option.some (Go.Addr.mk 1001 (Go.Addr.off { block := 1001, off := 0 + Int.toNat x9 * 2 } + 1) Option.none)))) ∧
 ((bcase (decide (0 ≤ x9))
 (bcase (decide (x9 < (↑n4 : Int)))
 ((Go.Value.pointer (Option.some (Go.Addr.mk 1001 (0 + Int.toNat x9 * 2) Option.none))) = (Go.Value.pointer (Option.some (Go.Addr.mk 1001 (0 + Int.toNat x9 * 2) Option.none))))
 False)
 False) ∧
 (((vI x9) = (vI x9)) ∧
 (((Go.Value.slice (Option.some (Go.Addr.mk 1001 0 Option.none)) (n4) (n4)) = (Go.Value.slice (Option.some (Go.Addr.mk 1001 0 Option.none)) (n4) (n4))) ∧
 (((Go.Value.pointer (Option.some (Go.Addr.mk 1001 (0 + Int.toNat x9 * 2) Option.none))) = (Go.Value.pointer (Option.some (Go.Addr.mk 1001 (0 + Int.toNat x9 * 2) Option.none)))) ∧
 ((bcase (decide (0 ≤ x9))
 (bcase (decide (x9 < (↑n4 : Int)))
 ((Go.Value.pointer (Option.some (Go.Addr.mk 1001 (0 + Int.toNat x9 * 2) Option.none))) = (Go.Value.pointer (Option.some (Go.Addr.mk 1001 (0 + Int.toNat x9 * 2) Option.none))))
 False)
 False) ∧
 (((vI x9) = (vI x9)) ∧
 (((Go.Value.slice (Option.some (Go.Addr.mk 1001 0 Option.none)) (n4) (n4)) = (Go.Value.slice (Option.some (Go.Addr.mk 1001 0 Option.none)) (n4) (n4))) ∧
 ((bcase (decide (0 ≤ x9))
 (bcase (decide (x9 < (↑n6 : Int)))
 ((Go.Value.pointer (Option.some (Go.Addr.mk 1002 (0 + Int.toNat x9 * 1) Option.none))) = (Go.Value.pointer (Option.some (Go.Addr.mk 1002 (0 + Int.toNat x9 * 1) Option.none))))
 False)
 False) ∧
 (((vI x9) = (vI x9)) ∧
 (((Go.Value.slice (Option.some (Go.Addr.mk 1002 0 Option.none)) (n6) (n6)) = (Go.Value.slice (Option.some (Go.Addr.mk 1002 0 Option.none)) (n6) (n6))) ∧
 True))))))))))))))))))))))))))))))) ∧
 (((Says C 26 [(D.val (vI n9)), (D.val (vI n10)), (D.val (vI n11))] [(D.val (Value.bool true))]) ∧
 ((((Value.bool false) = (Value.bool false)) ∧
 (((Value.bool false) = (Value.bool false)) ∧
 (((Go.Value.pointer (Option.some (Go.Addr.mk 500 (Go.Addr.off { block := 500, off := Go.Addr.off { block := 500, off := 0 + Int.toNat x9 * 7 } + 5 } + 1) Option.none))) = (Go.Value.pointer (Option.some (Go.Addr.mk 500 (Go.Addr.off (Go.Addr.add { block := 500, off := 0 + Int.toNat x9 * 7 } 5) + 1) Option.none)))) ∧
 (((Go.Value.pointer (Option.some (Go.Addr.mk 500 (Go.Addr.off { block := 500, off := 0 + Int.toNat x9 * 7 } + 5) Option.none))) = (Go.Value.pointer (Option.some (Go.Addr.mk 500 (Go.Addr.off { block := 500, off := 0 + Int.toNat x9 * 7 } + 5) Option.none)))) ∧
 ((bcase (decide (0 ≤ x9))
 (bcase (decide (x9 < (↑n12 : Int)))
 ((Go.Value.pointer (Option.some (Go.Addr.mk 500 (0 + Int.toNat x9 * 7) Option.none))) = (Go.Value.pointer (Option.some (Go.Addr.mk 500 (0 + Int.toNat x9 * 7) Option.none))))
 False)
 False) ∧
 (((vI x9) = (vI x9)) ∧
 (((Go.Value.slice (Option.some (Go.Addr.mk 500 0 Option.none)) (n12) (c13)) = (Go.Value.slice (Option.some (Go.Addr.mk 500 0 Option.none)) (n12) (c13))) ∧
 (((Go.Value.pointer (Option.some (Go.Addr.mk 1000 0 Option.none))) = (Go.Value.pointer (Option.some (Go.Addr.mk 1000 0 Option.none)))) ∧
 (((Go.Value.pointer (Option.some (Go.Addr.mk 500 (Go.Addr.off { block := 500, off := 0 + Int.toNat x9 * 7 } + 5) Option.none))) = (Go.Value.pointer (Option.some (Go.Addr.mk 500 (Go.Addr.off { block := 500, off := 0 + Int.toNat x9 * 7 } + 5) Option.none)))) ∧
 (((Go.Value.pointer (Option.some (Go.Addr.mk 500 (Go.Addr.off { block := 500, off := 0 + Int.toNat x9 * 7 } + 5) Option.none))) = (Go.Value.pointer (Option.some (Go.Addr.mk 500 (Go.Addr.off { block := 500, off := 0 + Int.toNat x9 * 7 } + 5) Option.none)))) ∧
 ((bcase (decide (0 ≤ x9))
 (bcase (decide (x9 < (↑n12 : Int)))
 ((Go.Value.pointer (Option.some (Go.Addr.mk 500 (0 + Int.toNat x9 * 7) Option.none))) = (Go.Value.pointer (Option.some (Go.Addr.mk 500 (0 + Int.toNat x9 * 7) Option.none))))
 False)
 False) ∧
 (((vI x9) = (vI x9)) ∧
 (((Go.Value.slice (Option.some (Go.Addr.mk 500 0 Option.none)) (n12) (c13)) = (Go.Value.slice (Option.some (Go.Addr.mk 500 0 Option.none)) (n12) (c13))) ∧
 (((Go.Value.pointer (Option.some (Go.Addr.mk 1000 0 Option.none))) = (Go.Value.pointer (Option.some (Go.Addr.mk 1000 0 Option.none)))) ∧
 ((bcase (decide (0 ≤ x9))
 (bcase (decide (x9 < (↑n6 : Int)))
 ((Go.Value.pointer (Option.some (Go.Addr.mk 1002 (0 + Int.toNat x9 * 1) Option.none))) = (Go.Value.pointer (Option.some (Go.Addr.mk 1002 (0 + Int.toNat x9 * 1) Option.none))))
 False)
 False) ∧
 (((vI x9) = (vI x9)) ∧
 (((Go.Value.slice (Option.some (Go.Addr.mk 1002 0 Option.none)) (n6) (n6)) = (Go.Value.slice (Option.some (Go.Addr.mk 1002 0 Option.none)) (n6) (n6))) ∧
 (((Value.bool false) = (Value.bool false)) ∧
 (((Go.Value.pointer (Option.some (Go.Addr.mk 1001 (Go.Addr.off { block := 1001, off := 0 + Int.toNat x9 * 2 } + 1) Option.none))) = (Go.Value.pointer (Option.some (Go.Addr.mk 1001 (Go.Addr.off { block := 1001, off := 0 + Int.toNat x9 * 2 } + 1) Option.none)))) ∧
 ((bcase (decide (0 ≤ x9))
 (bcase (decide (x9 < (↑n4 : Int)))
 ((Go.Value.pointer (Option.some (Go.Addr.mk 1001 (0 + Int.toNat x9 * 2) Option.none))) = (Go.Value.pointer (Option.some (Go.Addr.mk 1001 (0 + Int.toNat x9 * 2) Option.none))))
 False)
 False) ∧
 (((vI x9) = (vI x9)) ∧
 (((Go.Value.slice (Option.some (Go.Addr.mk 1001 0 Option.none)) (n4) (n4)) = (Go.Value.slice (Option.some (Go.Addr.mk 1001 0 Option.none)) (n4) (n4))) ∧
 (((Go.Value.pointer (Option.some (Go.Addr.mk 1001 (0 + Int.toNat x9 * 2) Option.none))) = (Go.Value.pointer (Option.some (Go.Addr.mk 1001 (0 + Int.toNat x9 * 2) Option.none)))) ∧
 ((bcase (decide (0 ≤ x9))
 (bcase (decide (x9 < (↑n4 : Int)))
 ((Go.Value.pointer (Option.some (Go.Addr.mk 1001 (0 + Int.toNat x9 * 2) Option.none))) = (Go.Value.pointer (Option.some (Go.Addr.mk 1001 (0 + Int.toNat x9 * 2) Option.none))))
 False)
 False) ∧
 (((vI x9) = (vI x9)) ∧
 (((Go.Value.slice (Option.some (Go.Addr.mk 1001 0 Option.none)) (n4) (n4)) = (Go.Value.slice (Option.some (Go.Addr.mk 1001 0 Option.none)) (n4) (n4))) ∧
 ((bcase (decide (0 ≤ x9))
 (bcase (decide (x9 < (↑n6 : Int)))
 ((Go.Value.pointer (Option.some (Go.Addr.mk 1002 (0 + Int.toNat x9 * 1) Option.none))) = (Go.Value.pointer (Option.some (Go.Addr.mk 1002 (0 + Int.toNat x9 * 1) Option.none))))
 False)
 False) ∧
 (((vI x9) = (vI x9)) ∧
 (((Go.Value.slice (Option.some (Go.Addr.mk 1002 0 Option.none)) (n6) (n6)) = (Go.Value.slice (Option.some (Go.Addr.mk 1002 0 Option.none)) (n6) (n6))) ∧
 True))))))))))))))))))))))))))))) ∧
 (bcase ((↑n2 : Int) != 0)
 (bcase (decide (0 ≤ Int.tmod x7 (↑n2 : Int)))
 (bcase (decide (Int.tmod x7 (↑n2 : Int) < (↑n2 : Int)))
 (∃ n13 : Int,
 ((At (l11) (0 + Int.toNat (Int.tmod x7 (↑n2 : Int)) * 1) 1 [(vI n13)]) ∧
 ((((vI (IntKind.wrap .i64 (IntKind.wrap .i64 (n3 - n1) + 1))) = (vI (IntKind.wrap .i64 (IntKind.wrap .i64 (n3 - n1) + 1)))) ∧
 (((vI (IntKind.wrap .i64 (n3 - n1))) = (vI (IntKind.wrap .i64 (n3 - n1)))) ∧
 (((vI n1) = (vI n1)) ∧
 (((Go.Value.pointer (Option.some (Go.Addr.mk 1005 0 Option.none))) = (Go.Value.pointer (Option.some (Go.Addr.mk 1005 0 Option.none)))) ∧
 (((vI n3) = (vI n3)) ∧
 (((Go.Value.pointer (Option.some (Go.Addr.mk 1005 1 Option.none))) = (Go.Value.pointer (Option.some (Go.Addr.mk 1005 1 Option.none)))) ∧
 ((∃ n14 : Int,
 ((At (l11) (0 + Int.toNat (Int.tmod x7 (↑n2 : Int)) * 1) 1 [(vI n14)]) ∧
 ((vI n14) = (vI n13)))) ∧
 ((bcase (decide (0 ≤ Int.tmod x7 (↑n2 : Int)))
 (bcase (decide (Int.tmod x7 (↑n2 : Int) < (↑n2 : Int)))
 ((Go.Value.pointer (Option.some (Go.Addr.mk 502 (0 + Int.toNat (Int.tmod x7 (↑n2 : Int)) * 1) Option.none))) = (Go.Value.pointer (Option.some (Go.Addr.mk 502 (0 + Int.toNat (Int.tmod x7 (↑n2 : Int)) * 1) Option.none))))
 False)
 False) ∧
 ((bcase ((↑n2 : Int) != 0)
 ((vI (Int.tmod x7 (↑n2 : Int))) = (vI (Int.tmod x7 (↑n2 : Int))))
 False) ∧
 (((vI ((↑n2 : Int))) = (vI ((↑n2 : Int)))) ∧
 (((Go.Value.slice (Option.some (Go.Addr.mk 502 0 Option.none)) (n2) (c3)) = (Go.Value.slice (Option.some (Go.Addr.mk 502 0 Option.none)) (n2) (c3))) ∧
 (((vI x7) = (vI x7)) ∧
 (((Go.Value.slice (Option.some (Go.Addr.mk 502 0 Option.none)) (n2) (c3)) = (Go.Value.slice (Option.some (Go.Addr.mk 502 0 Option.none)) (n2) (c3))) ∧
 (((vI n1) = (vI n1)) ∧
 (((Go.Value.pointer (Option.some (Go.Addr.mk 1005 0 Option.none))) = (Go.Value.pointer (Option.some (Go.Addr.mk 1005 0 Option.none)))) ∧
 (((Go.Value.slice Option.none 0 0) = (Go.Value.slice Option.none 0 0)) ∧
 (((Go.Value.pointer (Option.some (Go.Addr.mk 1003 1 Option.none))) = (Go.Value.pointer (Option.some (Go.Addr.mk 1003 1 Option.none)))) ∧
 True))))))))))))))))) ∧
 (∃ n14 : Int,
 ((Says C 25 [(D.val (vI n13)), (D.val (vI (IntKind.wrap .i64 (IntKind.wrap .i64 (n3 - n1) + 1))))] [(D.val (vI n14))]) ∧
 (((((Go.Value.slice (Option.some (Go.Addr.mk 1006 0 Option.none)) 1 1) = (Go.Value.slice (Option.some (Go.Addr.mk 1006 0 Option.none)) 1 1)) ∧
 ((Option.some (AObj.cells [(vI (IntKind.wrap .i64 (n1 + n14)))] 3 false 1)) = (Option.some (AObj.cells [(vI (IntKind.wrap .i64 (n1 + n14)))] 3 false 1)))) ∧
 (((vI (IntKind.wrap .i64 (n1 + n14))) = (vI (IntKind.wrap .i64 (n1 + n14)))) ∧
 (((vI (IntKind.wrap .i64 (n3 - n1))) = (vI (IntKind.wrap .i64 (n3 - n1)))) ∧
 (((vI n1) = (vI n1)) ∧
 (((Go.Value.pointer (Option.some (Go.Addr.mk 1005 0 Option.none))) = (Go.Value.pointer (Option.some (Go.Addr.mk 1005 0 Option.none)))) ∧
 (((vI n3) = (vI n3)) ∧
 (((Go.Value.pointer (Option.some (Go.Addr.mk 1005 1 Option.none))) = (Go.Value.pointer (Option.some (Go.Addr.mk 1005 1 Option.none)))) ∧
 ((bcase (decide (0 ≤ Int.tmod x7 (↑n2 : Int)))
 (bcase (decide (Int.tmod x7 (↑n2 : Int) < (↑n2 : Int)))
 ((Go.Value.pointer (Option.some (Go.Addr.mk 502 (0 + Int.toNat (Int.tmod x7 (↑n2 : Int)) * 1) Option.none))) = (Go.Value.pointer (Option.some (Go.Addr.mk 502 (0 + Int.toNat (Int.tmod x7 (↑n2 : Int)) * 1) Option.none))))
 False)
 False) ∧
 ((bcase ((↑n2 : Int) != 0)
 ((vI (Int.tmod x7 (↑n2 : Int))) = (vI (Int.tmod x7 (↑n2 : Int))))
 False) ∧
 (((vI ((↑n2 : Int))) = (vI ((↑n2 : Int)))) ∧
 (((Go.Value.slice (Option.some (Go.Addr.mk 502 0 Option.none)) (n2) (c3)) = (Go.Value.slice (Option.some (Go.Addr.mk 502 0 Option.none)) (n2) (c3))) ∧
 (((vI x7) = (vI x7)) ∧
 (((Go.Value.slice (Option.some (Go.Addr.mk 502 0 Option.none)) (n2) (c3)) = (Go.Value.slice (Option.some (Go.Addr.mk 502 0 Option.none)) (n2) (c3))) ∧
 (((vI n1) = (vI n1)) ∧
 (((Go.Value.pointer (Option.some (Go.Addr.mk 1005 0 Option.none))) = (Go.Value.pointer (Option.some (Go.Addr.mk 1005 0 Option.none)))) ∧
 (((Go.Value.slice Option.none 0 0) = (Go.Value.slice Option.none 0 0)) ∧
 (((Go.Value.pointer (Option.some (Go.Addr.mk 1003 1 Option.none))) = (Go.Value.pointer (Option.some (Go.Addr.mk 1003 1 Option.none)))) ∧
 True))))))))))))))))) ∧
 ((((Go.Value.pointer (Option.some (Go.Addr.mk 1003 1 Option.none))) = (Go.Value.pointer (Option.some (Go.Addr.mk 1003 1 Option.none)))) ∧
 (((vI (IntKind.wrap .i64 (n1 + n14))) = (vI (IntKind.wrap .i64 (n1 + n14)))) ∧
 (((vI (IntKind.wrap .i64 (n3 - n1))) = (vI (IntKind.wrap .i64 (n3 - n1)))) ∧
 (((vI n1) = (vI n1)) ∧
 (((Go.Value.pointer (Option.some (Go.Addr.mk 1005 0 Option.none))) = (Go.Value.pointer (Option.some (Go.Addr.mk 1005 0 Option.none)))) ∧
 (((vI n3) = (vI n3)) ∧
 (((Go.Value.pointer (Option.some (Go.Addr.mk 1005 1 Option.none))) = (Go.Value.pointer (Option.some (Go.Addr.mk 1005 1 Option.none)))) ∧
 ((bcase (decide (0 ≤ Int.tmod x7 (↑n2 : Int)))
 (bcase (decide (Int.tmod x7 (↑n2 : Int) < (↑n2 : Int)))
 ((Go.Value.pointer (Option.some (Go.Addr.mk 502 (0 + Int.toNat (Int.tmod x7 (↑n2 : Int)) * 1) Option.none))) = (Go.Value.pointer (Option.some (Go.Addr.mk 502 (0 + Int.toNat (Int.tmod x7 (↑n2 : Int)) * 1) Option.none))))
 False)
 False) ∧
 ((bcase ((↑n2 : Int) != 0)
 ((vI (Int.tmod x7 (↑n2 : Int))) = (vI (Int.tmod x7 (↑n2 : Int))))
 False) ∧
 (((vI ((↑n2 : Int))) = (vI ((↑n2 : Int)))) ∧
 (((Go.Value.slice (Option.some (Go.Addr.mk 502 0 Option.none)) (n2) (c3)) = (Go.Value.slice (Option.some (Go.Addr.mk 502 0 Option.none)) (n2) (c3))) ∧
 (((vI x7) = (vI x7)) ∧
 (((Go.Value.slice (Option.some (Go.Addr.mk 502 0 Option.none)) (n2) (c3)) = (Go.Value.slice (Option.some (Go.Addr.mk 502 0 Option.none)) (n2) (c3))) ∧
 (((vI n1) = (vI n1)) ∧
 (((Go.Value.pointer (Option.some (Go.Addr.mk 1005 0 Option.none))) = (Go.Value.pointer (Option.some (Go.Addr.mk 1005 0 Option.none)))) ∧
 (((Go.Value.pointer (Option.some (Go.Addr.mk 1003 1 Option.none))) = (Go.Value.pointer (Option.some (Go.Addr.mk 1003 1 Option.none)))) ∧
 True)))))))))))))))) ∧
 (True ∧
 (B [(Prod.mk 1 (Go.Value.slice (Option.some (Go.Addr.mk 501 0 Option.none)) (n0) (c1))), (Prod.mk 2 (Go.Value.slice (Option.some (Go.Addr.mk 502 0 Option.none)) (n2) (c3))), (Prod.mk 3 (Go.Value.pointer (Option.some (Go.Addr.mk 1000 0 Option.none)))), (Prod.mk 8 (Go.Value.slice (Option.some (Go.Addr.mk 1001 0 Option.none)) (n4) (n4))), (Prod.mk 10 (vI x5)), (Prod.mk 11 (Go.Value.slice (Option.some (Go.Addr.mk 1002 0 Option.none)) (n6) (n6))), (Prod.mk 12 (vI (IntKind.wrap .i64 (x7 + 1)))), (Prod.mk 13 (vI x8)), (Prod.mk 14 (Go.Value.pointer (Option.some (Go.Addr.mk 1003 0 Option.none)))), (Prod.mk 15 (vI (IntKind.wrap .i64 (x9 + 1))))] [(Prod.mk 501 (AObj.sym (l10) false 1)), (Prod.mk 502 (AObj.sym (l11) false 1)), (Prod.mk 1000 (AObj.cells [(Go.Value.slice (Option.some (Go.Addr.mk 500 0 Option.none)) (n12) (c13))] 24 false 1)), (Prod.mk 1001 (AObj.sym (l14) true 2)), (Prod.mk 1002 (AObj.sym (l15) true 1)), (Prod.mk 1003 (AObj.cells [(Go.Value.slice (Option.some (Go.Addr.mk 1004 0 Option.none)) (n16) (n16)), (Go.Value.slice (Option.some (Go.Addr.mk 1005 0 Option.none)) 1 1)] 27 false 2)), (Prod.mk 500 (AObj.sym (l17) false 7)), (Prod.mk 1004 (AObj.sym (l18) true 1)), (Prod.mk 1005 (AObj.sym [(vI (IntKind.wrap .i64 (n1 + n14)))] true 1))])))))))))
 False)
 False)
 False))) ∨
 ((Says C 26 [(D.val (vI n9)), (D.val (vI n10)), (D.val (vI n11))] [(D.val (Value.bool false))]) ∧
 ((((Value.bool true) = (Value.bool true)) ∧
 (((Value.bool true) = (Value.bool true)) ∧
 (((Go.Value.pointer (Option.some (Go.Addr.mk 500 (Go.Addr.off { block := 500, off := Go.Addr.off { block := 500, off := 0 + Int.toNat x9 * 7 } + 5 } + 1) Option.none))) = (Go.Value.pointer (Option.some (Go.Addr.mk 500 (Go.Addr.off (Go.Addr.add { block := 500, off := 0 + Int.toNat x9 * 7 } 5) + 1) Option.none)))) ∧
 (((Go.Value.pointer (Option.some (Go.Addr.mk 500 (Go.Addr.off { block := 500, off := 0 + Int.toNat x9 * 7 } + 5) Option.none))) = (Go.Value.pointer (Option.some (Go.Addr.mk 500 (Go.Addr.off { block := 500, off := 0 + Int.toNat x9 * 7 } + 5) Option.none)))) ∧
 ((bcase (decide (0 ≤ x9))
 (bcase (decide (x9 < (↑n12 : Int)))
 ((Go.Value.pointer (Option.some (Go.Addr.mk 500 (0 + Int.toNat x9 * 7) Option.none))) = (Go.Value.pointer (Option.some (Go.Addr.mk 500 (0 + Int.toNat x9 * 7) Option.none))))
 False)
 False) ∧
 (((vI x9) = (vI x9)) ∧
 (((Go.Value.slice (Option.some (Go.Addr.mk 500 0 Option.none)) (n12) (c13)) = (Go.Value.slice (Option.some (Go.Addr.mk 500 0 Option.none)) (n12) (c13))) ∧
 (((Go.Value.pointer (Option.some (Go.Addr.mk 1000 0 Option.none))) = (Go.Value.pointer (Option.some (Go.Addr.mk 1000 0 Option.none)))) ∧
 (((Go.Value.pointer (Option.some (Go.Addr.mk 500 (Go.Addr.off { block := 500, off := 0 + Int.toNat x9 * 7 } + 5) Option.none))) = (Go.Value.pointer (Option.some (Go.Addr.mk 500 (Go.Addr.off { block := 500, off := 0 + Int.toNat x9 * 7 } + 5) Option.none)))) ∧
 (((Go.Value.pointer (Option.some (Go.Addr.mk 500 (Go.Addr.off { block := 500, off := 0 + Int.toNat x9 * 7 } + 5) Option.none))) = (Go.Value.pointer (Option.some (Go.Addr.mk 500 (Go.Addr.off { block := 500, off := 0 + Int.toNat x9 * 7 } + 5) Option.none)))) ∧
 ((bcase (decide (0 ≤ x9))
 (bcase (decide (x9 < (↑n12 : Int)))
 ((Go.Value.pointer (Option.some (Go.Addr.mk 500 (0 + Int.toNat x9 * 7) Option.none))) = (Go.Value.pointer (Option.some (Go.Addr.mk 500 (0 + Int.toNat x9 * 7) Option.none))))
 False)
 False) ∧
 (((vI x9) = (vI x9)) ∧
 (((Go.Value.slice (Option.some (Go.Addr.mk 500 0 Option.none)) (n12) (c13)) = (Go.Value.slice (Option.some (Go.Addr.mk 500 0 Option.none)) (n12) (c13))) ∧
 (((Go.Value.pointer (Option.some (Go.Addr.mk 1000 0 Option.none))) = (Go.Value.pointer (Option.some (Go.Addr.mk 1000 0 Option.none)))) ∧
 ((bcase (decide (0 ≤ x9))
 (bcase (decide (x9 < (↑n6 : Int)))
 ((Go.Value.pointer (Option.some (Go.Addr.mk 1002 (0 + Int.toNat x9 * 1) Option.none))) = (Go.Value.pointer (Option.some (Go.Addr.mk 1002 (0 + Int.toNat x9 * 1) Option.none))))
 False)
 False) ∧
 (((vI x9) = (vI x9)) ∧
 (((Go.Value.slice (Option.some (Go.Addr.mk 1002 0 Option.none)) (n6) (n6)) = (Go.Value.slice (Option.some (Go.Addr.mk 1002 0 Option.none)) (n6) (n6))) ∧
 (((Value.bool false) = (Value.bool false)) ∧
 (((Go.Value.pointer (Option.some (Go.Addr.mk 1001 (Go.Addr.off { block := 1001, off := 0 + Int.toNat x9 * 2 } + 1) Option.none))) = (Go.Value.pointer (Option.some (Go.Addr.mk 1001 (Go.Addr.off { block := 1001, off := 0 + Int.toNat x9 * 2 } + 1) Option.none)))) ∧
 ((bcase (decide (0 ≤ x9))
 (bcase (decide (x9 < (↑n4 : Int)))
 ((Go.Value.pointer (Option.some (Go.Addr.mk 1001 (0 + Int.toNat x9 * 2) Option.none))) = (Go.Value.pointer (Option.some (Go.Addr.mk 1001 (0 + Int.toNat x9 * 2) Option.none))))
 False)
 False) ∧
 (((vI x9) = (vI x9)) ∧
 (((Go.Value.slice (Option.some (Go.Addr.mk 1001 0 Option.none)) (n4) (n4)) = (Go.Value.slice (Option.some (Go.Addr.mk 1001 0 Option.none)) (n4) (n4))) ∧
 (((Go.Value.pointer (Option.some (Go.Addr.mk 1001 (0 + Int.toNat x9 * 2) Option.none))) = (Go.Value.pointer (Option.some (Go.Addr.mk 1001 (0 + Int.toNat x9 * 2) Option.none)))) ∧
 ((bcase (decide (0 ≤ x9))
 (bcase (decide (x9 < (↑n4 : Int)))
 ((Go.Value.pointer (Option.some (Go.Addr.mk 1001 (0 + Int.toNat x9 * 2) Option.none))) = (Go.Value.pointer (Option.some (Go.Addr.mk 1001 (0 + Int.toNat x9 * 2) Option.none))))
 False)
 False) ∧
 (((vI x9) = (vI x9)) ∧
 (((Go.Value.slice (Option.some (Go.Addr.mk 1001 0 Option.none)) (n4) (n4)) = (Go.Value.slice (Option.some (Go.Addr.mk 1001 0 Option.none)) (n4) (n4))) ∧
 ((bcase (decide (0 ≤ x9))
 (bcase (decide (x9 < (↑n6 : Int)))
 ((Go.Value.pointer (Option.some (Go.Addr.mk 1002 (0 + Int.toNat x9 * 1) Option.none))) = (Go.Value.pointer (Option.some (Go.Addr.mk 1002 (0 + Int.toNat x9 * 1) Option.none))))
 False)
 False) ∧
 (((vI x9) = (vI x9)) ∧
 (((Go.Value.slice (Option.some (Go.Addr.mk 1002 0 Option.none)) (n6) (n6)) = (Go.Value.slice (Option.some (Go.Addr.mk 1002 0 Option.none)) (n6) (n6))) ∧
 True))))))))))))))))))))))))))))) ∧
 (k [(D.val (Value.bool false))])))))))
 False)
 False)))
 False)
 False)))
 False)
 False)) ∨
 ((Says C 26 [(D.val (vI n5)), (D.val (vI n7)), (D.val (vI n8))] [(D.val (Value.bool false))]) ∧
 ((((Go.Value.tuple [].toArray) = (Go.Value.tuple [].toArray)) ∧
 (((Go.Value.tuple [].toArray) = (Go.Value.tuple [].toArray)) ∧
 (((Go.Value.tuple [].toArray) = (Go.Value.tuple [].toArray)) ∧
 (((Go.Value.tuple [].toArray) = (Go.Value.tuple [].toArray)) ∧
 (((Go.Value.tuple [].toArray) = (Go.Value.tuple [].toArray)) ∧
 (((Go.Value.tuple [].toArray) = (Go.Value.tuple [].toArray)) ∧
 (((Go.Value.tuple [].toArray) = (Go.Value.tuple [].toArray)) ∧
 (((Go.Value.tuple [].toArray) = (Go.Value.tuple [].toArray)) ∧
 (((Go.Value.tuple [].toArray) = (Go.Value.tuple [].toArray)) ∧
 (((Go.Value.tuple [].toArray) = (Go.Value.tuple [].toArray)) ∧
 (((Go.Value.tuple [].toArray) = (Go.Value.tuple [].toArray)) ∧
 (((Go.Value.tuple [].toArray) = (Go.Value.tuple [].toArray)) ∧
 (((Go.Value.tuple [].toArray) = (Go.Value.tuple [].toArray)) ∧
 (((Go.Value.tuple [].toArray) = (Go.Value.tuple [].toArray)) ∧
 (((Go.Value.tuple [].toArray) = (Go.Value.tuple [].toArray)) ∧
 (((Go.Value.tuple [].toArray) = (Go.Value.tuple [].toArray)) ∧
 (((Go.Value.tuple [].toArray) = (Go.Value.tuple [].toArray)) ∧
 (((Go.Value.tuple [].toArray) = (Go.Value.tuple [].toArray)) ∧
 (((Value.bool true) = (Value.bool true)) ∧
 (((Value.bool true) = (Value.bool true)) ∧
 (((Go.Value.pointer (Option.some (Go.Addr.mk 1001 (Go.Addr.off { block := 1001, off := 0 + Int.toNat x9 * 2 } + 1) Option.none))) = (Go.Value.pointer (Option.some (Go.Addr.mk 1001 (Go.Addr.off { block := 1001, off := 0 + Int.toNat x9 * 2 } + 1) Option.none)))) ∧
 ((bcase (decide (0 ≤ x9))
 (bcase (decide (x9 < (↑n4 : Int)))
 ((Go.Value.pointer (Option.some (Go.Addr.mk 1001 (0 + Int.toNat x9 * 2) Option.none))) = (Go.Value.pointer (Option.some (Go.Addr.mk 1001 (0 + Int.toNat x9 * 2) Option.none))))
 False)
 False) ∧
 (((vI x9) = (vI x9)) ∧
 (((Go.Value.slice (Option.some (Go.Addr.mk 1001 0 Option.none)) (n4) (n4)) = (Go.Value.slice (Option.some (Go.Addr.mk 1001 0 Option.none)) (n4) (n4))) ∧
 (((Go.Value.pointer (Option.some (Go.Addr.mk 1001 (0 + Int.toNat x9 * 2) Option.none))) = (Go.Value.pointer (Option.some (Go.Addr.mk 1001 (0 + Int.toNat x9 * 2) Option.none)))) ∧
 ((bcase (decide (0 ≤ x9))
 (bcase (decide (x9 < (↑n4 : Int)))
 ((Go.Value.pointer (Option.some (Go.Addr.mk 1001 (0 + Int.toNat x9 * 2) Option.none))) = (Go.Value.pointer (Option.some (Go.Addr.mk 1001 (0 + Int.toNat x9 * 2) Option.none))))
 False)
 False) ∧
 (((vI x9) = (vI x9)) ∧
 (((Go.Value.slice (Option.some (Go.Addr.mk 1001 0 Option.none)) (n4) (n4)) = (Go.Value.slice (Option.some (Go.Addr.mk 1001 0 Option.none)) (n4) (n4))) ∧
 ((bcase (decide (0 ≤ x9))
 (bcase (decide (x9 < (↑n6 : Int)))
 ((Go.Value.pointer (Option.some (Go.Addr.mk 1002 (0 + Int.toNat x9 * 1) Option.none))) = (Go.Value.pointer (Option.some (Go.Addr.mk 1002 (0 + Int.toNat x9 * 1) Option.none))))
 False)
 False) ∧
 (((vI x9) = (vI x9)) ∧
 (((Go.Value.slice (Option.some (Go.Addr.mk 1002 0 Option.none)) (n6) (n6)) = (Go.Value.slice (Option.some (Go.Addr.mk 1002 0 Option.none)) (n6) (n6))) ∧
 True))))))))))))))))))))))))))))))) ∧
 ((((Value.bool true) = (Value.bool true)) ∧
 (((Go.Value.tuple [].toArray) = (Go.Value.tuple [].toArray)) ∧
 (((Go.Value.tuple [].toArray) = (Go.Value.tuple [].toArray)) ∧
 (((Go.Value.tuple [].toArray) = (Go.Value.tuple [].toArray)) ∧
 (((Go.Value.tuple [].toArray) = (Go.Value.tuple [].toArray)) ∧
 (((Go.Value.tuple [].toArray) = (Go.Value.tuple [].toArray)) ∧
 (((Go.Value.tuple [].toArray) = (Go.Value.tuple [].toArray)) ∧
 (((Go.Value.tuple [].toArray) = (Go.Value.tuple [].toArray)) ∧
 (((Go.Value.tuple [].toArray) = (Go.Value.tuple [].toArray)) ∧
 (((Go.Value.tuple [].toArray) = (Go.Value.tuple [].toArray)) ∧
 (((Go.Value.tuple [].toArray) = (Go.Value.tuple [].toArray)) ∧
 (((Go.Value.tuple [].toArray) = (Go.Value.tuple [].toArray)) ∧
 (((Go.Value.tuple [].toArray) = (Go.Value.tuple [].toArray)) ∧
 (((Go.Value.tuple [].toArray) = (Go.Value.tuple [].toArray)) ∧
 (((Go.Value.tuple [].toArray) = (Go.Value.tuple [].toArray)) ∧
 (((Go.Value.tuple [].toArray) = (Go.Value.tuple [].toArray)) ∧
 (((Go.Value.tuple [].toArray) = (Go.Value.tuple [].toArray)) ∧
 (((Value.bool true) = (Value.bool true)) ∧
 (((Go.Value.pointer (Option.some (Go.Addr.mk 1001 (Go.Addr.off { block := 1001, off := 0 + Int.toNat x9 * 2 } + 1) Option.none))) = (Go.Value.pointer (Option.some (Go.Addr.mk 1001 (Go.Addr.off { block := 1001, off := 0 + Int.toNat x9 * 2 } + 1) Option.none)))) ∧
 ((bcase (decide (0 ≤ x9))
 (bcase (decide (x9 < (↑n4 : Int)))
 ((Go.Value.pointer (Option.some (Go.Addr.mk 1001 (0 + Int.toNat x9 * 2) Option.none))) = (Go.Value.pointer (Option.some (Go.Addr.mk 1001 (0 + Int.toNat x9 * 2) Option.none))))
 False)
 False) ∧
 (((vI x9) = (vI x9)) ∧
 (((Go.Value.slice (Option.some (Go.Addr.mk 1001 0 Option.none)) (n4) (n4)) = (Go.Value.slice (Option.some (Go.Addr.mk 1001 0 Option.none)) (n4) (n4))) ∧
 (((Go.Value.pointer (Option.some (Go.Addr.mk 1001 (0 + Int.toNat x9 * 2) Option.none))) = (Go.Value.pointer (Option.some (Go.Addr.mk 1001 (0 + Int.toNat x9 * 2) Option.none)))) ∧
 ((bcase (decide (0 ≤ x9))
 (bcase (decide (x9 < (↑n4 : Int)))
 ((Go.Value.pointer (Option.some (Go.Addr.mk 1001 (0 + Int.toNat x9 * 2) Option.none))) = (Go.Value.pointer (Option.some (Go.Addr.mk 1001 (0 + Int.toNat x9 * 2) Option.none))))
 False)
 False) ∧
 (((vI x9) = (vI x9)) ∧
 (((Go.Value.slice (Option.some (Go.Addr.mk 1001 0 Option.none)) (n4) (n4)) = (Go.Value.slice (Option.some (Go.Addr.mk 1001 0 Option.none)) (n4) (n4))) ∧
 ((bcase (decide (0 ≤ x9))
 (bcase (decide (x9 < (↑n6 : Int)))
 ((Go.Value.pointer (Option.some (Go.Addr.mk 1002 (0 + Int.toNat x9 * 1) Option.none))) = (Go.Value.pointer (Option.some (Go.Addr.mk 1002 (0 + Int.toNat x9 * 1) Option.none))))
 False)
 False) ∧
 (((vI x9) = (vI x9)) ∧
 (((Go.Value.slice (Option.some (Go.Addr.mk 1002 0 Option.none)) (n6) (n6)) = (Go.Value.slice (Option.some (Go.Addr.mk 1002 0 Option.none)) (n6) (n6))) ∧
 True))))))))))))))))))))))))))))) ∧
 (k [(D.val (Value.bool false))]))))))))
 False)
 False)))
 False)
 False)))
 False)
 False))))
 False)
 False)
 (X 4 [(Prod.mk 1 (Go.Value.slice (Option.some (Go.Addr.mk 501 0 Option.none)) (n0) (c1))), (Prod.mk 2 (Go.Value.slice (Option.some (Go.Addr.mk 502 0 Option.none)) (n2) (c3))), (Prod.mk 3 (Go.Value.pointer (Option.some (Go.Addr.mk 1000 0 Option.none)))), (Prod.mk 8 (Go.Value.slice (Option.some (Go.Addr.mk 1001 0 Option.none)) (n4) (n4))), (Prod.mk 10 (vI x5)), (Prod.mk 12 (vI x7)), (Prod.mk 13 (vI x8)), (Prod.mk 14 (Go.Value.pointer (Option.some (Go.Addr.mk 1002 0 Option.none))))] [(Prod.mk 501 (AObj.sym (l10) false 1)), (Prod.mk 502 (AObj.sym (l11) false 1)), (Prod.mk 1000 (AObj.cells [(Go.Value.slice (Option.some (Go.Addr.mk 500 0 Option.none)) (n12) (c13))] 24 false 1)), (Prod.mk 1001 (AObj.sym (l14) true 2)), (Prod.mk 1002 (AObj.cells [(Go.Value.slice (Option.some (Go.Addr.mk 1003 0 Option.none)) (n16) (n16)), (Go.Value.slice Option.none 0 0)] 27 false 2)), (Prod.mk 500 (AObj.sym (l17) false 7)), (Prod.mk 1003 (AObj.sym (l18) true 1))])) := by kernel_rfl
abbrev zHd11 (n0 : Nat) (c1 : Nat) (n2 : Nat) (c3 : Nat) (n4 : Nat) (x5 : Int) (n6 : Nat) (x7 : Int) (x8 : Int) (x9 : Int) (l10 : List Value) (l11 : List Value) (n12 : Nat) (c13 : Nat) (l14 : List Value) (l15 : List Value) (n16 : Nat) (n17 : Nat) (l18 : List Value) (l19 : List Value) (l20 : List Value) : Slots × Blocks := ([(1, (Value.slice (some ⟨501, 0, none⟩) n0 c1)), (2, (Value.slice (some ⟨502, 0, none⟩) n2 c3)), (3, (Value.pointer (some ⟨1000, 0, none⟩))), (8, (Value.slice (some ⟨1001, 0, none⟩) n4 n4)), (10, (Value.int .i64 x5)), (11, (Value.slice (some ⟨1002, 0, none⟩) n6 n6)), (12, (Value.int .i64 x7)), (13, (Value.int .i64 x8)), (14, (Value.pointer (some ⟨1003, 0, none⟩))), (15, (Value.int .i64 x9))], [(501, (AObj.sym l10 false 1)), (502, (AObj.sym l11 false 1)), (1000, (AObj.cells [(Value.slice (some ⟨500, 0, none⟩) n12 c13)] 24 false 1)), (1001, (AObj.sym l14 true 2)), (1002, (AObj.sym l15 true 1)), (1003, (AObj.cells [(Value.slice (some ⟨1004, 0, none⟩) n16 n16), (Value.slice (some ⟨1005, 0, none⟩) n17 n17)] 27 false 2)), (500, (AObj.sym l18 false 7)), (1004, (AObj.sym l19 true 1)), (1005, (AObj.sym l20 true 1))])
def rHd11 (C : Ct) (L : AtLoop) (n0 : Nat) (c1 : Nat) (n2 : Nat) (c3 : Nat) (n4 : Nat) (x5 : Int) (n6 : Nat) (x7 : Int) (x8 : Int) (x9 : Int) (l10 : List Value) (l11 : List Value) (n12 : Nat) (c13 : Nat) (l14 : List Value) (l15 : List Value) (n16 : Nat) (n17 : Nat) (l18 : List Value) (l19 : List Value) (l20 : List Value) (B : Bx) (X : Xx) (k : List D → Prop) : Prop := jRound2 Try.prog (hL C) L [] 6 2 4 [(1, (Value.slice (some ⟨501, 0, none⟩) n0 c1)), (2, (Value.slice (some ⟨502, 0, none⟩) n2 c3)), (3, (Value.pointer (some ⟨1000, 0, none⟩))), (8, (Value.slice (some ⟨1001, 0, none⟩) n4 n4)), (10, (Value.int .i64 x5)), (11, (Value.slice (some ⟨1002, 0, none⟩) n6 n6)), (12, (Value.int .i64 x7)), (13, (Value.int .i64 x8)), (14, (Value.pointer (some ⟨1003, 0, none⟩))), (15, (Value.int .i64 x9))] [(501, (AObj.sym l10 false 1)), (502, (AObj.sym l11 false 1)), (1000, (AObj.cells [(Value.slice (some ⟨500, 0, none⟩) n12 c13)] 24 false 1)), (1001, (AObj.sym l14 true 2)), (1002, (AObj.sym l15 true 1)), (1003, (AObj.cells [(Value.slice (some ⟨1004, 0, none⟩) n16 n16), (Value.slice (some ⟨1005, 0, none⟩) n17 n17)] 27 false 2)), (500, (AObj.sym l18 false 7)), (1004, (AObj.sym l19 true 1)), (1005, (AObj.sym l20 true 1))] B X (dataK k)
theorem rHd11_text (C : Ct) (L : AtLoop) (n0 : Nat) (c1 : Nat) (n2 : Nat) (c3 : Nat) (n4 : Nat) (x5 : Int) (n6 : Nat) (x7 : Int) (x8 : Int) (x9 : Int) (l10 : List Go.Value) (l11 : List Go.Value) (n12 : Nat) (c13 : Nat) (l14 : List Go.Value) (l15 : List Go.Value) (n16 : Nat) (n17 : Nat) (l18 : List Go.Value) (l19 : List Go.Value) (l20 : List Go.Value) (B : Bx) (X : Xx) (k : List D → Prop) : rHd11 C L n0 c1 n2 c3 n4 x5 n6 x7 x8 x9 l10 l11 n12 c13 l14 l15 n16 n17 l18 l19 l20 B X k =
 (bcase (decide (x9 < x5))
 (bcase (decide (0 ≤ x9))
 (bcase (decide (x9 < (↑n12 : Int)))
 (∃ n1 : Int,
 (∃ n3 : Int,
 ((At (l18) (Go.Addr.off { block := 500, off := 0 + Int.toNat x9 * 7 } + 3) 2 [(vI n1), (vI n3)]) ∧
 (bcase (decide (0 ≤ x9))
 (bcase (decide (x9 < (↑n6 : Int)))
 (∃ n5 : Int,
 ((At (l15) (0 + Int.toNat x9 * 1) 1 [(vI n5)]) ∧
 (bcase (decide (0 ≤ x9))
 (bcase (decide (x9 < (↑n4 : Int)))
 (∃ n7 : Int,
 ((At (l14) (0 + Int.toNat x9 * 2) 1 [(vI n7)]) ∧
 (bcase (decide (0 ≤ x9))
 (bcase (decide (x9 < (↑n4 : Int)))
 (∃ n8 : Int,
 ((At (l14) (Go.Addr.off { block := 1001, off := 0 + Int.toNat x9 * 2 } + 1) 1 [(vI n8)]) ∧
 (((∃ n9 : Int,
 ((At (l14) (Go.Addr.off { block := 1001, off := 0 + Int.toNat x9 * 2 } + 1) 1 [(vI n9)]) ∧
 ((vI n9) = (vI n8)))) ∧
 (((Go.Value.pointer (Option.some (Go.Addr.mk 1001 (Go.Addr.off { block := 1001, off := 0 + Int.toNat x9 * 2 } + 1) Option.none))) = (Go.Value.pointer (Option.some (Go.Addr.mk 1001 (Go.Addr.off { block := 1001, off := 0 + Int.toNat x9 * 2 } + 1) Option.none)))) ∧
 ((bcase (decide (0 ≤ x9))
 (bcase (decide (x9 < (↑n4 : Int)))
 ((Go.Value.pointer (Option.some (Go.Addr.mk 1001 (0 + Int.toNat x9 * 2) Option.none))) = (Go.Value.pointer (Option.some (Go.Addr.mk 1001 (0 + Int.toNat x9 * 2) Option.none))))
 False)
 False) ∧
 (((vI x9) = (vI x9)) ∧
 (((Go.Value.slice (Option.some (Go.Addr.mk 1001 0 Option.none)) (n4) (n4)) = (Go.Value.slice (Option.some (Go.Addr.mk 1001 0 Option.none)) (n4) (n4))) ∧
 ((∃ n9 : Int,
 ((At (l14) (0 + Int.toNat x9 * 2) 1 [(vI n9)]) ∧
 ((vI n9) = (vI n7)))) ∧
 (((Go.Value.pointer (Option.some (Go.Addr.mk 1001 (0 + Int.toNat x9 * 2) Option.none))) = (Go.Value.pointer (Option.some (Go.Addr.mk 1001 (0 + Int.toNat x9 * 2) Option.none)))) ∧
 ((bcase (decide (0 ≤ x9))
 (bcase (decide (x9 < (↑n4 : Int)))
 ((Go.Value.pointer (Option.some (Go.Addr.mk 1001 (0 + Int.toNat x9 * 2) Option.none))) = (Go.Value.pointer (Option.some (Go.Addr.mk 1001 (0 + Int.toNat x9 * 2) Option.none))))
 False)
 False) ∧
 (((vI x9) = (vI x9)) ∧
 (((Go.Value.slice (Option.some (Go.Addr.mk 1001 0 Option.none)) (n4) (n4)) = (Go.Value.slice (Option.some (Go.Addr.mk 1001 0 Option.none)) (n4) (n4))) ∧
 ((∃ n9 : Int,
 ((At (l15) (0 + Int.toNat x9 * 1) 1 [(vI n9)]) ∧
 ((vI n9) = (vI n5)))) ∧
 ((bcase (decide (0 ≤ x9))
 (bcase (decide (x9 < (↑n6 : Int)))
 ((Go.Value.pointer (Option.some (Go.Addr.mk 1002 (0 + Int.toNat x9 * 1) Option.none))) = (Go.Value.pointer (Option.some (Go.Addr.mk 1002 (0 + Int.toNat x9 * 1) Option.none))))
 False)
 False) ∧
 (((vI x9) = (vI x9)) ∧
 (((Go.Value.slice (Option.some (Go.Addr.mk 1002 0 Option.none)) (n6) (n6)) = (Go.Value.slice (Option.some (Go.Addr.mk 1002 0 Option.none)) (n6) (n6))) ∧
 True)))))))))))))) ∧
 (((Says C 26 [(D.val (vI n5)), (D.val (vI n7)), (D.val (vI n8))] [(D.val (Value.bool true))]) ∧
 (bcase (decide (0 ≤ x9))
 (bcase (decide (x9 < (↑n6 : Int)))
 (∃ n9 : Int,
 ((At (l15) (0 + Int.toNat x9 * 1) 1 [(vI n9)]) ∧
 (bcase (decide (0 ≤ x9))
 (bcase (decide (x9 < (↑n12 : Int)))
 (∃ n10 : Int,
 ((At (l18) (Go.Addr.off { block := 500, off := 0 + Int.toNat x9 * 7 } + 5) 1 [(vI n10)]) ∧
 (bcase (decide (0 ≤ x9))
 (bcase (decide (x9 < (↑n12 : Int)))
 (∃ n11 : Int,
 ((At (l18) (Go.Addr.off (Go.Addr.add { block := 500, off := 0 + Int.toNat x9 * 7 } 5) + 1) 1 [(vI n11)]) ∧
 (((∃ n13 : Int,
 ((At (l18) (Go.Addr.off (Go.Addr.add { block := 500, off := 0 + Int.toNat x9 * 7 } 5) + 1) 1 [(vI n13)]) ∧
 ((vI n13) = (vI n11)))) ∧
 (((Go.Value.pointer (Option.some (Go.Addr.mk 500 (Go.Addr.off { block := 500, off := Go.Addr.off { block := 500, off := 0 + Int.toNat x9 * 7 } + 5 } + 1) Option.none))) = (Go.Value.pointer (Option.some (Go.Addr.mk 500 (Go.Addr.off (Go.Addr.add { block := 500, off := 0 + Int.toNat x9 * 7 } 5) + 1) Option.none)))) ∧
 (((Go.Value.pointer (Option.some (Go.Addr.mk 500 (Go.Addr.off { block := 500, off := 0 + Int.toNat x9 * 7 } + 5) Option.none))) = (Go.Value.pointer (Option.some (Go.Addr.mk 500 (Go.Addr.off { block := 500, off := 0 + Int.toNat x9 * 7 } + 5) Option.none)))) ∧
 ((bcase (decide (0 ≤ x9))
 (bcase (decide (x9 < (↑n12 : Int)))
 ((Go.Value.pointer (Option.some (Go.Addr.mk 500 (0 + Int.toNat x9 * 7) Option.none))) = (Go.Value.pointer (Option.some (Go.Addr.mk 500 (0 + Int.toNat x9 * 7) Option.none))))
 False)
 False) ∧
 (((vI x9) = (vI x9)) ∧
 (((Go.Value.slice (Option.some (Go.Addr.mk 500 0 Option.none)) (n12) (c13)) = (Go.Value.slice (Option.some (Go.Addr.mk 500 0 Option.none)) (n12) (c13))) ∧
 (((Go.Value.pointer (Option.some (Go.Addr.mk 1000 0 Option.none))) = (Go.Value.pointer (Option.some (Go.Addr.mk 1000 0 Option.none)))) ∧
 ((∃ n13 : Int,
 ((At (l18) (Go.Addr.off { block := 500, off := 0 + Int.toNat x9 * 7 } + 5) 1 [(vI n13)]) ∧
 ((vI n13) = (vI n10)))) ∧
 (((Go.Value.pointer (Option.some (Go.Addr.mk 500 (Go.Addr.off { block := 500, off := 0 + Int.toNat x9 * 7 } + 5) Option.none))) = (Go.Value.pointer (Option.some (Go.Addr.mk 500 (Go.Addr.off { block := 500, off := 0 + Int.toNat x9 * 7 } + 5) Option.none)))) ∧
 (((Go.Value.pointer (Option.some (Go.Addr.mk 500 (Go.Addr.off { block := 500, off := 0 + Int.toNat x9 * 7 } + 5) Option.none))) = (Go.Value.pointer (Option.some (Go.Addr.mk 500 (Go.Addr.off { block := 500, off := 0 + Int.toNat x9 * 7 } + 5) Option.none)))) ∧
 ((bcase (decide (0 ≤ x9))
 (bcase (decide (x9 < (↑n12 : Int)))
 ((Go.Value.pointer (Option.some (Go.Addr.mk 500 (0 + Int.toNat x9 * 7) Option.none))) = (Go.Value.pointer (Option.some (Go.Addr.mk 500 (0 + Int.toNat x9 * 7) Option.none))))
 False)
 False) ∧
 (((vI x9) = (vI x9)) ∧
 (((Go.Value.slice (Option.some (Go.Addr.mk 500 0 Option.none)) (n12) (c13)) = (Go.Value.slice (Option.some (Go.Addr.mk 500 0 Option.none)) (n12) (c13))) ∧
 (((Go.Value.pointer (Option.some (Go.Addr.mk 1000 0 Option.none))) = (Go.Value.pointer (Option.some (Go.Addr.mk 1000 0 Option.none)))) ∧
 ((∃ n13 : Int,
 ((At (l15) (0 + Int.toNat x9 * 1) 1 [(vI n13)]) ∧
 ((vI n13) = (vI n9)))) ∧
 ((bcase (decide (0 ≤ x9))
 (bcase (decide (x9 < (↑n6 : Int)))
 ((Go.Value.pointer (Option.some (Go.Addr.mk 1002 (0 + Int.toNat x9 * 1) Option.none))) = (Go.Value.pointer (Option.some (Go.Addr.mk 1002 (0 + Int.toNat x9 * 1) Option.none))))
 False)
 False) ∧
 (((vI x9) = (vI x9)) ∧
 (((Go.Value.slice (Option.some (Go.Addr.mk 1002 0 Option.none)) (n6) (n6)) = (Go.Value.slice (Option.some (Go.Addr.mk 1002 0 Option.none)) (n6) (n6))) ∧
 (((Value.bool false) = (Value.bool false)) ∧
 (((Value.bool false) = (Value.bool false)) ∧
 (((Go.Value.pointer (Option.some (Go.Addr.mk 1001 (Go.Addr.off { block := 1001, off := 0 + Int.toNat x9 * 2 } + 1) Option.none))) = (Go.Value.pointer (Option.some (Go.Addr.mk 1001 (Go.Addr.off { block := 1001, off := 0 + Int.toNat x9 * 2 } + 1) Option.none)))) ∧
 ((bcase (decide (0 ≤ x9))
 (bcase (decide (x9 < (↑n4 : Int)))
 ((Go.Value.pointer (Option.some (Go.Addr.mk 1001 (0 + Int.toNat x9 * 2) Option.none))) = (Go.Value.pointer (Option.some (Go.Addr.mk 1001 (0 + Int.toNat x9 * 2) Option.none))))
 False)
 False) ∧
 (((vI x9) = (vI x9)) ∧
 (((Go.Value.slice (Option.some (Go.Addr.mk 1001 0 Option.none)) (n4) (n4)) = (Go.Value.slice (Option.some (Go.Addr.mk 1001 0 Option.none)) (n4) (n4))) ∧
 (((Go.Value.pointer (Option.some (Go.Addr.mk 1001 (0 + Int.toNat x9 * 2) Option.none))) = (Go.Value.pointer (Option.some (Go.Addr.mk 1001 (0 + Int.toNat x9 * 2) Option.none)))) ∧
 ((bcase (decide (0 ≤ x9))
 (bcase (decide (x9 < (↑n4 : Int)))
 ((Go.Value.pointer (Option.some (Go.Addr.mk 1001 (0 + Int.toNat x9 * 2) Option.none))) = (Go.Value.pointer (Option.some (Go.Addr.mk 1001 (0 + Int.toNat x9 * 2) Option.none))))
 False)
 False) ∧
 (((vI x9) = (vI x9)) ∧
 (((Go.Value.slice (Option.some (Go.Addr.mk 1001 0 Option.none)) (n4) (n4)) = (Go.Value.slice (Option.some (Go.Addr.mk 1001 0 Option.none)) (n4) (n4))) ∧
 ((bcase (decide (0 ≤ x9))
 (bcase (decide (x9 < (↑n6 : Int)))
 ((Go.Value.pointer (Option.some (Go.Addr.mk 1002 (0 + Int.toNat x9 * 1) Option.none))) = (Go.Value.pointer (Option.some (Go.Addr.mk 1002 (0 + Int.toNat x9 * 1) Option.none))))
 False)
 False) ∧
 (((vI x9) = (vI x9)) ∧
 (((Go.Value.slice (Option.some (Go.Addr.mk 1002 0 Option.none)) (n6) (n6)) = (Go.Value.slice (Option.some (Go.Addr.mk 1002 0 Option.none)) (n6) (n6))) ∧
 True))))))))))))))))))))))))))))))) ∧
 (((Says C 26 [(D.val (vI n9)), (D.val (vI n10)), (D.val (vI n11))] [(D.val (Value.bool true))]) ∧
 ((((Value.bool false) = (Value.bool false)) ∧
 (((Value.bool false) = (Value.bool false)) ∧
 (((Go.Value.pointer (Option.some (Go.Addr.mk 500 (Go.Addr.off { block := 500, off := Go.Addr.off { block := 500, off := 0 + Int.toNat x9 * 7 } + 5 } + 1) Option.none))) = (Go.Value.pointer (Option.some (Go.Addr.mk 500 (Go.Addr.off (Go.Addr.add { block := 500, off := 0 + Int.toNat x9 * 7 } 5) + 1) Option.none)))) ∧
 (((Go.Value.pointer (Option.some (Go.Addr.mk 500 (Go.Addr.off { block := 500, off := 0 + Int.toNat x9 * 7 } + 5) Option.none))) = (Go.Value.pointer (Option.some (Go.Addr.mk 500 (Go.Addr.off { block := 500, off := 0 + Int.toNat x9 * 7 } + 5) Option.none)))) ∧
 ((bcase (decide (0 ≤ x9))
 (bcase (decide (x9 < (↑n12 : Int)))
 ((Go.Value.pointer (Option.some (Go.Addr.mk 500 (0 + Int.toNat x9 * 7) Option.none))) = (Go.Value.pointer (Option.some (Go.Addr.mk 500 (0 + Int.toNat x9 * 7) Option.none))))
 False)
 False) ∧
 (((vI x9) = (vI x9)) ∧
 (((Go.Value.slice (Option.some (Go.Addr.mk 500 0 Option.none)) (n12) (c13)) = (Go.Value.slice (Option.some (Go.Addr.mk 500 0 Option.none)) (n12) (c13))) ∧
 (((Go.Value.pointer (Option.some (Go.Addr.mk 1000 0 Option.none))) = (Go.Value.pointer (Option.some (Go.Addr.mk 1000 0 Option.none)))) ∧
 (((Go.Value.pointer (Option.some (Go.Addr.mk 500 (Go.Addr.off { block := 500, off := 0 + Int.toNat x9 * 7 } + 5) Option.none))) = (Go.Value.pointer (Option.some (Go.Addr.mk 500 (Go.Addr.off { block := 500, off := 0 + Int.toNat x9 * 7 } + 5) Option.none)))) ∧
 (((Go.Value.pointer (Option.some (Go.Addr.mk 500 (Go.Addr.off { block := 500, off := 0 + Int.toNat x9 * 7 } + 5) Option.none))) = (Go.Value.pointer (Option.some (Go.Addr.mk 500 (Go.Addr.off { block := 500, off := 0 + Int.toNat x9 * 7 } + 5) Option.none)))) ∧
 ((bcase (decide (0 ≤ x9))
 (bcase (decide (x9 < (↑n12 : Int)))
 ((Go.Value.pointer (Option.some (Go.Addr.mk 500 (0 + Int.toNat x9 * 7) Option.none))) = (Go.Value.pointer (Option.some (Go.Addr.mk 500 (0 + Int.toNat x9 * 7) Option.none))))
 False)
 False) ∧
 (((vI x9) = (vI x9)) ∧
 (((Go.Value.slice (Option.some (Go.Addr.mk 500 0 Option.none)) (n12) (c13)) = (Go.Value.slice (Option.some (Go.Addr.mk 500 0 Option.none)) (n12) (c13))) ∧
 (((Go.Value.pointer (Option.some (Go.Addr.mk 1000 0 Option.none))) = (Go.Value.pointer (Option.some (Go.Addr.mk 1000 0 Option.none)))) ∧
 ((bcase (decide (0 ≤ x9))
 (bcase (decide (x9 < (↑n6 : Int)))
 ((Go.Value.pointer (Option.some (Go.Addr.mk 1002 (0 + Int.toNat x9 * 1) Option.none))) = (Go.Value.pointer (Option.some (Go.Addr.mk 1002 (0 + Int.toNat x9 * 1) Option.none))))
 False)
 False) ∧
 (((vI x9) = (vI x9)) ∧
 (((Go.Value.slice (Option.some (Go.Addr.mk 1002 0 Option.none)) (n6) (n6)) = (Go.Value.slice (Option.some (Go.Addr.mk 1002 0 Option.none)) (n6) (n6))) ∧
 (((Value.bool false) = (Value.bool false)) ∧
 (((Go.Value.pointer (Option.some (Go.Addr.mk 1001 (Go.Addr.off { block := 1001, off := 0 + Int.toNat x9 * 2 } + 1) Option.none))) = (Go.Value.pointer (Option.some (Go.Addr.mk 1001 (Go.Addr.off { block := 1001, off := 0 + Int.toNat x9 * 2 } + 1) Option.none)))) ∧
 ((bcase (decide (0 ≤ x9))
 (bcase (decide (x9 < (↑n4 : Int)))
 ((Go.Value.pointer (Option.some (Go.Addr.mk 1001 (0 + Int.toNat x9 * 2) Option.none))) = (Go.Value.pointer (Option.some (Go.Addr.mk 1001 (0 + Int.toNat x9 * 2) Option.none))))
 False)
 False) ∧
 (((vI x9) = (vI x9)) ∧
 (((Go.Value.slice (Option.some (Go.Addr.mk 1001 0 Option.none)) (n4) (n4)) = (Go.Value.slice (Option.some (Go.Addr.mk 1001 0 Option.none)) (n4) (n4))) ∧
 (((Go.Value.pointer (Option.some (Go.Addr.mk 1001 (0 + Int.toNat x9 * 2) Option.none))) = (Go.Value.pointer (Option.some (Go.Addr.mk 1001 (0 + Int.toNat x9 * 2) Option.none)))) ∧
 ((bcase (decide (0 ≤ x9))
 (bcase (decide (x9 < (↑n4 : Int)))
 ((Go.Value.pointer (Option.some (Go.Addr.mk 1001 (0 + Int.toNat x9 * 2) Option.none))) = (Go.Value.pointer (Option.some (Go.Addr.mk 1001 (0 + Int.toNat x9 * 2) Option.none))))
 False)
 False) ∧
 (((vI x9) = (vI x9)) ∧
 (((Go.Value.slice (Option.some (Go.Addr.mk 1001 0 Option.none)) (n4) (n4)) = (Go.Value.slice (Option.some (Go.Addr.mk 1001 0 Option.none)) (n4) (n4))) ∧
 ((bcase (decide (0 ≤ x9))
 (bcase (decide (x9 < (↑n6 : Int)))
 ((Go.Value.pointer (Option.some (Go.Addr.mk 1002 (0 + Int.toNat x9 * 1) Option.none))) = (Go.Value.pointer (Option.some (Go.Addr.mk 1002 (0 + Int.toNat x9 * 1) Option.none))))
 False)
 False) ∧
 (((vI x9) = (vI x9)) ∧
 (((Go.Value.slice (Option.some (Go.Addr.mk 1002 0 Option.none)) (n6) (n6)) = (Go.Value.slice (Option.some (Go.Addr.mk 1002 0 Option.none)) (n6) (n6))) ∧
 True))))))))))))))))))))))))))))) ∧
 (bcase ((↑n2 : Int) != 0)
 (bcase (decide (0 ≤ Int.tmod x7 (↑n2 : Int)))
 (bcase (decide (Int.tmod x7 (↑n2 : Int) < (↑n2 : Int)))
 (∃ n13 : Int,
 ((At (l11) (0 + Int.toNat (Int.tmod x7 (↑n2 : Int)) * 1) 1 [(vI n13)]) ∧
 ((((vI (IntKind.wrap .i64 (IntKind.wrap .i64 (n3 - n1) + 1))) = (vI (IntKind.wrap .i64 (IntKind.wrap .i64 (n3 - n1) + 1)))) ∧
 (((vI (IntKind.wrap .i64 (n3 - n1))) = (vI (IntKind.wrap .i64 (n3 - n1)))) ∧
 (((vI n1) = (vI n1)) ∧
 (((Go.Value.pointer (Option.some (Go.Addr.mk 1006 0 Option.none))) = (Go.Value.pointer (Option.some (Go.Addr.mk 1006 0 Option.none)))) ∧
 (((vI n3) = (vI n3)) ∧
 (((Go.Value.pointer (Option.some (Go.Addr.mk 1006 1 Option.none))) = (Go.Value.pointer (Option.some (Go.Addr.mk 1006 1 Option.none)))) ∧
 ((∃ n14 : Int,
 ((At (l11) (0 + Int.toNat (Int.tmod x7 (↑n2 : Int)) * 1) 1 [(vI n14)]) ∧
 ((vI n14) = (vI n13)))) ∧
 ((bcase (decide (0 ≤ Int.tmod x7 (↑n2 : Int)))
 (bcase (decide (Int.tmod x7 (↑n2 : Int) < (↑n2 : Int)))
 ((Go.Value.pointer (Option.some (Go.Addr.mk 502 (0 + Int.toNat (Int.tmod x7 (↑n2 : Int)) * 1) Option.none))) = (Go.Value.pointer (Option.some (Go.Addr.mk 502 (0 + Int.toNat (Int.tmod x7 (↑n2 : Int)) * 1) Option.none))))
 False)
 False) ∧
 ((bcase ((↑n2 : Int) != 0)
 ((vI (Int.tmod x7 (↑n2 : Int))) = (vI (Int.tmod x7 (↑n2 : Int))))
 False) ∧
 (((vI ((↑n2 : Int))) = (vI ((↑n2 : Int)))) ∧
 (((Go.Value.slice (Option.some (Go.Addr.mk 502 0 Option.none)) (n2) (c3)) = (Go.Value.slice (Option.some (Go.Addr.mk 502 0 Option.none)) (n2) (c3))) ∧
 (((vI x7) = (vI x7)) ∧
 (((Go.Value.slice (Option.some (Go.Addr.mk 502 0 Option.none)) (n2) (c3)) = (Go.Value.slice (Option.some (Go.Addr.mk 502 0 Option.none)) (n2) (c3))) ∧
 (((vI n1) = (vI n1)) ∧
 (((Go.Value.pointer (Option.some (Go.Addr.mk 1006 0 Option.none))) = (Go.Value.pointer (Option.some (Go.Addr.mk 1006 0 Option.none)))) ∧
 (((Go.Value.slice (Option.some (Go.Addr.mk 1005 0 Option.none)) (n17) (n17)) = (Go.Value.slice (Option.some (Go.Addr.mk 1005 0 Option.none)) (n17) (n17))) ∧
 (((Go.Value.pointer (Option.some (Go.Addr.mk 1003 1 Option.none))) = (Go.Value.pointer (Option.some (Go.Addr.mk 1003 1 Option.none)))) ∧
 True))))))))))))))))) ∧
 (∃ n14 : Int,
 ((Says C 25 [(D.val (vI n13)), (D.val (vI (IntKind.wrap .i64 (IntKind.wrap .i64 (n3 - n1) + 1))))] [(D.val (vI n14))]) ∧
 (((((Go.Value.slice (Option.some (Go.Addr.mk 1007 0 Option.none)) 1 1) = (Go.Value.slice (Option.some (Go.Addr.mk 1007 0 Option.none)) 1 1)) ∧
 ((Option.some (AObj.cells [(vI (IntKind.wrap .i64 (n1 + n14)))] 3 false 1)) = (Option.some (AObj.cells [(vI (IntKind.wrap .i64 (n1 + n14)))] 3 false 1)))) ∧
 (((vI (IntKind.wrap .i64 (n1 + n14))) = (vI (IntKind.wrap .i64 (n1 + n14)))) ∧
 (((vI (IntKind.wrap .i64 (n3 - n1))) = (vI (IntKind.wrap .i64 (n3 - n1)))) ∧
 (((vI n1) = (vI n1)) ∧
 (((Go.Value.pointer (Option.some (Go.Addr.mk 1006 0 Option.none))) = (Go.Value.pointer (Option.some (Go.Addr.mk 1006 0 Option.none)))) ∧
 (((vI n3) = (vI n3)) ∧
 (((Go.Value.pointer (Option.some (Go.Addr.mk 1006 1 Option.none))) = (Go.Value.pointer (Option.some (Go.Addr.mk 1006 1 Option.none)))) ∧
 ((bcase (decide (0 ≤ Int.tmod x7 (↑n2 : Int)))
 (bcase (decide (Int.tmod x7 (↑n2 : Int) < (↑n2 : Int)))
 ((Go.Value.pointer (Option.some (Go.Addr.mk 502 (0 + Int.toNat (Int.tmod x7 (↑n2 : Int)) * 1) Option.none))) = (Go.Value.pointer (Option.some (Go.Addr.mk 502 (0 + Int.toNat (Int.tmod x7 (↑n2 : Int)) * 1) Option.none))))
 False)
 False) ∧
 ((bcase ((↑n2 : Int) != 0)
 ((vI (Int.tmod x7 (↑n2 : Int))) = (vI (Int.tmod x7 (↑n2 : Int))))
 False) ∧
 (((vI ((↑n2 : Int))) = (vI ((↑n2 : Int)))) ∧
 (((Go.Value.slice (Option.some (Go.Addr.mk 502 0 Option.none)) (n2) (c3)) = (Go.Value.slice (Option.some (Go.Addr.mk 502 0 Option.none)) (n2) (c3))) ∧
 (((vI x7) = (vI x7)) ∧
 (((Go.Value.slice (Option.some (Go.Addr.mk 502 0 Option.none)) (n2) (c3)) = (Go.Value.slice (Option.some (Go.Addr.mk 502 0 Option.none)) (n2) (c3))) ∧
 (((vI n1) = (vI n1)) ∧
 (((Go.Value.pointer (Option.some (Go.Addr.mk 1006 0 Option.none))) = (Go.Value.pointer (Option.some (Go.Addr.mk 1006 0 Option.none)))) ∧
 (((Go.Value.slice (Option.some (Go.Addr.mk 1005 0 Option.none)) (n17) (n17)) = (Go.Value.slice (Option.some (Go.Addr.mk 1005 0 Option.none)) (n17) (n17))) ∧
 (((Go.Value.pointer (Option.some (Go.Addr.mk 1003 1 Option.none))) = (Go.Value.pointer (Option.some (Go.Addr.mk 1003 1 Option.none)))) ∧
 True))))))))))))))))) ∧
 (bcase (decide (n17 < n17 + 1))
 (bcase (decide ((2 * (n17 + 1) + 768) * 8 ≤ 281474976710656))
 (bcase (decide (n17 + 1 ≤ 1099511627776))
 (bcase (decide (0 + n17 * 1 ≤ List.length l20))
 (bcase (decide (0 + n17 * 1 = List.length l20))
 ((((Go.Value.pointer (Option.some (Go.Addr.mk 1003 1 Option.none))) = (Go.Value.pointer (Option.some (Go.Addr.mk 1003 1 Option.none)))) ∧
 (((vI (IntKind.wrap .i64 (n1 + n14))) = (vI (IntKind.wrap .i64 (n1 + n14)))) ∧
 (((vI (IntKind.wrap .i64 (n3 - n1))) = (vI (IntKind.wrap .i64 (n3 - n1)))) ∧
 (((vI n1) = (vI n1)) ∧
 (((Go.Value.pointer (Option.some (Go.Addr.mk 1006 0 Option.none))) = (Go.Value.pointer (Option.some (Go.Addr.mk 1006 0 Option.none)))) ∧
 (((vI n3) = (vI n3)) ∧
 (((Go.Value.pointer (Option.some (Go.Addr.mk 1006 1 Option.none))) = (Go.Value.pointer (Option.some (Go.Addr.mk 1006 1 Option.none)))) ∧
 ((bcase (decide (0 ≤ Int.tmod x7 (↑n2 : Int)))
 (bcase (decide (Int.tmod x7 (↑n2 : Int) < (↑n2 : Int)))
 ((Go.Value.pointer (Option.some (Go.Addr.mk 502 (0 + Int.toNat (Int.tmod x7 (↑n2 : Int)) * 1) Option.none))) = (Go.Value.pointer (Option.some (Go.Addr.mk 502 (0 + Int.toNat (Int.tmod x7 (↑n2 : Int)) * 1) Option.none))))
 False)
 False) ∧
 ((bcase ((↑n2 : Int) != 0)
 ((vI (Int.tmod x7 (↑n2 : Int))) = (vI (Int.tmod x7 (↑n2 : Int))))
 False) ∧
 (((vI ((↑n2 : Int))) = (vI ((↑n2 : Int)))) ∧
 (((Go.Value.slice (Option.some (Go.Addr.mk 502 0 Option.none)) (n2) (c3)) = (Go.Value.slice (Option.some (Go.Addr.mk 502 0 Option.none)) (n2) (c3))) ∧
 (((vI x7) = (vI x7)) ∧
 (((Go.Value.slice (Option.some (Go.Addr.mk 502 0 Option.none)) (n2) (c3)) = (Go.Value.slice (Option.some (Go.Addr.mk 502 0 Option.none)) (n2) (c3))) ∧
 (((vI n1) = (vI n1)) ∧
 (((Go.Value.pointer (Option.some (Go.Addr.mk 1006 0 Option.none))) = (Go.Value.pointer (Option.some (Go.Addr.mk 1006 0 Option.none)))) ∧
 (((Go.Value.pointer (Option.some (Go.Addr.mk 1003 1 Option.none))) = (Go.Value.pointer (Option.some (Go.Addr.mk 1003 1 Option.none)))) ∧
 True)))))))))))))))) ∧
 (True ∧
 (B [(Prod.mk 1 (Go.Value.slice (Option.some (Go.Addr.mk 501 0 Option.none)) (n0) (c1))), (Prod.mk 2 (Go.Value.slice (Option.some (Go.Addr.mk 502 0 Option.none)) (n2) (c3))), (Prod.mk 3 (Go.Value.pointer (Option.some (Go.Addr.mk 1000 0 Option.none)))), (Prod.mk 8 (Go.Value.slice (Option.some (Go.Addr.mk 1001 0 Option.none)) (n4) (n4))), (Prod.mk 10 (vI x5)), (Prod.mk 11 (Go.Value.slice (Option.some (Go.Addr.mk 1002 0 Option.none)) (n6) (n6))), (Prod.mk 12 (vI (IntKind.wrap .i64 (x7 + 1)))), (Prod.mk 13 (vI x8)), (Prod.mk 14 (Go.Value.pointer (Option.some (Go.Addr.mk 1003 0 Option.none)))), (Prod.mk 15 (vI (IntKind.wrap .i64 (x9 + 1))))] [(Prod.mk 501 (AObj.sym (l10) false 1)), (Prod.mk 502 (AObj.sym (l11) false 1)), (Prod.mk 1000 (AObj.cells [(Go.Value.slice (Option.some (Go.Addr.mk 500 0 Option.none)) (n12) (c13))] 24 false 1)), (Prod.mk 1001 (AObj.sym (l14) true 2)), (Prod.mk 1002 (AObj.sym (l15) true 1)), (Prod.mk 1003 (AObj.cells [(Go.Value.slice (Option.some (Go.Addr.mk 1004 0 Option.none)) (n16) (n16)), (Go.Value.slice (Option.some (Go.Addr.mk 1005 0 Option.none)) (n17 + 1) (n17 + 1))] 27 false 2)), (Prod.mk 500 (AObj.sym (l18) false 7)), (Prod.mk 1004 (AObj.sym (l19) true 1)), (Prod.mk 1005 (AObj.sym ((List.take (n17 * 1) (List.drop 0 l20)) ++ [(vI (IntKind.wrap .i64 (n1 + n14)))]) true 1))])))
 False)
 False)
 False)
 False)
 False)))))))
 False)
 False)
 False))) ∨
 ((Says C 26 [(D.val (vI n9)), (D.val (vI n10)), (D.val (vI n11))] [(D.val (Value.bool false))]) ∧
 ((((Value.bool true) = (Value.bool true)) ∧
 (((Value.bool true) = (Value.bool true)) ∧
 (((Go.Value.pointer (Option.some (Go.Addr.mk 500 (Go.Addr.off { block := 500, off := Go.Addr.off { block := 500, off := 0 + Int.toNat x9 * 7 } + 5 } + 1) Option.none))) = (Go.Value.pointer (Option.some (Go.Addr.mk 500 (Go.Addr.off (Go.Addr.add { block := 500, off := 0 + Int.toNat x9 * 7 } 5) + 1) Option.none)))) ∧
 (((Go.Value.pointer (Option.some (Go.Addr.mk 500 (Go.Addr.off { block := 500, off := 0 + Int.toNat x9 * 7 } + 5) Option.none))) = (Go.Value.pointer (Option.some (Go.Addr.mk 500 (Go.Addr.off { block := 500, off := 0 + Int.toNat x9 * 7 } + 5) Option.none)))) ∧
 ((bcase (decide (0 ≤ x9))
 (bcase (decide (x9 < (↑n12 : Int)))
 ((Go.Value.pointer (Option.some (Go.Addr.mk 500 (0 + Int.toNat x9 * 7) Option.none))) = (Go.Value.pointer (Option.some (Go.Addr.mk 500 (0 + Int.toNat x9 * 7) Option.none))))
 False)
 False) ∧
 (((vI x9) = (vI x9)) ∧
 (((Go.Value.slice (Option.some (Go.Addr.mk 500 0 Option.none)) (n12) (c13)) = (Go.Value.slice (Option.some (Go.Addr.mk 500 0 Option.none)) (n12) (c13))) ∧
 (((Go.Value.pointer (Option.some (Go.Addr.mk 1000 0 Option.none))) = (Go.Value.pointer (Option.some (Go.Addr.mk 1000 0 Option.none)))) ∧
 (((Go.Value.pointer (Option.some (Go.Addr.mk 500 (Go.Addr.off { block := 500, off := 0 + Int.toNat x9 * 7 } + 5) Option.none))) = (Go.Value.pointer (Option.some (Go.Addr.mk 500 (Go.Addr.off { block := 500, off := 0 + Int.toNat x9 * 7 } + 5) Option.none)))) ∧
 (((Go.Value.pointer (Option.some (Go.Addr.mk 500 (Go.Addr.off { block := 500, off := 0 + Int.toNat x9 * 7 } + 5) Option.none))) = (Go.Value.pointer (Option.some (Go.Addr.mk 500 (Go.Addr.off { block := 500, off := 0 + Int.toNat x9 * 7 } + 5) Option.none)))) ∧
 ((bcase (decide (0 ≤ x9))
 (bcase (decide (x9 < (↑n12 : Int)))
 ((Go.Value.pointer (Option.some (Go.Addr.mk 500 (0 + Int.toNat x9 * 7) Option.none))) = (Go.Value.pointer (Option.some (Go.Addr.mk 500 (0 + Int.toNat x9 * 7) Option.none))))
 False)
 False) ∧
 (((vI x9) = (vI x9)) ∧
 (((Go.Value.slice (Option.some (Go.Addr.mk 500 0 Option.none)) (n12) (c13)) = (Go.Value.slice (Option.some (Go.Addr.mk 500 0 Option.none)) (n12) (c13))) ∧
 (((Go.Value.pointer (Option.some (Go.Addr.mk 1000 0 Option.none))) = (Go.Value.pointer (Option.some (Go.Addr.mk 1000 0 Option.none)))) ∧
 ((bcase (decide (0 ≤ x9))
 (bcase (decide (x9 < (↑n6 : Int)))
 ((Go.Value.pointer (Option.some (Go.Addr.mk 1002 (0 + Int.toNat x9 * 1) Option.none))) = (Go.Value.pointer (Option.some (Go.Addr.mk 1002 (0 + Int.toNat x9 * 1) Option.none))))
 False)
 False) ∧
 (((vI x9) = (vI x9)) ∧
 (((Go.Value.slice (Option.some (Go.Addr.mk 1002 0 Option.none)) (n6) (n6)) = (Go.Value.slice (Option.some (Go.Addr.mk 1002 0 Option.none)) (n6) (n6))) ∧
 (((Value.bool false) = (Value.bool false)) ∧
 (((Go.Value.pointer (Option.some (Go.Addr.mk 1001 (Go.Addr.off { block := 1001, off := 0 + Int.toNat x9 * 2 } + 1) Option.none))) = (Go.Value.pointer (Option.some (Go.Addr.mk 1001 (Go.Addr.off { block := 1001, off := 0 + Int.toNat x9 * 2 } + 1) Option.none)))) ∧
 ((bcase (decide (0 ≤ x9))
 (bcase (decide (x9 < (↑n4 : Int)))
 ((Go.Value.pointer (Option.some (Go.Addr.mk 1001 (0 + Int.toNat x9 * 2) Option.none))) = (Go.Value.pointer (Option.some (Go.Addr.mk 1001 (0 + Int.toNat x9 * 2) Option.none))))
 False)
 False) ∧
 (((vI x9) = (vI x9)) ∧
 (((Go.Value.slice (Option.some (Go.Addr.mk 1001 0 Option.none)) (n4) (n4)) = (Go.Value.slice (Option.some (Go.Addr.mk 1001 0 Option.none)) (n4) (n4))) ∧
 (((Go.Value.pointer (Option.some (Go.Addr.mk 1001 (0 + Int.toNat x9 * 2) Option.none))) = (Go.Value.pointer (Option.some (Go.Addr.mk 1001 (0 + Int.toNat x9 * 2) Option.none)))) ∧
 ((bcase (decide (0 ≤ x9))
 (bcase (decide (x9 < (↑n4 : Int)))
 ((Go.Value.pointer (Option.some (Go.Addr.mk 1001 (0 + Int.toNat x9 * 2) Option.none))) = (Go.Value.pointer (Option.some (Go.Addr.mk 1001 (0 + Int.toNat x9 * 2) Option.none))))
 False)
 False) ∧
 (((vI x9) = (vI x9)) ∧
 (((Go.Value.slice (Option.some (Go.Addr.mk 1001 0 Option.none)) (n4) (n4)) = (Go.Value.slice (Option.some (Go.Addr.mk 1001 0 Option.none)) (n4) (n4))) ∧
 ((bcase (decide (0 ≤ x9))
 (bcase (decide (x9 < (↑n6 : Int)))
 ((Go.Value.pointer (Option.some (Go.Addr.mk 1002 (0 + Int.toNat x9 * 1) Option.none))) = (Go.Value.pointer (Option.some (Go.Addr.mk 1002 (0 + Int.toNat x9 * 1) Option.none))))
 False)
 False) ∧
 (((vI x9) = (vI x9)) ∧
 (((Go.Value.slice (Option.some (Go.Addr.mk 1002 0 Option.none)) (n6) (n6)) = (Go.Value.slice (Option.some (Go.Addr.mk 1002 0 Option.none)) (n6) (n6))) ∧
 True))))))))))))))))))))))))))))) ∧
 (k [(D.val (Value.bool false))])))))))
 False)
 False)))
 False)
 False)))
 False)
 False)) ∨
 ((Says C 26 [(D.val (vI n5)), (D.val (vI n7)), (D.val (vI n8))] [(D.val (Value.bool false))]) ∧
 ((((Go.Value.tuple [].toArray) = (Go.Value.tuple [].toArray)) ∧
 (((Go.Value.tuple [].toArray) = (Go.Value.tuple [].toArray)) ∧
 (((Go.Value.tuple [].toArray) = (Go.Value.tuple [].toArray)) ∧
 (((Go.Value.tuple [].toArray) = (Go.Value.tuple [].toArray)) ∧
 (((Go.Value.tuple [].toArray) = (Go.Value.tuple [].toArray)) ∧
 (((Go.Value.tuple [].toArray) = (Go.Value.tuple [].toArray)) ∧
 (((Go.Value.tuple [].toArray) = (Go.Value.tuple [].toArray)) ∧
 (((Go.Value.tuple [].toArray) = (Go.Value.tuple [].toArray)) ∧
 (((Go.Value.tuple [].toArray) = (Go.Value.tuple [].toArray)) ∧
 (((Go.Value.tuple [].toArray) = (Go.Value.tuple [].toArray)) ∧
 (((Go.Value.tuple [].toArray) = (Go.Value.tuple [].toArray)) ∧
 (((Go.Value.tuple [].toArray) = (Go.Value.tuple [].toArray)) ∧
 (((Go.Value.tuple [].toArray) = (Go.Value.tuple [].toArray)) ∧
 (((Go.Value.tuple [].toArray) = (Go.Value.tuple [].toArray)) ∧
 (((Go.Value.tuple [].toArray) = (Go.Value.tuple [].toArray)) ∧
 (((Go.Value.tuple [].toArray) = (Go.Value.tuple [].toArray)) ∧
 (((Go.Value.tuple [].toArray) = (Go.Value.tuple [].toArray)) ∧
 (((Go.Value.tuple [].toArray) = (Go.Value.tuple [].toArray)) ∧
 (((Value.bool true) = (Value.bool true)) ∧
 (((Value.bool true) = (Value.bool true)) ∧
 (((Go.Value.pointer (Option.some (Go.Addr.mk 1001 (Go.Addr.off { block := 1001, off := 0 + Int.toNat x9 * 2 } + 1) Option.none))) = (Go.Value.pointer (Option.some (Go.Addr.mk 1001 (Go.Addr.off { block := 1001, off := 0 + Int.toNat x9 * 2 } + 1) Option.none)))) ∧
 ((bcase (decide (0 ≤ x9))
 (bcase (decide (x9 < (↑n4 : Int)))
 ((Go.Value.pointer (Option.some (Go.Addr.mk 1001 (0 + Int.toNat x9 * 2) Option.none))) = (Go.Value.pointer (Option.some (Go.Addr.mk 1001 (0 + Int.toNat x9 * 2) Option.none))))
 False)
 False) ∧
 (((vI x9) = (vI x9)) ∧
 (((Go.Value.slice (Option.some (Go.Addr.mk 1001 0 Option.none)) (n4) (n4)) = (Go.Value.slice (Option.some (Go.Addr.mk 1001 0 Option.none)) (n4) (n4))) ∧
 (((Go.Value.pointer (Option.some (Go.Addr.mk 1001 (0 + Int.toNat x9 * 2) Option.none))) = (Go.Value.pointer (Option.some (Go.Addr.mk 1001 (0 + Int.toNat x9 * 2) Option.none)))) ∧
 ((bcase (decide (0 ≤ x9))
 (bcase (decide (x9 < (↑n4 : Int)))
 ((Go.Value.pointer (Option.some (Go.Addr.mk 1001 (0 + Int.toNat x9 * 2) Option.none))) = (Go.Value.pointer (Option.some (Go.Addr.mk 1001 (0 + Int.toNat x9 * 2) Option.none))))
 False)
 False) ∧
 (((vI x9) = (vI x9)) ∧
 (((Go.Value.slice (Option.some (Go.Addr.mk 1001 0 Option.none)) (n4) (n4)) = (Go.Value.slice (Option.some (Go.Addr.mk 1001 0 Option.none)) (n4) (n4))) ∧
 ((bcase (decide (0 ≤ x9))
 (bcase (decide (x9 < (↑n6 : Int)))
 ((Go.Value.pointer (Option.some (Go.Addr.mk 1002 (0 + Int.toNat x9 * 1) Option.none))) = (Go.Value.pointer (Option.some (Go.Addr.mk 1002 (0 + Int.toNat x9 * 1) Option.none))))
 False)
 False) ∧
 (((vI x9) = (vI x9)) ∧
 (((Go.Value.slice (Option.some (Go.Addr.mk 1002 0 Option.none)) (n6) (n6)) = (Go.Value.slice (Option.some (Go.Addr.mk 1002 0 Option.none)) (n6) (n6))) ∧
 True))))))))))))))))))))))))))))))) ∧
 ((((Value.bool true) = (Value.bool true)) ∧
 (((Go.Value.tuple [].toArray) = (Go.Value.tuple [].toArray)) ∧
 (((Go.Value.tuple [].toArray) = (Go.Value.tuple [].toArray)) ∧
 (((Go.Value.tuple [].toArray) = (Go.Value.tuple [].toArray)) ∧
 (((Go.Value.tuple [].toArray) = (Go.Value.tuple [].toArray)) ∧
 (((Go.Value.tuple [].toArray) = (Go.Value.tuple [].toArray)) ∧
 (((Go.Value.tuple [].toArray) = (Go.Value.tuple [].toArray)) ∧
 (((Go.Value.tuple [].toArray) = (Go.Value.tuple [].toArray)) ∧
 (((Go.Value.tuple [].toArray) = (Go.Value.tuple [].toArray)) ∧
 (((Go.Value.tuple [].toArray) = (Go.Value.tuple [].toArray)) ∧
 (((Go.Value.tuple [].toArray) = (Go.Value.tuple [].toArray)) ∧
 (((Go.Value.tuple [].toArray) = (Go.Value.tuple [].toArray)) ∧
 (((Go.Value.tuple [].toArray) = (Go.Value.tuple [].toArray)) ∧
 (((Go.Value.tuple [].toArray) = (Go.Value.tuple [].toArray)) ∧
 (((Go.Value.tuple [].toArray) = (Go.Value.tuple [].toArray)) ∧
 (((Go.Value.tuple [].toArray) = (Go.Value.tuple [].toArray)) ∧
 (((Go.Value.tuple [].toArray) = (Go.Value.tuple [].toArray)) ∧
 (((Value.bool true) = (Value.bool true)) ∧
 (((Go.Value.pointer (Option.some (Go.Addr.mk 1001 (Go.Addr.off { block := 1001, off := 0 + Int.toNat x9 * 2 } + 1) Option.none))) = (Go.Value.pointer (Option.some (Go.Addr.mk 1001 (Go.Addr.off { block := 1001, off := 0 + Int.toNat x9 * 2 } + 1) Option.none)))) ∧
 ((bcase (decide (0 ≤ x9))
 (bcase (decide (x9 < (↑n4 : Int)))
 ((Go.Value.pointer (Option.some (Go.Addr.mk 1001 (0 + Int.toNat x9 * 2) Option.none))) = (Go.Value.pointer (Option.some (Go.Addr.mk 1001 (0 + Int.toNat x9 * 2) Option.none))))
 False)
 False) ∧
 (((vI x9) = (vI x9)) ∧
 (((Go.Value.slice (Option.some (Go.Addr.mk 1001 0 Option.none)) (n4) (n4)) = (Go.Value.slice (Option.some (Go.Addr.mk 1001 0 Option.none)) (n4) (n4))) ∧
 (((Go.Value.pointer (Option.some (Go.Addr.mk 1001 (0 + Int.toNat x9 * 2) Option.none))) = (Go.Value.pointer (Option.some (Go.Addr.mk 1001 (0 + Int.toNat x9 * 2) Option.none)))) ∧
 ((bcase (decide (0 ≤ x9))
 (bcase (decide (x9 < (↑n4 : Int)))
 ((Go.Value.pointer (Option.some (Go.Addr.mk 1001 (0 + Int.toNat x9 * 2) Option.none))) = (Go.Value.pointer (Option.some (Go.Addr.mk 1001 (0 + Int.toNat x9 * 2) Option.none))))
 False)
 False) ∧
 (((vI x9) = (vI x9)) ∧
 (((Go.Value.slice (Option.some (Go.Addr.mk 1001 0 Option.none)) (n4) (n4)) = (Go.Value.slice (Option.some (Go.Addr.mk 1001 0 Option.none)) (n4) (n4))) ∧
 ((bcase (decide (0 ≤ x9))
 (bcase (decide (x9 < (↑n6 : Int)))
 ((Go.Value.pointer (Option.some (Go.Addr.mk 1002 (0 + Int.toNat x9 * 1) Option.none))) = (Go.Value.pointer (Option.some (Go.Addr.mk 1002 (0 + Int.toNat x9 * 1) Option.none))))
 False)
 False) ∧
 (((vI x9) = (vI x9)) ∧
 (((Go.Value.slice (Option.some (Go.Addr.mk 1002 0 Option.none)) (n6) (n6)) = (Go.Value.slice (Option.some (Go.Addr.mk 1002 0 Option.none)) (n6) (n6))) ∧
 True))))))))))))))))))))))))))))) ∧
 (k [(D.val (Value.bool false))]))))))))
 False)
 False)))
 False)
 False)))
 False)
 False))))
 False)
 False)
 (X 4 [(Prod.mk 1 (Go.Value.slice (Option.some (Go.Addr.mk 501 0 Option.none)) (n0) (c1))), (Prod.mk 2 (Go.Value.slice (Option.some (Go.Addr.mk 502 0 Option.none)) (n2) (c3))), (Prod.mk 3 (Go.Value.pointer (Option.some (Go.Addr.mk 1000 0 Option.none)))), (Prod.mk 8 (Go.Value.slice (Option.some (Go.Addr.mk 1001 0 Option.none)) (n4) (n4))), (Prod.mk 10 (vI x5)), (Prod.mk 12 (vI x7)), (Prod.mk 13 (vI x8)), (Prod.mk 14 (Go.Value.pointer (Option.some (Go.Addr.mk 1002 0 Option.none))))] [(Prod.mk 501 (AObj.sym (l10) false 1)), (Prod.mk 502 (AObj.sym (l11) false 1)), (Prod.mk 1000 (AObj.cells [(Go.Value.slice (Option.some (Go.Addr.mk 500 0 Option.none)) (n12) (c13))] 24 false 1)), (Prod.mk 1001 (AObj.sym (l14) true 2)), (Prod.mk 1002 (AObj.cells [(Go.Value.slice (Option.some (Go.Addr.mk 1003 0 Option.none)) (n16) (n16)), (Go.Value.slice (Option.some (Go.Addr.mk 1004 0 Option.none)) (n17) (n17))] 27 false 2)), (Prod.mk 500 (AObj.sym (l18) false 7)), (Prod.mk 1003 (AObj.sym (l19) true 1)), (Prod.mk 1004 (AObj.sym (l20) true 1))])) := by kernel_rfl
def iHd15 (C : Ct) (L : AtLoop) (n0 : Nat) (c1 : Nat) (n2 : Nat) (c3 : Nat) (n4 : Nat) (x5 : Int) (x6 : Int) (x7 : Int) (l8 : List Value) (l9 : List Value) (n10 : Nat) (c11 : Nat) (l12 : List Value) (n13 : Nat) (n14 : Nat) (l15 : List Value) (l16 : List Value) (l17 : List Value) (B : Bx) (X : Xx) (k : List D → Prop) : Prop := jIn Try.prog (hL C) L [] 6 2 4 .normal [(1, (Value.slice (some ⟨501, 0, none⟩) n0 c1)), (2, (Value.slice (some ⟨502, 0, none⟩) n2 c3)), (3, (Value.pointer (some ⟨1000, 0, none⟩))), (8, (Value.slice (some ⟨1001, 0, none⟩) n4 n4)), (10, (Value.int .i64 x5)), (12, (Value.int .i64 x6)), (13, (Value.int .i64 x7)), (14, (Value.pointer (some ⟨1002, 0, none⟩)))] [(501, (AObj.sym l8 false 1)), (502, (AObj.sym l9 false 1)), (1000, (AObj.cells [(Value.slice (some ⟨500, 0, none⟩) n10 c11)] 24 false 1)), (1001, (AObj.sym l12 true 2)), (1002, (AObj.cells [(Value.slice (some ⟨1003, 0, none⟩) n13 n13), (Value.slice (some ⟨1004, 0, none⟩) n14 n14)] 27 false 2)), (500, (AObj.sym l15 false 7)), (1003, (AObj.sym l16 true 1)), (1004, (AObj.sym l17 true 1))] B X (dataK k)
theorem iHd15_text (C : Ct) (L : AtLoop) (n0 : Nat) (c1 : Nat) (n2 : Nat) (c3 : Nat) (n4 : Nat) (x5 : Int) (x6 : Int) (x7 : Int) (l8 : List Go.Value) (l9 : List Go.Value) (n10 : Nat) (c11 : Nat) (l12 : List Go.Value) (n13 : Nat) (n14 : Nat) (l15 : List Go.Value) (l16 : List Go.Value) (l17 : List Go.Value) (B : Bx) (X : Xx) (k : List D → Prop) : iHd15 C L n0 c1 n2 c3 n4 x5 x6 x7 l8 l9 n10 c11 l12 n13 n14 l15 l16 l17 B X k =
 ((((Go.Value.agg [(Go.Value.slice (Option.some (Go.Addr.mk 1003 0 Option.none)) (n13) (n13)), (Go.Value.slice (Option.some (Go.Addr.mk 1004 0 Option.none)) (n14) (n14))].toArray) = (Go.Value.agg [(Go.Value.slice (Option.some (Go.Addr.mk 1003 0 Option.none)) (n13) (n13)), (Go.Value.slice (Option.some (Go.Addr.mk 1004 0 Option.none)) (n14) (n14))].toArray)) ∧
 (((Go.Value.agg [(Go.Value.slice (Option.some (Go.Addr.mk 500 0 Option.none)) (n10) (c11))].toArray) = (Go.Value.agg [(Go.Value.slice (Option.some (Go.Addr.mk 500 0 Option.none)) (n10) (c11))].toArray)) ∧
 True)) ∧
 (bcase (decide (0 + n10 * 7 ≤ List.length l15))
 ((Says C 10 [(D.agg [(D.sl (n10) 7 (List.take (n10 * 7) (List.drop 0 l15)))])] [(D.agg [(D.sl (n10) 7 (List.take (n10 * 7) (List.drop 0 l15)))])]) ∧
 ((((Go.Value.agg [(Go.Value.slice (Option.some (Go.Addr.mk 1003 0 Option.none)) (n13) (n13)), (Go.Value.slice (Option.some (Go.Addr.mk 1004 0 Option.none)) (n14) (n14))].toArray) = (Go.Value.agg [(Go.Value.slice (Option.some (Go.Addr.mk 1003 0 Option.none)) (n13) (n13)), (Go.Value.slice (Option.some (Go.Addr.mk 1004 0 Option.none)) (n14) (n14))].toArray)) ∧
 True) ∧
 (bcase (decide (0 + n10 * 7 ≤ List.length (List.take (n10 * 7) (List.drop 0 l15))))
 (bcase (decide (0 + n13 * 1 ≤ List.length l16))
 (bcase (decide (0 + n14 * 1 ≤ List.length l17))
 ((∃ n1 : Int,
 ((Says C 11 [(D.agg [(D.sl (n10) 7 (List.take (n10 * 7) (List.drop 0 (List.take (n10 * 7) (List.drop 0 l15)))))]), (D.agg [(D.sl (n13) 1 (List.take (n13 * 1) (List.drop 0 l16))), (D.sl (n14) 1 (List.take (n14 * 1) (List.drop 0 l17)))])] [D.nil, (D.val (vI n1))]) ∧
 ((((vI n1) = (vI n1)) ∧
 (((Go.Value.slice Option.none 0 0) = (Go.Value.slice Option.none 0 0)) ∧
 (((Go.Value.tuple [(Go.Value.slice Option.none 0 0), (vI n1)].toArray) = (Go.Value.tuple [(Go.Value.slice Option.none 0 0), (vI n1)].toArray)) ∧
 True))) ∧
 ((((vI n1) = (vI n1)) ∧
 True) ∧
 (True ∧
 (bcase (n1 != 0)
 (k [(D.val (Value.bool false))])
 (bcase ((↑0 : Int) != x5)
 (k [(D.val (Value.bool false))])
 ((Says C 20 [D.nil] [(D.sl 0 1 [])]) ∧
 (B [(Prod.mk 1 (Go.Value.slice (Option.some (Go.Addr.mk 501 0 Option.none)) (n0) (c1))), (Prod.mk 2 (Go.Value.slice (Option.some (Go.Addr.mk 502 0 Option.none)) (n2) (c3))), (Prod.mk 3 (Go.Value.pointer (Option.some (Go.Addr.mk 1000 0 Option.none)))), (Prod.mk 8 (Go.Value.slice (Option.some (Go.Addr.mk 1001 0 Option.none)) (n4) (n4))), (Prod.mk 10 (vI x5)), (Prod.mk 11 (Go.Value.slice (Option.some (Go.Addr.mk 1002 0 Option.none)) 0 0)), (Prod.mk 12 (vI x6)), (Prod.mk 13 (vI (IntKind.wrap .i64 (x7 + 1))))] [(Prod.mk 501 (AObj.sym (l8) false 1)), (Prod.mk 502 (AObj.sym (l9) false 1)), (Prod.mk 1000 (AObj.cells [(Go.Value.slice (Option.some (Go.Addr.mk 500 0 Option.none)) (n10) (c11))] 24 false 1)), (Prod.mk 1001 (AObj.sym (l12) true 2)), (Prod.mk 1002 (AObj.sym [] true 1)), (Prod.mk 500 (AObj.sym (l15) false 7))]))))))))) ∨
 (∃ n1 : Nat,
 (∃ cs1 : List Go.Value,
 (∃ n3 : Int,
 ((Says C 11 [(D.agg [(D.sl (n10) 7 (List.take (n10 * 7) (List.drop 0 (List.take (n10 * 7) (List.drop 0 l15)))))]), (D.agg [(D.sl (n13) 1 (List.take (n13 * 1) (List.drop 0 l16))), (D.sl (n14) 1 (List.take (n14 * 1) (List.drop 0 l17)))])] [(D.sl (n1) 1 (cs1)), (D.val (vI n3))]) ∧
 ((((vI n3) = (vI n3)) ∧
 (((Go.Value.slice (Option.some (Go.Addr.mk 1006 0 Option.none)) (n1) (n1)) = (Go.Value.slice (Option.some (Go.Addr.mk 1006 0 Option.none)) (n1) (n1))) ∧
 (((Go.Value.tuple [(Go.Value.slice (Option.some (Go.Addr.mk 1006 0 Option.none)) (n1) (n1)), (vI n3)].toArray) = (Go.Value.tuple [(Go.Value.slice (Option.some (Go.Addr.mk 1006 0 Option.none)) (n1) (n1)), (vI n3)].toArray)) ∧
 True))) ∧
 ((((vI n3) = (vI n3)) ∧
 True) ∧
 (True ∧
 (bcase (n3 != 0)
 (k [(D.val (Value.bool false))])
 (bcase ((↑n1 : Int) != x5)
 (k [(D.val (Value.bool false))])
 (bcase (decide (0 + n1 * 1 ≤ List.length cs1))
 ((Says C 20 [(D.sl (n1) 1 (List.take (n1 * 1) (List.drop 0 cs1)))] [(D.sl (n1) 1 (List.take (n1 * 1) (List.drop 0 cs1)))]) ∧
 (B [(Prod.mk 1 (Go.Value.slice (Option.some (Go.Addr.mk 501 0 Option.none)) (n0) (c1))), (Prod.mk 2 (Go.Value.slice (Option.some (Go.Addr.mk 502 0 Option.none)) (n2) (c3))), (Prod.mk 3 (Go.Value.pointer (Option.some (Go.Addr.mk 1000 0 Option.none)))), (Prod.mk 8 (Go.Value.slice (Option.some (Go.Addr.mk 1001 0 Option.none)) (n4) (n4))), (Prod.mk 10 (vI x5)), (Prod.mk 11 (Go.Value.slice (Option.some (Go.Addr.mk 1002 0 Option.none)) (n1) (n1))), (Prod.mk 12 (vI x6)), (Prod.mk 13 (vI (IntKind.wrap .i64 (x7 + 1))))] [(Prod.mk 501 (AObj.sym (l8) false 1)), (Prod.mk 502 (AObj.sym (l9) false 1)), (Prod.mk 1000 (AObj.cells [(Go.Value.slice (Option.some (Go.Addr.mk 500 0 Option.none)) (n10) (c11))] 24 false 1)), (Prod.mk 1001 (AObj.sym (l12) true 2)), (Prod.mk 1002 (AObj.sym (List.take (n1 * 1) (List.drop 0 cs1)) true 1)), (Prod.mk 500 (AObj.sym (l15) false 7))]))
 False)))))))))))
 False)
 False)
 False)))
 False)) := by kernel_rfl
def nHd8 (C : Ct) (L : AtLoop) (n0 : Nat) (c1 : Nat) (n2 : Nat) (x3 : Int) (l4 : List Value) (n5 : Nat) (c6 : Nat) (l7 : List Value) (l8 : List Value) (k : List D → Prop) : Prop := jNext Try.prog (hL C) L [] 6 2 .normal [(1, (Value.slice (some ⟨501, 0, none⟩) n0 c1)), (3, (Value.pointer (some ⟨1000, 0, none⟩))), (8, (Value.slice (some ⟨1001, 0, none⟩) n2 n2)), (10, (Value.int .i64 x3))] [(501, (AObj.sym l4 false 1)), (1000, (AObj.cells [(Value.slice (some ⟨500, 0, none⟩) n5 c6)] 24 false 1)), (1001, (AObj.sym l7 true 2)), (500, (AObj.sym l8 false 7))] (dataK k)
theorem nHd8_text (C : Ct) (L : AtLoop) (n0 : Nat) (c1 : Nat) (n2 : Nat) (x3 : Int) (l4 : List Go.Value) (n5 : Nat) (c6 : Nat) (l7 : List Go.Value) (l8 : List Go.Value) (k : List D → Prop) : nHd8 C L n0 c1 n2 x3 l4 n5 c6 l7 l8 k =
 (bcase (decide (0 + n5 * 7 ≤ List.length l8))
 ((Says C 10 [(D.agg [(D.sl (n5) 7 (List.take (n5 * 7) (List.drop 0 l8)))])] [(D.agg [(D.sl (n5) 7 (List.take (n5 * 7) (List.drop 0 l8)))])]) ∧
 (L 6 [(Prod.mk 1 (Go.Value.slice (Option.some (Go.Addr.mk 501 0 Option.none)) (n0) (c1))), (Prod.mk 8 (Go.Value.slice (Option.some (Go.Addr.mk 1000 0 Option.none)) (n2) (n2))), (Prod.mk 10 (vI x3)), (Prod.mk 19 (Go.Value.pointer (Option.some (Go.Addr.mk 1001 0 Option.none)))), (Prod.mk 20 (vI (0 : Int)))] [(Prod.mk 501 (AObj.sym (l4) false 1)), (Prod.mk 1000 (AObj.sym (l7) true 2)), (Prod.mk 1001 (AObj.cells [(Go.Value.slice (Option.some (Go.Addr.mk 1002 0 Option.none)) (n5) (n5))] 24 false 1)), (Prod.mk 1002 (AObj.sym (List.take (n5 * 7) (List.drop 0 l8)) true 7))]))
 False) := by kernel_rfl
abbrev zHd13 (n0 : Nat) (c1 : Nat) (n2 : Nat) (x3 : Int) (x4 : Int) (l5 : List Value) (l6 : List Value) (n7 : Nat) (l8 : List Value) : Slots × Blocks := ([(1, (Value.slice (some ⟨501, 0, none⟩) n0 c1)), (8, (Value.slice (some ⟨1000, 0, none⟩) n2 n2)), (10, (Value.int .i64 x3)), (19, (Value.pointer (some ⟨1001, 0, none⟩))), (20, (Value.int .i64 x4))], [(501, (AObj.sym l5 false 1)), (1000, (AObj.sym l6 true 2)), (1001, (AObj.cells [(Value.slice (some ⟨1002, 0, none⟩) n7 n7)] 24 false 1)), (1002, (AObj.sym l8 true 7))])
def rHd13 (C : Ct) (L : AtLoop) (n0 : Nat) (c1 : Nat) (n2 : Nat) (x3 : Int) (x4 : Int) (l5 : List Value) (l6 : List Value) (n7 : Nat) (l8 : List Value) (B : Bx) (X : Xx) (k : List D → Prop) : Prop := jRound Try.prog (hL C) L [] 6 6 [(1, (Value.slice (some ⟨501, 0, none⟩) n0 c1)), (8, (Value.slice (some ⟨1000, 0, none⟩) n2 n2)), (10, (Value.int .i64 x3)), (19, (Value.pointer (some ⟨1001, 0, none⟩))), (20, (Value.int .i64 x4))] [(501, (AObj.sym l5 false 1)), (1000, (AObj.sym l6 true 2)), (1001, (AObj.cells [(Value.slice (some ⟨1002, 0, none⟩) n7 n7)] 24 false 1)), (1002, (AObj.sym l8 true 7))] B X (dataK k)
theorem rHd13_text (C : Ct) (L : AtLoop) (n0 : Nat) (c1 : Nat) (n2 : Nat) (x3 : Int) (x4 : Int) (l5 : List Go.Value) (l6 : List Go.Value) (n7 : Nat) (l8 : List Go.Value) (B : Bx) (X : Xx) (k : List D → Prop) : rHd13 C L n0 c1 n2 x3 x4 l5 l6 n7 l8 B X k =
 (bcase (decide (x4 < x3))
 (bcase (decide (0 ≤ x4))
 (bcase (decide (x4 < (↑n7 : Int)))
 (bcase (decide (Go.Addr.off { block := 1002, off := 0 + Int.toNat x4 * 7 } + 5 + Array.size (Go.Value.cells (AAct.eval (AAct.put { tmps := Tree.node (Option.some (Go.Value.chan (Option.some 0))) (Tree.node (Option.some (Go.Value.slice (Option.some { block := 501, off := 0 }) n0 c1)) (Tree.node (Option.some (Go.Value.chan (Option.some 0))) (Tree.node (Option.some (Go.Value.chan (Option.some 0))) (Tree.node (Option.some (Go.Value.chan (Option.some 0))) (Tree.node (Option.some (Go.Value.chan (Option.some 0))) (Tree.node (Option.some (Go.Value.chan (Option.some 0))) (Tree.node (Option.some (Go.Value.chan (Option.some 0))) Tree.leaf Tree.leaf) (Tree.node (Option.some (Go.Value.chan (Option.some 0))) Tree.leaf Tree.leaf)) (Tree.node (Option.some (Go.Value.chan (Option.some 0))) (Tree.node (Option.some (Go.Value.chan (Option.some 0))) Tree.leaf Tree.leaf) (Tree.node (Option.some (Go.Value.chan (Option.some 0))) Tree.leaf Tree.leaf))) (Tree.node (Option.some (Go.Value.chan (Option.some 0))) (Tree.node (Option.some (Go.Value.chan (Option.some 0))) (Tree.node (Option.some (Go.Value.chan (Option.some 0))) Tree.leaf Tree.leaf) (Tree.node (Option.some (Go.Value.chan (Option.some 0))) Tree.leaf Tree.leaf)) (Tree.node (Option.some (Go.Value.chan (Option.some 0))) (Tree.node (Option.some (Go.Value.chan (Option.some 0))) Tree.leaf Tree.leaf) Tree.leaf))) (Tree.node (Option.some (Go.Value.chan (Option.some 0))) (Tree.node (Option.some (Go.Value.chan (Option.some 0))) (Tree.node (Option.some (Go.Value.chan (Option.some 0))) (Tree.node (Option.some (Go.Value.chan (Option.some 0))) Tree.leaf Tree.leaf) (Tree.node (Option.some (Go.Value.chan (Option.some 0))) Tree.leaf Tree.leaf)) (Tree.node (Option.some (Go.Value.chan (Option.some 0))) (Tree.node (Option.some (Go.Value.chan (Option.some 0))) Tree.leaf Tree.leaf) Tree.leaf)) (Tree.node (Option.some (Go.Value.chan (Option.some 0))) (Tree.node (Option.some (Go.Value.chan (Option.some 0))) (Tree.node (Option.some (Go.Value.chan (Option.some 0))) Tree.leaf Tree.leaf) (Tree.node (Option.some (Go.Value.chan (Option.some 0))) Tree.leaf Tree.leaf)) (Tree.node (Option.some (Go.Value.chan (Option.some 0))) (Tree.node (Option.some (Go.Value.chan (Option.some 0))) Tree.leaf Tree.leaf) Tree.leaf)))) (Tree.node (Option.some (Go.Value.chan (Option.some 0))) (Tree.node (Option.some (Go.Value.pointer (Option.some { block := 1001, off := 0 }))) (Tree.node (Option.some (Go.Value.chan (Option.some 0))) (Tree.node (Option.some (Go.Value.chan (Option.some 0))) (Tree.node (Option.some (Go.Value.chan (Option.some 0))) Tree.leaf Tree.leaf) (Tree.node (Option.some (Go.Value.chan (Option.some 0))) Tree.leaf Tree.leaf)) (Tree.node (Option.some (Go.Value.chan (Option.some 0))) (Tree.node (Option.some (Go.Value.chan (Option.some 0))) Tree.leaf Tree.leaf) (Tree.node (Option.some (Go.Value.chan (Option.some 0))) Tree.leaf Tree.leaf))) (Tree.node (Option.some (Go.Value.chan (Option.some 0))) (Tree.node (Option.some (Go.Value.chan (Option.some 0))) (Tree.node (Option.some (Go.Value.chan (Option.some 0))) Tree.leaf Tree.leaf) (Tree.node (Option.some (Go.Value.agg { toList := [vI (-1000), vI 1000] })) Tree.leaf Tree.leaf)) (Tree.node (Option.some (Go.Value.chan (Option.some 0))) (Tree.node (Option.some (Go.Value.chan (Option.some 0))) Tree.leaf Tree.leaf) Tree.leaf))) (Tree.node (Option.some (Go.Value.chan (Option.some 0))) (Tree.node (Option.some (Go.Value.chan (Option.some 0))) (Tree.node (Option.some (Go.Value.chan (Option.some 0))) (Tree.node (Option.some (Go.Value.chan (Option.some 0))) Tree.leaf Tree.leaf) (Tree.node (Option.some (vI x4)) Tree.leaf Tree.leaf)) (Tree.node (Option.some (Go.Value.chan (Option.some 0))) (Tree.node (Option.some (Go.Value.chan (Option.some 0))) Tree.leaf Tree.leaf) Tree.leaf)) (Tree.node (Option.some (Go.Value.chan (Option.some 0))) (Tree.node (Option.some (Go.Value.chan (Option.some 0))) (Tree.node (Option.some (Go.Value.chan (Option.some 0))) Tree.leaf Tree.leaf) (Tree.node (Option.some (Go.Value.chan (Option.some 0))) Tree.leaf Tree.leaf)) (Tree.node (Option.some (Go.Value.chan (Option.some 0))) (Tree.node (Option.some (Go.Value.chan (Option.some 0))) Tree.leaf Tree.leaf) Tree.leaf))))) (Tree.node (Option.some (Go.Value.chan (Option.some 0))) (Tree.node (Option.some (Go.Value.chan (Option.some 0))) (Tree.node (Option.some (Go.Value.chan (Option.some 0))) (Tree.node (Option.some (Go.Value.chan (Option.some 0))) (Tree.node (Option.some (Go.Value.chan (Option.some 0))) (Tree.node (Option.some (Go.Value.chan (Option.some 0))) Tree.leaf Tree.leaf) (Tree.node (Option.some (Go.Value.chan (Option.some 0))) Tree.leaf Tree.leaf)) (Tree.node (Option.some (Go.Value.chan (Option.some 0))) (Tree.node (Option.some (Go.Value.chan (Option.some 0))) Tree.leaf Tree.leaf) (Tree.node (Option.some (Go.Value.chan (Option.some 0))) Tree.leaf Tree.leaf))) (Tree.node (Option.some (Go.Value.chan (Option.some 0))) (Tree.node (Option.some (Go.Value.chan (Option.some 0))) (Tree.node (Option.some (Go.Value.chan (Option.some 0))) Tree.leaf Tree.leaf) (Tree.node (Option.some (Go.Value.slice (Option.some { block := 1002, off := 0 }) n7 n7)) Tree.leaf Tree.leaf)) (Tree.node (Option.some (Go.Value.chan (Option.some 0))) (Tree.node (Option.some (Go.Value.chan (Option.some 0))) Tree.leaf Tree.leaf) Tree.leaf))) (Tree.node (Option.some (Go.Value.chan (Option.some 0))) (Tree.node (Option.some (Go.Value.chan (Option.some 0))) (Tree.node (Option.some (Go.Value.chan (Option.some 0))) (Tree.node (Option.some (Go.Value.chan (Option.some 0))) Tree.leaf Tree.leaf) (Tree.node (Option.some (Go.Value.chan (Option.some 0))) Tree.leaf Tree.leaf)) (Tree.node (Option.some (Go.Value.chan (Option.some 0))) (Tree.node (Option.some (Go.Value.chan (Option.some 0))) Tree.leaf Tree.leaf) Tree.leaf)) (Tree.node (Option.some (Go.Value.chan (Option.some 0))) (Tree.node (Option.some (Go.Value.chan (Option.some 0))) (Tree.node (Option.some (Go.Value.chan (Option.some 0))) Tree.leaf Tree.leaf) (Tree.node (Option.some (Go.Value.chan (Option.some 0))) Tree.leaf Tree.leaf)) (Tree.node (Option.some (Go.Value.chan (Option.some 0))) (Tree.node (Option.some (Go.Value.chan (Option.some 0))) Tree.leaf Tree.leaf) Tree.leaf)))) (Tree.node (Option.some (Go.Value.chan (Option.some 0))) (Tree.node (Option.some (Go.Value.chan (Option.some 0))) (Tree.node (Option.some (Go.Value.chan (Option.some 0))) (Tree.node (Option.some (Go.Value.chan (Option.some 0))) (Tree.node (Option.some (Go.Value.chan (Option.some 0))) Tree.leaf Tree.leaf) (Tree.node (Option.some (Go.Value.chan (Option.some 0))) Tree.leaf Tree.leaf)) (Tree.node (Option.some (Go.Value.chan (Option.some 0))) (Tree.node (Option.some (Go.Value.chan (Option.some 0))) Tree.leaf Tree.leaf) Tree.leaf)) (Tree.node (Option.some (Go.Value.chan (Option.some 0))) (Tree.node (Option.some (Go.Value.chan (Option.some 0))) (Tree.node (Option.some (Go.Value.chan (Option.some 0))) Tree.leaf Tree.leaf) (Tree.node (Option.some (Go.Value.chan (Option.some 0))) Tree.leaf Tree.leaf)) (Tree.node (Option.some (Go.Value.chan (Option.some 0))) (Tree.node (Option.some (Go.Value.chan (Option.some 0))) Tree.leaf Tree.leaf) Tree.leaf))) (Tree.node (Option.some (Go.Value.chan (Option.some 0))) (Tree.node (Option.some (Go.Value.chan (Option.some 0))) (Tree.node (Option.some (Go.Value.chan (Option.some 0))) (Tree.node (Option.some (Go.Value.chan (Option.some 0))) Tree.leaf Tree.leaf) (Tree.node (Option.some (Go.Value.bool Bool.true)) Tree.leaf Tree.leaf)) (Tree.node (Option.some (Go.Value.chan (Option.some 0))) (Tree.node (Option.some (Go.Value.chan (Option.some 0))) Tree.leaf Tree.leaf) Tree.leaf)) (Tree.node (Option.some (Go.Value.chan (Option.some 0))) (Tree.node (Option.some (Go.Value.chan (Option.some 0))) (Tree.node (Option.some (Go.Value.chan (Option.some 0))) Tree.leaf Tree.leaf) (Tree.node (Option.some (Go.Value.chan (Option.some 0))) Tree.leaf Tree.leaf)) (Tree.node (Option.some (Go.Value.chan (Option.some 0))) (Tree.node (Option.some (Go.Value.chan (Option.some 0))) Tree.leaf Tree.leaf) Tree.leaf)))))) (Tree.node (Option.some (Go.Value.chan (Option.some 0))) (Tree.node (Option.some (Go.Value.chan (Option.some 0))) (Tree.node (Option.some (Go.Value.slice (Option.some { block := 1000, off := 0 }) n2 n2)) (Tree.node (Option.some (Go.Value.chan (Option.some 0))) (Tree.node (Option.some (Go.Value.chan (Option.some 0))) (Tree.node (Option.some (Go.Value.chan (Option.some 0))) (Tree.node (Option.some (Go.Value.chan (Option.some 0))) Tree.leaf Tree.leaf) (Tree.node (Option.some (Go.Value.chan (Option.some 0))) Tree.leaf Tree.leaf)) (Tree.node (Option.some (Go.Value.chan (Option.some 0))) (Tree.node (Option.some (Go.Value.chan (Option.some 0))) Tree.leaf Tree.leaf) (Tree.node (Option.some (Go.Value.chan (Option.some 0))) Tree.leaf Tree.leaf))) (Tree.node (Option.some (Go.Value.chan (Option.some 0))) (Tree.node (Option.some (Go.Value.chan (Option.some 0))) (Tree.node (Option.some (Go.Value.chan (Option.some 0))) Tree.leaf Tree.leaf) (Tree.node (Option.some (Go.Value.pointer (Option.some { block := 1001, off := 0 }))) Tree.leaf Tree.leaf)) (Tree.node (Option.some (Go.Value.chan (Option.some 0))) (Tree.node (Option.some (Go.Value.chan (Option.some 0))) Tree.leaf Tree.leaf) Tree.leaf))) (Tree.node (Option.some (Go.Value.chan (Option.some 0))) (Tree.node (Option.some (Go.Value.chan (Option.some 0))) (Tree.node (Option.some (Go.Value.chan (Option.some 0))) (Tree.node (Option.some (Go.Value.chan (Option.some 0))) Tree.leaf Tree.leaf) (Tree.node (Option.some (Go.Value.chan (Option.some 0))) Tree.leaf Tree.leaf)) (Tree.node (Option.some (Go.Value.chan (Option.some 0))) (Tree.node (Option.some (Go.Value.chan (Option.some 0))) Tree.leaf Tree.leaf) Tree.leaf)) (Tree.node (Option.some (Go.Value.chan (Option.some 0))) (Tree.node (Option.some (Go.Value.chan (Option.some 0))) (Tree.node (Option.some (Go.Value.chan (Option.some 0))) Tree.leaf Tree.leaf) (Tree.node (Option.some (Go.Value.chan (Option.some 0))) Tree.leaf Tree.leaf)) (Tree.node (Option.some (Go.Value.chan (Option.some 0))) (Tree.node (Option.some (Go.Value.chan (Option.some 0))) Tree.leaf Tree.leaf) Tree.leaf)))) (Tree.node (Option.some (Go.Value.chan (Option.some 0))) (Tree.node (Option.some (vI x4)) (Tree.node (Option.some (Go.Value.chan (Option.some 0))) (Tree.node (Option.some (Go.Value.chan (Option.some 0))) (Tree.node (Option.some (Go.Value.chan (Option.some 0))) Tree.leaf Tree.leaf) (Tree.node (Option.some (Go.Value.chan (Option.some 0))) Tree.leaf Tree.leaf)) (Tree.node (Option.some (Go.Value.chan (Option.some 0))) (Tree.node (Option.some (Go.Value.chan (Option.some 0))) Tree.leaf Tree.leaf) Tree.leaf)) (Tree.node (Option.some (Go.Value.chan (Option.some 0))) (Tree.node (Option.some (Go.Value.chan (Option.some 0))) (Tree.node (Option.some (Go.Value.chan (Option.some 0))) Tree.leaf Tree.leaf) (Tree.node (Option.some (Go.Value.pointer (Option.some { block := 1002, off := 0 + Int.toNat x4 * 7 }))) Tree.leaf Tree.leaf)) (Tree.node (Option.some (Go.Value.chan (Option.some 0))) (Tree.node (Option.some (Go.Value.chan (Option.some 0))) Tree.leaf Tree.leaf) Tree.leaf))) (Tree.node (Option.some (Go.Value.chan (Option.some 0))) (Tree.node (Option.some (Go.Value.chan (Option.some 0))) (Tree.node (Option.some (Go.Value.chan (Option.some 0))) (Tree.node (Option.some (Go.Value.chan (Option.some 0))) Tree.leaf Tree.leaf) (Tree.node (Option.some (vI x3)) Tree.leaf Tree.leaf)) (Tree.node (Option.some (Go.Value.chan (Option.some 0))) (Tree.node (Option.some (Go.Value.chan (Option.some 0))) Tree.leaf Tree.leaf) Tree.leaf)) (Tree.node (Option.some (Go.Value.chan (Option.some 0))) (Tree.node (Option.some (Go.Value.chan (Option.some 0))) (Tree.node (Option.some (Go.Value.chan (Option.some 0))) Tree.leaf Tree.leaf) (Tree.node (Option.some (Go.Value.chan (Option.some 0))) Tree.leaf Tree.leaf)) (Tree.node (Option.some (Go.Value.chan (Option.some 0))) (Tree.node (Option.some (Go.Value.chan (Option.some 0))) Tree.leaf Tree.leaf) Tree.leaf))))) (Tree.node (Option.some (Go.Value.chan (Option.some 0))) (Tree.node (Option.some (vI x3)) (Tree.node (Option.some (Go.Value.chan (Option.some 0))) (Tree.node (Option.some (Go.Value.chan (Option.some 0))) (Tree.node (Option.some (Go.Value.chan (Option.some 0))) (Tree.node (Option.some (Go.Value.chan (Option.some 0))) Tree.leaf Tree.leaf) (Tree.node (Option.some (Go.Value.chan (Option.some 0))) Tree.leaf Tree.leaf)) (Tree.node (Option.some (Go.Value.chan (Option.some 0))) (Tree.node (Option.some (Go.Value.chan (Option.some 0))) Tree.leaf Tree.leaf) (Tree.node (Option.some (Go.Value.chan (Option.some 0))) Tree.leaf Tree.leaf))) (Tree.node (Option.some (Go.Value.chan (Option.some 0))) (Tree.node (Option.some (Go.Value.chan (Option.some 0))) (Tree.node (Option.some (Go.Value.chan (Option.some 0))) Tree.leaf Tree.leaf) (Tree.node (Option.some (vI x4)) Tree.leaf Tree.leaf)) (Tree.node (Option.some (Go.Value.chan (Option.some 0))) (Tree.node (Option.some (Go.Value.chan (Option.some 0))) Tree.leaf Tree.leaf) Tree.leaf))) (Tree.node (Option.some (Go.Value.chan (Option.some 0))) (Tree.node (Option.some (Go.Value.chan (Option.some 0))) (Tree.node (Option.some (Go.Value.chan (Option.some 0))) (Tree.node (Option.some (Go.Value.chan (Option.some 0))) Tree.leaf Tree.leaf) (Tree.node (Option.some (Go.Value.chan (Option.some 0))) Tree.leaf Tree.leaf)) (Tree.node (Option.some (Go.Value.chan (Option.some 0))) (Tree.node (Option.some (Go.Value.chan (Option.some 0))) Tree.leaf Tree.leaf) Tree.leaf)) (Tree.node (Option.some (Go.Value.chan (Option.some 0))) (Tree.node (Option.some (Go.Value.chan (Option.some 0))) (Tree.node (Option.some (Go.Value.chan (Option.some 0))) Tree.leaf Tree.leaf) (Tree.node (Option.some (Go.Value.chan (Option.some 0))) Tree.leaf Tree.leaf)) (Tree.node (Option.some (Go.Value.chan (Option.some 0))) (Tree.node (Option.some (Go.Value.chan (Option.some 0))) Tree.leaf Tree.leaf) Tree.leaf)))) (Tree.node (Option.some (Go.Value.chan (Option.some 0))) (Tree.node (Option.some (Go.Value.chan (Option.some 0))) (Tree.node (Option.some (Go.Value.chan (Option.some 0))) (Tree.node (Option.some (Go.Value.chan (Option.some 0))) (Tree.node (Option.some (Go.Value.chan (Option.some 0))) Tree.leaf Tree.leaf) (Tree.node (Option.some (Go.Value.chan (Option.some 0))) Tree.leaf Tree.leaf)) (Tree.node (Option.some (Go.Value.chan (Option.some 0))) (Tree.node (Option.some (Go.Value.chan (Option.some 0))) Tree.leaf Tree.leaf) Tree.leaf)) (Tree.node (Option.some (Go.Value.chan (Option.some 0))) (Tree.node (Option.some (Go.Value.chan (Option.some 0))) (Tree.node (Option.some (Go.Value.chan (Option.some 0))) Tree.leaf Tree.leaf) (Tree.node (Option.some (Go.Value.chan (Option.some 0))) Tree.leaf Tree.leaf)) (Tree.node (Option.some (Go.Value.chan (Option.some 0))) (Tree.node (Option.some (Go.Value.chan (Option.some 0))) Tree.leaf Tree.leaf) Tree.leaf))) (Tree.node (Option.some (Go.Value.chan (Option.some 0))) (Tree.node (Option.some (Go.Value.chan (Option.some 0))) (Tree.node (Option.some (Go.Value.chan (Option.some 0))) (Tree.node (Option.some (Go.Value.chan (Option.some 0))) Tree.leaf Tree.leaf) (Tree.node (Option.some (Go.Value.chan (Option.some 0))) Tree.leaf Tree.leaf)) (Tree.node (Option.some (Go.Value.chan (Option.some 0))) (Tree.node (Option.some (Go.Value.chan (Option.some 0))) Tree.leaf Tree.leaf) Tree.leaf)) (Tree.node (Option.some (Go.Value.chan (Option.some 0))) (Tree.node (Option.some (Go.Value.chan (Option.some 0))) (Tree.node (Option.some (Go.Value.chan (Option.some 0))) Tree.leaf Tree.leaf) (Tree.node (Option.some (Go.Value.chan (Option.some 0))) Tree.leaf Tree.leaf)) (Tree.node (Option.some (Go.Value.chan (Option.some 0))) (Tree.node (Option.some (Go.Value.chan (Option.some 0))) Tree.leaf Tree.leaf) Tree.leaf)))))), size := 228, defers := [] } (Go.Oper.dst #[{ dst := Option.some 208, op := Go.Op.fieldAddr 24 (Go.Operand.tmp 19) 0, type := 0, pos := "top05.go:191", after := #[], guard := Option.none }, { dst := Option.some 209, op := Go.Op.load 22 (Go.Operand.tmp 208), type := 22, pos := "top05.go:191", after := #[{ on := 0, ground := Go.Ground.data }], guard := Option.none }, { dst := Option.some 210, op := Go.Op.move (Go.Operand.tmp 20), type := 3, pos := "top05.go:191", after := #[], guard := Option.none }, { dst := Option.some 211, op := Go.Op.build 56 #[(0, Go.Operand.const (vI (-1000))), (1, Go.Operand.const (vI 1000))], type := 56, pos := "top05.go:191", after := #[], guard := Option.none }, { dst := Option.some 212, op := Go.Op.indexAddr 22 (Go.Operand.tmp 209) (Go.Operand.tmp 210), type := 0, pos := "top05.go:191", after := #[{ on := 1, ground := Go.Ground.data }, { on := 2, ground := Go.Ground.data }, { on := 0, ground := Go.Ground.phase }, { on := 1, ground := Go.Ground.phase }, { on := 2, ground := Go.Ground.phase }, { on := 3, ground := Go.Ground.phase }], guard := Option.none }, { dst := Option.some 213, op := Go.Op.fieldAddr 58 (Go.Operand.tmp 212) 4, type := 0, pos := "top05.go:191", after := #[{ on := 4, ground := Go.Ground.data }, { on := 0, ground := Go.Ground.phase }, { on := 1, ground := Go.Ground.phase }, { on := 2, ground := Go.Ground.phase }, { on := 3, ground := Go.Ground.phase }], guard := Option.none }, { dst := Option.none, op := Go.Op.store 56 (Go.Operand.tmp 213) (Go.Operand.tmp 211), type := 0, pos := "top05.go:191", after := #[{ on := 5, ground := Go.Ground.data }, { on := 3, ground := Go.Ground.data }, { on := 0, ground := Go.Ground.phase }, { on := 1, ground := Go.Ground.phase }, { on := 2, ground := Go.Ground.phase }, { on := 3, ground := Go.Ground.phase }], guard := Option.none }][5]) (Go.Value.pointer (Option.some (Go.Addr.add { block := 1002, off := 0 + Int.toNat x4 * 7 } 5)))) (Prod.snd (Prod.snd (storeOf #[{ dst := Option.some 208, op := Go.Op.fieldAddr 24 (Go.Operand.tmp 19) 0, type := 0, pos := "top05.go:191", after := #[], guard := Option.none }, { dst := Option.some 209, op := Go.Op.load 22 (Go.Operand.tmp 208), type := 22, pos := "top05.go:191", after := #[{ on := 0, ground := Go.Ground.data }], guard := Option.none }, { dst := Option.some 210, op := Go.Op.move (Go.Operand.tmp 20), type := 3, pos := "top05.go:191", after := #[], guard := Option.none }, { dst := Option.some 211, op := Go.Op.build 56 #[(0, Go.Operand.const (vI (-1000))), (1, Go.Operand.const (vI 1000))], type := 56, pos := "top05.go:191", after := #[], guard := Option.none }, { dst := Option.some 212, op := Go.Op.indexAddr 22 (Go.Operand.tmp 209) (Go.Operand.tmp 210), type := 0, pos := "top05.go:191", after := #[{ on := 1, ground := Go.Ground.data }, { on := 2, ground := Go.Ground.data }, { on := 0, ground := Go.Ground.phase }, { on := 1, ground := Go.Ground.phase }, { on := 2, ground := Go.Ground.phase }, { on := 3, ground := Go.Ground.phase }], guard := Option.none }, { dst := Option.some 213, op := Go.Op.fieldAddr 58 (Go.Operand.tmp 212) 4, type := 0, pos := "top05.go:191", after := #[{ on := 4, ground := Go.Ground.data }, { on := 0, ground := Go.Ground.phase }, { on := 1, ground := Go.Ground.phase }, { on := 2, ground := Go.Ground.phase }, { on := 3, ground := Go.Ground.phase }], guard := Option.none }, { dst := Option.none, op := Go.Op.store 56 (Go.Operand.tmp 213) (Go.Operand.tmp 211), type := 0, pos := "top05.go:191", after := #[{ on := 5, ground := Go.Ground.data }, { on := 3, ground := Go.Ground.data }, { on := 0, ground := Go.Ground.phase }, { on := 1, ground := Go.Ground.phase }, { on := 2, ground := Go.Ground.phase }, { on := 3, ground := Go.Ground.phase }], guard := Option.none }][6]))))) ≤ List.length l8))
 (B [(Prod.mk 1 (Go.Value.slice (Option.some (Go.Addr.mk 501 0 Option.none)) (n0) (c1))), (Prod.mk 8 (Go.Value.slice (Option.some (Go.Addr.mk 1000 0 Option.none)) (n2) (n2))), (Prod.mk 10 (vI x3)), (Prod.mk 19 (Go.Value.pointer (Option.some (Go.Addr.mk 1001 0 Option.none)))), (Prod.mk 20 (vI (IntKind.wrap .i64 (x4 + 1))))] [(Prod.mk 501 (AObj.sym (l5) false 1)), (Prod.mk 1000 (AObj.sym (l6) true 2)), (Prod.mk 1001 (AObj.cells [(Go.Value.slice (Option.some (Go.Addr.mk 1002 0 Option.none)) (n7) (n7))] 24 false 1)), (Prod.mk 1002 (AObj.sym (listSet (l8) (Go.Addr.off { block := 1002, off := 0 + Int.toNat x4 * 7 } + 5) [(vI (-(999 + 1) : Int)), (vI (1000 : Int))]) true 7))])
 False)
 False)
 False)
 (X 6 [(Prod.mk 1 (Go.Value.slice (Option.some (Go.Addr.mk 501 0 Option.none)) (n0) (c1))), (Prod.mk 8 (Go.Value.slice (Option.some (Go.Addr.mk 1000 0 Option.none)) (n2) (n2))), (Prod.mk 19 (Go.Value.pointer (Option.some (Go.Addr.mk 1001 0 Option.none))))] [(Prod.mk 501 (AObj.sym (l5) false 1)), (Prod.mk 1000 (AObj.sym (l6) true 2)), (Prod.mk 1001 (AObj.cells [(Go.Value.slice (Option.some (Go.Addr.mk 1002 0 Option.none)) (n7) (n7))] 24 false 1)), (Prod.mk 1002 (AObj.sym (l8) true 7))])) := by kernel_rfl
def nHd16 (C : Ct) (L : AtLoop) (n0 : Nat) (c1 : Nat) (n2 : Nat) (l3 : List Value) (l4 : List Value) (n5 : Nat) (l6 : List Value) (k : List D → Prop) : Prop := jNext Try.prog (hL C) L [] 6 6 .normal [(1, (Value.slice (some ⟨501, 0, none⟩) n0 c1)), (8, (Value.slice (some ⟨1000, 0, none⟩) n2 n2)), (19, (Value.pointer (some ⟨1001, 0, none⟩)))] [(501, (AObj.sym l3 false 1)), (1000, (AObj.sym l4 true 2)), (1001, (AObj.cells [(Value.slice (some ⟨1002, 0, none⟩) n5 n5)] 24 false 1)), (1002, (AObj.sym l6 true 7))] (dataK k)
theorem nHd16_text (C : Ct) (L : AtLoop) (n0 : Nat) (c1 : Nat) (n2 : Nat) (l3 : List Go.Value) (l4 : List Go.Value) (n5 : Nat) (l6 : List Go.Value) (k : List D → Prop) : nHd16 C L n0 c1 n2 l3 l4 n5 l6 k =
 ((((Go.Value.slice (Option.some (Go.Addr.mk 501 0 Option.none)) (n0) (c1)) = (Go.Value.slice (Option.some (Go.Addr.mk 501 0 Option.none)) (n0) (c1))) ∧
 (((Go.Value.agg [(Go.Value.slice (Option.some (Go.Addr.mk 1002 0 Option.none)) (n5) (n5))].toArray) = (Go.Value.agg [(Go.Value.slice (Option.some (Go.Addr.mk 1002 0 Option.none)) (n5) (n5))].toArray)) ∧
 True)) ∧
 (bcase (decide (0 + n0 * 1 ≤ List.length l3))
 ((Says C 20 [(D.sl (n0) 1 (List.take (n0 * 1) (List.drop 0 l3)))] [(D.sl (n0) 1 (List.take (n0 * 1) (List.drop 0 l3)))]) ∧
 ((((Go.Value.agg [(Go.Value.slice (Option.some (Go.Addr.mk 1002 0 Option.none)) (n5) (n5))].toArray) = (Go.Value.agg [(Go.Value.slice (Option.some (Go.Addr.mk 1002 0 Option.none)) (n5) (n5))].toArray)) ∧
 True) ∧
 (bcase (decide (0 + n5 * 7 ≤ List.length l6))
 (bcase (decide (0 + n0 * 1 ≤ List.length (List.take (n0 * 1) (List.drop 0 l3))))
 ((∃ n1 : Int,
 ((Says C 19 [(D.agg [(D.sl (n5) 7 (List.take (n5 * 7) (List.drop 0 l6)))]), (D.sl (n0) 1 (List.take (n0 * 1) (List.drop 0 (List.take (n0 * 1) (List.drop 0 l3)))))] [D.nil, (D.val (vI n1))]) ∧
 ((((vI n1) = (vI n1)) ∧
 (((Go.Value.slice Option.none 0 0) = (Go.Value.slice Option.none 0 0)) ∧
 (((Go.Value.tuple [(Go.Value.slice Option.none 0 0), (vI n1)].toArray) = (Go.Value.tuple [(Go.Value.slice Option.none 0 0), (vI n1)].toArray)) ∧
 True))) ∧
 ((((vI n1) = (vI n1)) ∧
 True) ∧
 (True ∧
 (bcase (n1 == 0)
 (bcase (decide (0 + n2 * 2 ≤ List.length l4))
 (((Says C 24 [D.nil, (D.sl (n2) 2 (List.take (n2 * 2) (List.drop 0 l4)))] [(D.val (Value.bool true))]) ∧
 (k [(D.val (Value.bool true))])) ∨
 ((Says C 24 [D.nil, (D.sl (n2) 2 (List.take (n2 * 2) (List.drop 0 l4)))] [(D.val (Value.bool false))]) ∧
 (k [(D.val (Value.bool false))])))
 False)
 (k [(D.val (Value.bool false))]))))))) ∨
 (∃ n1 : Nat,
 (∃ cs1 : List Go.Value,
 (∃ n3 : Int,
 ((Says C 19 [(D.agg [(D.sl (n5) 7 (List.take (n5 * 7) (List.drop 0 l6)))]), (D.sl (n0) 1 (List.take (n0 * 1) (List.drop 0 (List.take (n0 * 1) (List.drop 0 l3)))))] [(D.sl (n1) 2 (cs1)), (D.val (vI n3))]) ∧
 ((((vI n3) = (vI n3)) ∧
 (((Go.Value.slice (Option.some (Go.Addr.mk 1004 0 Option.none)) (n1) (n1)) = (Go.Value.slice (Option.some (Go.Addr.mk 1004 0 Option.none)) (n1) (n1))) ∧
 (((Go.Value.tuple [(Go.Value.slice (Option.some (Go.Addr.mk 1004 0 Option.none)) (n1) (n1)), (vI n3)].toArray) = (Go.Value.tuple [(Go.Value.slice (Option.some (Go.Addr.mk 1004 0 Option.none)) (n1) (n1)), (vI n3)].toArray)) ∧
 True))) ∧
 ((((vI n3) = (vI n3)) ∧
 True) ∧
 (True ∧
 (bcase (n3 == 0)
 (bcase (decide (0 + n1 * 2 ≤ List.length cs1))
 (bcase (decide (0 + n2 * 2 ≤ List.length l4))
 (((Says C 24 [(D.sl (n1) 2 (List.take (n1 * 2) (List.drop 0 cs1))), (D.sl (n2) 2 (List.take (n2 * 2) (List.drop 0 l4)))] [(D.val (Value.bool true))]) ∧
 (k [(D.val (Value.bool true))])) ∨
 ((Says C 24 [(D.sl (n1) 2 (List.take (n1 * 2) (List.drop 0 cs1))), (D.sl (n2) 2 (List.take (n2 * 2) (List.drop 0 l4)))] [(D.val (Value.bool false))]) ∧
 (k [(D.val (Value.bool false))])))
 False)
 False)
 (k [(D.val (Value.bool false))]))))))))))
 False)
 False)))
 False)) := by kernel_rfl
def gMd2 (C : Ct) (L : AtLoop) (x0 : Int) (x1 : Int) (k : List D → Prop) : Prop := wpFn Try.prog (hE C) L 0 25 #[.int .i64 x0, .int .i64 x1] (heapOf []) (dataK k)
theorem gMd2_text (C : Ct) (L : AtLoop) (x0 : Int) (x1 : Int) (k : List D → Prop) : gMd2 C L x0 x1 k =
 (bcase (x1 != 0)
 (bcase (decide (Int.tmod x0 x1 < 0))
 (k [(D.val (vI (IntKind.wrap .i64 (Int.tmod x0 x1 + x1))))])
 (k [(D.val (vI (Int.tmod x0 x1)))]))
 False) := by kernel_rfl
def gHdssn (C : Ct) (L : AtLoop) (n0 : Nat) (c0 : Nat) (l0 : List Value) (n1 : Nat) (c1 : Nat) (l1 : List Value) (k : List D → Prop) : Prop := jFn Try.prog (hL C) L [] 6 #[.agg #[.slice (some ⟨500, 0, none⟩) n0 c0], .slice (some ⟨501, 0, none⟩) n1 c1, .slice none 0 0] (heapOf [(500, .sym l0 false 7), (501, .sym l1 false 1)]) (dataK k)
theorem gHdssn_text (C : Ct) (L : AtLoop) (n0 : Nat) (c0 : Nat) (l0 : List Go.Value) (n1 : Nat) (c1 : Nat) (l1 : List Go.Value) (k : List D → Prop) : gHdssn C L n0 c0 l0 n1 c1 l1 k =
 (((Says C 27 [] [(D.val (Value.bool true))]) ∧
 (bcase (decide ((↑n0 : Int) > 4))
 (k [(D.val (Value.bool true))])
 (bcase (decide (0 + n0 * 7 ≤ List.length l0))
 (∃ n2 : Int,
 ((Says C 21 [(D.agg [(D.sl (n0) 7 (List.take (n0 * 7) (List.drop 0 l0)))])] [(D.val (vI n2))]) ∧
 (bcase (n2 != 0)
 (k [(D.val (Value.bool true))])
 (bcase ((↑n1 : Int) != (↑n0 : Int))
 (k [(D.val (Value.bool true))])
 (k [(D.val (Value.bool true))])))))
 False))) ∨
 ((Says C 27 [] [(D.val (Value.bool false))]) ∧
 (k [(D.val (Value.bool false))]))) := by kernel_rfl
def gHdsns (C : Ct) (L : AtLoop) (n0 : Nat) (c0 : Nat) (l0 : List Value) (n2 : Nat) (c2 : Nat) (l2 : List Value) (k : List D → Prop) : Prop := jFn Try.prog (hL C) L [] 6 #[.agg #[.slice (some ⟨500, 0, none⟩) n0 c0], .slice none 0 0, .slice (some ⟨501, 0, none⟩) n2 c2] (heapOf [(500, .sym l0 false 7), (501, .sym l2 false 1)]) (dataK k)
theorem gHdsns_text (C : Ct) (L : AtLoop) (n0 : Nat) (c0 : Nat) (l0 : List Go.Value) (n2 : Nat) (c2 : Nat) (l2 : List Go.Value) (k : List D → Prop) : gHdsns C L n0 c0 l0 n2 c2 l2 k =
 (((Says C 27 [] [(D.val (Value.bool true))]) ∧
 (bcase (decide ((↑n0 : Int) > 4))
 (k [(D.val (Value.bool true))])
 (bcase (decide (0 + n0 * 7 ≤ List.length l0))
 (∃ n1 : Int,
 ((Says C 21 [(D.agg [(D.sl (n0) 7 (List.take (n0 * 7) (List.drop 0 l0)))])] [(D.val (vI n1))]) ∧
 (bcase (n1 != 0)
 (k [(D.val (Value.bool true))])
 (bcase ((↑0 : Int) != (↑n0 : Int))
 (k [(D.val (Value.bool true))])
 (bcase ((↑n2 : Int) == 0)
 (k [(D.val (Value.bool true))])
 (bcase (decide ((↑n2 : Int) > 60))
 (k [(D.val (Value.bool true))])
 (L 0 [(Prod.mk 1 (Go.Value.slice Option.none 0 0)), (Prod.mk 2 (Go.Value.slice (Option.some (Go.Addr.mk 501 0 Option.none)) (n2) (c2))), (Prod.mk 3 (Go.Value.pointer (Option.some (Go.Addr.mk 1000 0 Option.none)))), (Prod.mk 7 (vI (0 : Int)))] [(Prod.mk 501 (AObj.sym (l2) false 1)), (Prod.mk 1000 (AObj.cells [(Go.Value.slice (Option.some (Go.Addr.mk 500 0 Option.none)) (n0) (c0))] 24 false 1)), (Prod.mk 500 (AObj.sym (l0) false 7))])))))))
 False))) ∨
 ((Says C 27 [] [(D.val (Value.bool false))]) ∧
 (k [(D.val (Value.bool false))]))) := by kernel_rfl
def gHdsnn (C : Ct) (L : AtLoop) (n0 : Nat) (c0 : Nat) (l0 : List Value) (k : List D → Prop) : Prop := jFn Try.prog (hL C) L [] 6 #[.agg #[.slice (some ⟨500, 0, none⟩) n0 c0], .slice none 0 0, .slice none 0 0] (heapOf [(500, .sym l0 false 7)]) (dataK k)
theorem gHdsnn_text (C : Ct) (L : AtLoop) (n0 : Nat) (c0 : Nat) (l0 : List Go.Value) (k : List D → Prop) : gHdsnn C L n0 c0 l0 k =
 (((Says C 27 [] [(D.val (Value.bool true))]) ∧
 (bcase (decide ((↑n0 : Int) > 4))
 (k [(D.val (Value.bool true))])
 (bcase (decide (0 + n0 * 7 ≤ List.length l0))
 (∃ n1 : Int,
 ((Says C 21 [(D.agg [(D.sl (n0) 7 (List.take (n0 * 7) (List.drop 0 l0)))])] [(D.val (vI n1))]) ∧
 (bcase (n1 != 0)
 (k [(D.val (Value.bool true))])
 (bcase ((↑0 : Int) != (↑n0 : Int))
 (k [(D.val (Value.bool true))])
 (k [(D.val (Value.bool true))])))))
 False))) ∨
 ((Says C 27 [] [(D.val (Value.bool false))]) ∧
 (k [(D.val (Value.bool false))]))) := by kernel_rfl
def gHdnss (C : Ct) (L : AtLoop) (n1 : Nat) (c1 : Nat) (l1 : List Value) (n2 : Nat) (c2 : Nat) (l2 : List Value) (k : List D → Prop) : Prop := jFn Try.prog (hL C) L [] 6 #[.agg #[.slice none 0 0], .slice (some ⟨500, 0, none⟩) n1 c1, .slice (some ⟨501, 0, none⟩) n2 c2] (heapOf [(500, .sym l1 false 1), (501, .sym l2 false 1)]) (dataK k)
theorem gHdnss_text (C : Ct) (L : AtLoop) (n1 : Nat) (c1 : Nat) (l1 : List Go.Value) (n2 : Nat) (c2 : Nat) (l2 : List Go.Value) (k : List D → Prop) : gHdnss C L n1 c1 l1 n2 c2 l2 k =
 (((Says C 27 [] [(D.val (Value.bool true))]) ∧
 (∃ n3 : Int,
 ((Says C 21 [(D.agg [D.nil])] [(D.val (vI n3))]) ∧
 (bcase (n3 != 0)
 (k [(D.val (Value.bool true))])
 (bcase ((↑n1 : Int) != (↑0 : Int))
 (k [(D.val (Value.bool true))])
 (bcase ((↑n2 : Int) == 0)
 (k [(D.val (Value.bool true))])
 (bcase (decide ((↑n2 : Int) > 60))
 (k [(D.val (Value.bool true))])
 (L 0 [(Prod.mk 1 (Go.Value.slice (Option.some (Go.Addr.mk 500 0 Option.none)) (n1) (c1))), (Prod.mk 2 (Go.Value.slice (Option.some (Go.Addr.mk 501 0 Option.none)) (n2) (c2))), (Prod.mk 3 (Go.Value.pointer (Option.some (Go.Addr.mk 1000 0 Option.none)))), (Prod.mk 7 (vI (0 : Int)))] [(Prod.mk 500 (AObj.sym (l1) false 1)), (Prod.mk 501 (AObj.sym (l2) false 1)), (Prod.mk 1000 (AObj.cells [(Go.Value.slice Option.none 0 0)] 24 false 1))])))))))) ∨
 ((Says C 27 [] [(D.val (Value.bool false))]) ∧
 (k [(D.val (Value.bool false))]))) := by kernel_rfl
def gHdnsn (C : Ct) (L : AtLoop) (n1 : Nat) (c1 : Nat) (l1 : List Value) (k : List D → Prop) : Prop := jFn Try.prog (hL C) L [] 6 #[.agg #[.slice none 0 0], .slice (some ⟨500, 0, none⟩) n1 c1, .slice none 0 0] (heapOf [(500, .sym l1 false 1)]) (dataK k)
theorem gHdnsn_text (C : Ct) (L : AtLoop) (n1 : Nat) (c1 : Nat) (l1 : List Go.Value) (k : List D → Prop) : gHdnsn C L n1 c1 l1 k =
 (((Says C 27 [] [(D.val (Value.bool true))]) ∧
 (∃ n2 : Int,
 ((Says C 21 [(D.agg [D.nil])] [(D.val (vI n2))]) ∧
 (bcase (n2 != 0)
 (k [(D.val (Value.bool true))])
 (bcase ((↑n1 : Int) != (↑0 : Int))
 (k [(D.val (Value.bool true))])
 (k [(D.val (Value.bool true))])))))) ∨
 ((Says C 27 [] [(D.val (Value.bool false))]) ∧
 (k [(D.val (Value.bool false))]))) := by kernel_rfl
def gHdnns (C : Ct) (L : AtLoop) (n2 : Nat) (c2 : Nat) (l2 : List Value) (k : List D → Prop) : Prop := jFn Try.prog (hL C) L [] 6 #[.agg #[.slice none 0 0], .slice none 0 0, .slice (some ⟨500, 0, none⟩) n2 c2] (heapOf [(500, .sym l2 false 1)]) (dataK k)
theorem gHdnns_text (C : Ct) (L : AtLoop) (n2 : Nat) (c2 : Nat) (l2 : List Go.Value) (k : List D → Prop) : gHdnns C L n2 c2 l2 k =
 (((Says C 27 [] [(D.val (Value.bool true))]) ∧
 (∃ n1 : Int,
 ((Says C 21 [(D.agg [D.nil])] [(D.val (vI n1))]) ∧
 (bcase (n1 != 0)
 (k [(D.val (Value.bool true))])
 (bcase ((↑n2 : Int) == 0)
 (k [(D.val (Value.bool true))])
 (bcase (decide ((↑n2 : Int) > 60))
 (k [(D.val (Value.bool true))])
 (L 0 [(Prod.mk 1 (Go.Value.slice Option.none 0 0)), (Prod.mk 2 (Go.Value.slice (Option.some (Go.Addr.mk 500 0 Option.none)) (n2) (c2))), (Prod.mk 3 (Go.Value.pointer (Option.some (Go.Addr.mk 1000 0 Option.none)))), (Prod.mk 7 (vI (0 : Int)))] [(Prod.mk 500 (AObj.sym (l2) false 1)), (Prod.mk 1000 (AObj.cells [(Go.Value.slice Option.none 0 0)] 24 false 1))]))))))) ∨
 ((Says C 27 [] [(D.val (Value.bool false))]) ∧
 (k [(D.val (Value.bool false))]))) := by kernel_rfl
def gHdnnn (C : Ct) (L : AtLoop) (k : List D → Prop) : Prop := jFn Try.prog (hL C) L [] 6 #[.agg #[.slice none 0 0], .slice none 0 0, .slice none 0 0] (heapOf []) (dataK k)
theorem gHdnnn_text (C : Ct) (L : AtLoop) (k : List D → Prop) : gHdnnn C L k =
 (((Says C 27 [] [(D.val (Value.bool true))]) ∧
 (∃ n1 : Int,
 ((Says C 21 [(D.agg [D.nil])] [(D.val (vI n1))]) ∧
 (bcase (n1 != 0)
 (k [(D.val (Value.bool true))])
 (k [(D.val (Value.bool true))]))))) ∨
 ((Says C 27 [] [(D.val (Value.bool false))]) ∧
 (k [(D.val (Value.bool false))]))) := by kernel_rfl
end Go.Proofs.G5b

/- Chapter 5: a chain with wider limits has the same boxes; disturbances out of numbers. -/
namespace Go.Abs
def wid (p : Sv) : Sv := { p with f := -1000, g := 1000 }
theorem wid_ok {p : Sv} (h : LpV p) : LpV (wid p) := by
  have ha := h.a
  exact ⟨h.a, h.d, h.e, ⟨by show (-1000 : Int) ≤ -1000; omega, by show (-1000 : Int) ≤ 1000; omega⟩, ⟨by show (-1000 : Int) ≤ 1000; omega, by show (1000 : Int) ≤ 1000; omega⟩, h.b0, h.b1, h.c0, h.c1, h.bc, h.de, by show (-1000 : Int) ≤ 1000; omega, ha.1, ha.2⟩
theorem lpGo_zero : ∀ {l : List Sv} {i : Nat}, (∀ p ∈ l, LpV p) → lpGo i l = (0, 0)
  | [], _, _ => rfl
  | p :: r, i, h => by
    unfold lpGo
    rw [lpE_ok.2 (h p (List.mem_cons_self ..)), if_neg (fun x => x rfl)]
    exact lpGo_zero (fun q hq => h q (List.mem_cons_of_mem _ hq))
theorem chE_zero {l : List Sv} (h0 : 0 < l.length) (h5 : l.length ≤ 5) (h : ∀ p ∈ l, LpV p) : chE l = (0, 0) := by
  unfold chE
  rw [if_neg (by omega), if_neg (by omega)]
  exact lpGo_zero h
def wds (ps : List Sv) : List Sv := ps.map wid
@[simp] theorem wds_length (ps : List Sv) : (wds ps).length = ps.length := by simp [wds]
theorem wds_at {ps : List Sv} {i : Nat} (h : i < ps.length) : (wds ps).getD i sv0 = wid (ps.getD i sv0) := by
  simp [wds, List.getD, h]
theorem wds_ok {ps : List Sv} (h : ∀ p ∈ ps, LpV p) : ∀ p ∈ wds ps, LpV p := by
  intro p hp
  obtain ⟨q, hq, rfl⟩ := List.mem_map.1 hp
  exact wid_ok (h q hq)
theorem wds_chE {ps : List Sv} (h : (chE ps).2 = 0) : (chE (wds ps)).2 = 0 := by
  have := chE_ok h
  rw [chE_zero (by rw [wds_length]; exact this.1) (by rw [wds_length]; exact this.2.1) (wds_ok this.2.2)]
theorem wds_dls (ps : List Sv) : dls (wds ps) = dls ps := by
  simp only [dls, wds, List.map_map]; rfl
theorem wds_dhs (ps : List Sv) : dhs (wds ps) = dhs ps := by
  simp only [dhs, wds, List.map_map]; rfl
theorem wds_aft (ps : List Sv) (hs ds : List Int) : aft (wds ps) hs ds = aft ps hs ds := by
  unfold aft
  rw [wds_length]
  apply List.map_congr_left
  intro i hi
  have hi := List.mem_range.1 hi
  simp only [aftV, cA, wds_length]
  rw [wds_at hi]
  by_cases he : i + 1 = ps.length
  · rw [if_pos he, if_pos he]; rfl
  · rw [if_neg he, if_neg he, wds_at (show i + 1 < ps.length by omega)]; rfl
theorem wds_img (ps : List Sv) (b : Bxs) : img (wds ps) b = img ps b := by
  unfold img
  rw [wds_dls, wds_dhs, wds_aft, wds_aft]
theorem wds_il {ps : List Sv} {b : Bxs} (hv : ∀ p ∈ ps, LpV p) (hl : b.length = ps.length) (h : ilB ps b = true) : ilB (wds ps) b = true := by
  rw [ilB_iff (by rw [wds_length]; exact hl)]
  intro i hi
  rw [wds_length] at hi
  have := (ilB_iff hl).1 h i hi
  have hp := hv _ (gd_mem (d := sv0) hi)
  have a1 := hp.f; have a2 := hp.g
  unfold lim1 at this ⊢
  rw [wds_at hi]
  simp only [wid]
  omega
theorem wds_grow {ps : List Sv} {b : Bxs} {r : Option Bxs} (hv : ∀ p ∈ ps, LpV p) (hg : Grow ps b r) : b.length = ps.length → ∀ b', r = some b' → Grow (wds ps) b (some b') := by
  induction hg with
  | stop h => intro _ b' e; cases e; exact .stop (by rw [wds_img]; exact h)
  | out _ _ => intro _ b' e; cases e
  | @step c r h h2 h3 ih =>
    intro hl b' e
    have hl2 : (bth c (img ps c)).length = ps.length := by rw [bth_length]; exact hl
    refine .step (by rw [wds_img]; exact h) (by rw [wds_img]; exact wds_il hv hl2 h2) ?_
    rw [wds_img]
    exact ih hl2 b' e
theorem stGo_all : ∀ {ps : List Sv} {hs : List Int}, (∀ i, i < ps.length → (ps.getD i sv0).f ≤ hs.getD i 0 ∧ hs.getD i 0 ≤ (ps.getD i sv0).g) → hs.length = ps.length → stGo ps hs = 0
  | [], [], _, _ => by simp [stGo]
  | p :: ps, h :: hs, hh, hl => by
    simp only [List.length_cons, Nat.add_right_cancel_iff] at hl
    unfold stGo
    rw [if_pos (show p.f ≤ h ∧ h ≤ p.g from hh 0 (by simp))]
    exact stGo_all (fun i hi => hh (i + 1) (by simpa using hi)) hl
  | [], _ :: _, _, hl => by simp at hl
  | _ :: _, [], _, hl => by simp at hl
theorem mvGo_all : ∀ {ps : List Sv} {hs ds : List Int}, (∀ i, i < ps.length → (ps.getD i sv0).f ≤ hs.getD i 0 ∧ hs.getD i 0 ≤ (ps.getD i sv0).g) → (∀ i, i < ps.length → (ps.getD i sv0).d ≤ ds.getD i 0 ∧ ds.getD i 0 ≤ (ps.getD i sv0).e) → hs.length = ps.length → ds.length = ps.length → mvGo ps hs ds = 0
  | [], [], [], _, _, _, _ => by simp [mvGo]
  | p :: ps, h :: hs, d :: ds, h1, h2, l1, l2 => by
    simp only [List.length_cons, Nat.add_right_cancel_iff] at l1 l2
    unfold mvGo
    rw [if_pos (show p.f ≤ h ∧ h ≤ p.g from h1 0 (by simp)), if_pos (show p.d ≤ d ∧ d ≤ p.e from h2 0 (by simp))]
    exact mvGo_all (fun i hi => h1 (i + 1) (by simpa using hi)) (fun i hi => h2 (i + 1) (by simpa using hi)) l1 l2
  | [], _ :: _, _, _, _, l1, _ => by simp at l1
  | _ :: _, [], _, _, _, l1, _ => by simp at l1
  | [], [], _ :: _, _, _, _, l2 => by simp at l2
  | _ :: _, _ :: _, [], _, _, _, l2 => by simp at l2
/-- a number out of a range by another number -/
def pick (lo hi x : Int) : Int := lo + x % (hi - lo + 1)
theorem pick_in {lo hi x : Int} (h : lo ≤ hi) : lo ≤ pick lo hi x ∧ pick lo hi x ≤ hi := by
  have h1 := Int.emod_nonneg x (show hi - lo + 1 ≠ 0 by omega)
  have h2 := Int.emod_lt_of_pos x (show 0 < hi - lo + 1 by omega)
  unfold pick; omega
def dF (ps : List Sv) (xs : List Int) (a j : Nat) : Int := pick (ps.getD j sv0).d (ps.getD j sv0).e (xs.getD ((a + j) % xs.length) 0)
/-- a chain whose first limits are wide -/
def wdF (ps : List Sv) (i j : Nat) : Sv := if j < i then wid (ps.getD j sv0) else ps.getD j sv0
def wdI (ps : List Sv) (i : Nat) : List Sv := (List.range ps.length).map (wdF ps i)
@[simp] theorem wdI_length (ps : List Sv) (i : Nat) : (wdI ps i).length = ps.length := by simp [wdI]
theorem wdI_zero (ps : List Sv) : wdI ps 0 = ps := by
  apply List.ext_getElem
  · simp
  · intro i h1 h2
    simp [wdI, wdF, List.getD, h2]
theorem wdI_end (ps : List Sv) : wdI ps ps.length = wds ps := by
  apply List.ext_getElem
  · simp
  · intro i h1 h2
    simp only [wds_length] at h2
    simp [wdI, wdF, wds, List.getD, h2]
theorem vs7_app (a c : List Sv) : vs7 (a ++ c) = vs7 a ++ vs7 c := by simp [vs7]
theorem wdI_set {ps : List Sv} {i : Nat} (h : i < ps.length) : listSet (vs7 (wdI ps i)) (0 + i * 7 + 5) [.int .i64 (-1000), .int .i64 1000] = vs7 (wdI ps (i + 1)) := by
  have hl : i < (wdI ps i).length := by simp [h]
  have hp : (wdI ps i)[i] = ps[i] := by simp [wdI, wdF, List.getD, h]
  have hset : (wdI ps i).set i (wid ps[i]) = wdI ps (i + 1) := by
    apply List.ext_getElem
    · simp
    · intro j h1 h2
      simp only [List.length_set, wdI_length] at h1
      rw [List.getElem_set]
      simp only [wdI, List.getElem_map, List.getElem_range, wdF]
      split
      · rename_i he; subst he; rw [if_pos (by omega), gd_at h]
      · rename_i he
        by_cases hj : j < i
        · rw [if_pos hj, if_pos (by omega)]
        · rw [if_neg hj, if_neg (by omega)]
  have e0 : wdI ps i = (wdI ps i).take i ++ ps[i] :: (wdI ps i).drop (i + 1) := by
    rw [← hp, ← List.drop_eq_getElem_cons hl, List.take_append_drop]
  have e1 : (wdI ps i).set i (wid ps[i]) = (wdI ps i).take i ++ wid ps[i] :: (wdI ps i).drop (i + 1) := by
    rw [List.set_eq_take_append_cons_drop, if_pos hl]
  rw [← hset, e1]
  have hA : (vs7 ((wdI ps i).take i)).length = i * 7 := by rw [vs7_length, List.length_take, wdI_length]; congr 1; omega
  generalize (wdI ps i).take i = A at hA e0
  generalize (wdI ps i).drop (i + 1) = C at e0
  rw [e0, vs7_app, vs7_app, vs7_cons, vs7_cons]
  unfold listSet
  rw [show 0 + i * 7 + 5 = (vs7 A).length + 5 by omega, List.take_length_add_append]
  have : (vs7 A).length + 5 + [Value.int .i64 (-1000), Value.int .i64 1000].length = (vs7 A).length + 7 := by simp
  rw [this, List.drop_length_add_append]
  simp [Sv.row, wid]
end Go.Abs

/- TopGaugeHeld in data. -/
namespace Go.Proofs.G5b
open Go Go.Abs Go.Proofs Go.Proofs.G5
set_option maxRecDepth 100000
theorem preLOK : PreOK Try.prog (preL C5) := by
  intro g h he args ats H k hk
  unfold preL at he
  split at he
  · obtain rfl := Option.some.inj he
    exact saidH_ok (fun _ _ _ h => h) _ _ _ _ _ hk
  · exact preKOK g h he args ats H k hk
theorem hokL : HandlerOK Try.prog (hL C5) := handlerX_ok mixed preLOK (by decide) 6
theorem run27 : ∀ caps, runOK Try.prog tab6 1000 27 [] [.val (.bool true)] caps = true := by intro caps; kernel_rfl
theorem con27 : C5 27 [] [.val (.bool true)] := con_run tab6_ok mixed (by show 0 ≤ 400; omega) run27
theorem emod_t (n d : Int) (hd : 1 ≤ d) : (n.tmod d < 0 → n.tmod d + d = n % d) ∧ (¬ n.tmod d < 0 → n.tmod d = n % d) ∧ -d < n.tmod d ∧ n.tmod d < d := by
  have h := @Int.tmod_eq_emod n d
  have h1 := Int.emod_nonneg n (show d ≠ 0 by omega)
  have h2 := Int.emod_lt_of_pos n (show 0 < d by omega)
  split at h
  · refine ⟨fun _ => by omega, fun _ => by omega, by omega, by omega⟩
  · rename_i hc
    by_cases h0 : n % d = 0
    · exact absurd (Or.inr (Int.dvd_of_emod_eq_zero h0)) hc
    · refine ⟨fun _ => by omega, fun _ => by omega, by omega, by omega⟩
theorem conMo (n d : Int) (hd : 1 ≤ d) (hd2 : d ≤ 1000000) : C5 25 [dI n, dI d] [dI (n % d)] := by
  refine con_flat hokE' mixed Try.func25 rfl (by show 0 ≤ 400; omega) rfl (by kernel_rfl) (fun caps => ?_)
  show gMd2 _ _ n d _
  have := emod_t n d hd
  rw [gMd2_text, bc_n (show d ≠ 0 by omega)]
  refine bc_dec (fun h => ?_) (fun h => ?_)
  · rw [w64 (by omega) (by omega), this.1 h]
  · rw [this.2.1 h]
structure HF (ps : List Sv) (sta xs : List Int) : Prop where
  c : (chE ps).2 = 0
  l : sta.length = ps.length
  x0 : 0 < xs.length
  x1 : xs.length ≤ 60
structure HB (ps : List Sv) (sta : List Int) (b : Bxs) : Prop where
  lim : ∀ i, i < ps.length → (ps.getD i sv0).f ≤ sta.getD i 0 ∧ sta.getD i 0 ≤ (ps.getD i sv0).g
  g : Grow ps (bxOf sta sta) (some b)
  l : b.length = ps.length
  il : ilB ps b = true
  o : ordB ps b
  s : subB ps (bxOf sta sta) b
  k : subB ps (img ps b) b
abbrev inB (ps : List Sv) (b : Bxs) (hs : List Int) : Prop := ∀ i, i < ps.length → (b.getD i p0).1 ≤ hs.getD i 0 ∧ hs.getD i 0 ≤ (b.getD i p0).2
abbrev hdI (ps : List Sv) (sta xs : List Int) (b : Bxs) (hs : List Int) (a t : Nat) (c1 c2 c3 : Nat) : Nat → Slots × Blocks
  | 0 => zHd7 sta.length c1 xs.length c2 ps.length ps.length ps.length a t 0 (vi sta) (vi xs) ps.length c3 (vp b) (vi hs) ps.length (vs7 ps) (vi hs)
  | i + 1 => zHd11 sta.length c1 xs.length c2 ps.length ps.length ps.length ((a + (i + 1) : Nat) : Int) t ((i + 1 : Nat) : Int) (vi sta) (vi xs) ps.length c3 (vp b) (vi hs) ps.length (i + 1) (vs7 ps) (vi hs) (vi ((List.range (i + 1)).map (dF ps xs a)))
theorem conHd (ps : List Sv) (sta xs : List Int) : C5 6 [.agg [.sl ps.length 7 (vs7 ps)], .sl sta.length 1 (vi sta), .sl xs.length 1 (vi xs)] [.val (.bool true)] := by
  let inv0 : Nat × Nat × Nat × Nat → Prop := fun y => y.1 ≤ sta.length ∧ HF ps sta xs ∧ ∀ j, j < y.1 → (ps.getD j sv0).f ≤ sta.getD j 0 ∧ sta.getD j 0 ≤ (ps.getD j sv0).g
  let st0 : Nat × Nat × Nat × Nat → Slots × Blocks := fun y => zHd1 sta.length y.2.1 xs.length y.2.2.1 y.1 (vi sta) (vi xs) ps.length y.2.2.2 (vs7 ps)
  let inv2 : (Bxs × List Int × Nat × Nat) × Nat × Nat × Nat → Prop := fun y => HF ps sta xs ∧ HB ps sta y.1.1 ∧ y.1.2.2.2 ≤ 12 ∧ y.1.2.2.1 ≤ y.1.2.2.2 * 5 ∧ y.1.2.1.length = ps.length ∧ inB ps y.1.1 y.1.2.1
  let st2 : (Bxs × List Int × Nat × Nat) × Nat × Nat × Nat → Slots × Blocks := fun y => zHd4 sta.length y.2.1 xs.length y.2.2.1 ps.length ps.length ps.length (y.1.2.2.1 : Int) (y.1.2.2.2 : Int) (vi sta) (vi xs) ps.length y.2.2.2 (vp y.1.1) (vi y.1.2.1) (vs7 ps)
  let inv6 : Bxs × Nat × Nat → Prop := fun y => HF ps sta xs ∧ HB ps sta y.1 ∧ y.2.1 ≤ ps.length
  let st6 : Bxs × Nat × Nat → Slots × Blocks := fun y => zHd13 sta.length y.2.2 ps.length ps.length (y.2.1 : Int) (vi sta) (vp y.1) ps.length (vs7 (wdI ps y.2.1))
  refine con_J hokL mixed [] (L := fun id s b => match id with | 0 => ∃ y, inv0 y ∧ st0 y = (s, b) | 2 => ∃ y, inv2 y ∧ st2 y = (s, b) | _ => ∃ y, inv6 y ∧ st6 y = (s, b)) Try.func6 rfl (by show 3 ≤ 400; omega) rfl (pts := [0, 2, 6]) (loops := [0, 2, 6]) (by kernel_rfl) (by kernel_rfl) (fun caps _ => ?_) (fun id q1 q2 => absurd q1 q2) (fun id hid => ?_)
  · show gHd _ _ ps.length (caps 500) (vs7 ps) sta.length (caps 501) (vi sta) xs.length (caps 502) (vi xs) _
    rw [gHd_text]
    simp only [bc_t (v7le ps), vs7_whole]
    refine .inl ⟨⟨con27⟩, bc_dec (fun _ => trivial) (fun h4 => ⟨_, ⟨conCE ps (by omega)⟩, bc_bne (fun _ => trivial) (fun hc => bc_bne (fun _ => trivial) (fun hl => bc_beq (fun _ => trivial) (fun hx => bc_dec (fun _ => trivial) (fun hx2 => ?_))))⟩)⟩
    exact ⟨(0, caps 501, caps 502, caps 500), ⟨Nat.zero_le _, ⟨hc, by omega, by omega, by omega⟩, fun j hj => absurd hj (Nat.not_lt_zero j)⟩, rfl⟩
  · have hid' : id = 0 ∨ id = 2 ∨ id = 6 := by simpa using hid
    rcases hid' with rfl | rfl | rfl
    · refine ⟨⟨_, st0, inv0, fun y => sta.length - y.1, fun s b h => h, [], [], by kernel_rfl, by kernel_rfl, ?_⟩⟩
      rintro ⟨i, c1, c2, c3⟩ ⟨hi, hF, hlm⟩
      simp only at hi hlm
      have hok := chE_ok hF.c
      have hl := hF.l
      refine ⟨fun _ _ _ => False, ?_, (fun id2 h3 => absurd h3 (by simp)), (fun id2 h3 => absurd h3 (by simp))⟩
      show rHd1 _ _ sta.length c1 xs.length c2 (i : Int) (vi sta) (vi xs) ps.length c3 (vs7 ps) _ _ _
      rw [rHd1_text]
      refine bc_dec (fun h => ?_) (fun h => ?_)
      · have h1 : i < ps.length := by omega
        have h2 : i < sta.length := by omega
        have e5 : At (vs7 ps) (0 + i * 7 + 5) 1 [vI (ps.getD i sv0).f] := by rw [gd_at h1]; exact vs7_one ps i h1 5 _ rfl
        have e6 : At (vs7 ps) (0 + i * 7 + 5 + 1) 1 [vI (ps.getD i sv0).g] := by rw [gd_at h1]; exact vs7_one ps i h1 6 _ rfl
        have m1 : At (vi sta) (0 + i * 1) 1 [vI (sta.getD i 0)] := by rw [gd_at h2]; exact vi_at sta i h2
        simp only [bc_t h, bc_t (show (i : Int) < (ps.length : Int) by omega), bc_t (show (0 : Int) ≤ (i : Int) by omega), Int.toNat_natCast, addr_add5, at1 e5, at1 e6, at1 m1, eq_self, true_and, and_true]
        by_cases hq : (ps.getD i sv0).f ≤ sta.getD i 0 ∧ sta.getD i 0 ≤ (ps.getD i sv0).g
        · refine .inl ⟨sayWt hq, ⟨(i + 1, c1, c2, c3), ⟨h2, hF, fun j hj => ?_⟩, by show sta.length - (i + 1) < sta.length - i; omega, ?_⟩⟩
          · by_cases hji : j < i
            · exact hlm j hji
            · obtain rfl : j = i := by omega
              exact hq
          · rw [w64 (by omega) (by omega)]; rfl
        · exact .inr (sayWf hq)
      · show (if 0 = 0 then _ else _)
        rw [if_pos rfl]
        show nHd2 _ _ sta.length c1 xs.length c2 (vi sta) (vi xs) ps.length c3 (vs7 ps) _
        rw [nHd2_text]
        have hlim : ∀ j, j < ps.length → (ps.getD j sv0).f ≤ sta.getD j 0 ∧ sta.getD j 0 ≤ (ps.getD j sv0).g := fun j hj => hlm j (by omega)
        have hst := stGo_all hlim hl
        obtain ⟨r, hg⟩ := grow_all (ps := ps) (slack ps (bxOf sta sta)) (b := bxOf sta sta) (Nat.le_refl _) (by simp [hl])
        have c19 := conBF (.grow hF.c hl hst r hg) (by omega)
        simp only [bc_t (v7le ps), bc_t (v1le sta), vs7_whole, vi_whole]
        refine ⟨⟨conCpC ps (by omega)⟩, ⟨conCIx sta (by omega)⟩, ?_⟩
        cases r with
        | none => exact .inl ⟨_, ⟨c19⟩, bc_bne (fun _ => bc_beq (fun _ => trivial) (fun h => absurd rfl h)) (fun h => absurd h (by decide))⟩
        | some b =>
          obtain ⟨g1, g2, g3, g4, g5⟩ := grow_facts hg (by simp [hl]) (stGo_ok hl hst) (bxOf_ord ps sta) b rfl
          refine .inr ⟨_, _, _, ⟨c19⟩, bc_bne (fun h => absurd rfl h) (fun _ => bc_bne (fun h => absurd (by rw [g1]) h) (fun _ => ⟨⟨conCIx sta (by omega)⟩, ?_⟩))⟩
          refine ⟨((b, sta, 0, 0), c1, c2, c3), ⟨hF, ⟨hlim, hg, g1, g2, g3, g4, bth_fix g1 g5⟩, by show 0 ≤ 12; omega, by show 0 ≤ 0 * 5; omega, hl, fun j hj => ?_⟩, ?_⟩
          · have := g4 j hj
            rw [bxOf_at (show j < sta.length by omega)] at this
            exact this
          · show zHd4 sta.length c1 xs.length c2 ps.length ps.length ps.length ((0 : Nat) : Int) ((0 : Nat) : Int) (vi sta) (vi xs) ps.length c3 (vp b) (vi sta) (vs7 ps) = _
            rw [g1, hl]; rfl
    · refine ⟨⟨_, st2, inv2, fun y => 12 - y.1.2.2.2, fun s b h => h, [4], [4], by kernel_rfl, by kernel_rfl, ?_⟩⟩
      rintro ⟨⟨b, hs, a, t⟩, c1, c2, c3⟩ ⟨hF, hB, ht, ha, hh, hin⟩
      simp only at hB ht ha hh hin
      have hok := chE_ok hF.c
      have hl := hF.l
      have hlb : ∀ {i : Nat}, i < ps.length → (i : Int) < (ps.length : Int) := fun h => by omega
      refine ⟨fun _ s bl => ∃ i, (i ≤ ps.length ∧ t < 12) ∧ hdI ps sta xs b hs a t c1 c2 c3 i = (s, bl), ?_, fun id2 q1 q2 => absurd q1 q2, fun id2 hid2 => ?_⟩
      · show rHd4 _ _ sta.length c1 xs.length c2 ps.length ps.length ps.length (a : Int) (t : Int) (vi sta) (vi xs) ps.length c3 (vp b) (vi hs) (vs7 ps) _ _ _
        rw [rHd4_text]
        refine bc_dec (fun h => ?_) (fun h => ?_)
        · have c20 := conCIx hs (by omega)
          rw [hh] at c20
          have w1 : List.take (ps.length * 1) (List.drop 0 (vi hs)) = vi hs := by rw [← hh]; exact vi_whole hs
          simp only [bc_t (show 0 + ps.length * 1 ≤ (vi hs).length by rw [vi_length, hh]; omega), w1]
          exact ⟨⟨c20⟩, ⟨0, ⟨Nat.zero_le _, by omega⟩, rfl⟩⟩
        · show (if 2 = 2 then _ else _)
          rw [if_pos rfl]
          show nHd8 _ _ sta.length c1 ps.length ps.length (vi sta) ps.length c3 (vp b) (vs7 ps) _
          rw [nHd8_text]
          simp only [bc_t (v7le ps), vs7_whole]
          refine ⟨⟨conCpC ps (by omega)⟩, ⟨(b, 0, c1), ⟨hF, hB, Nat.zero_le _⟩, ?_⟩⟩
          show zHd13 sta.length c1 ps.length ps.length ((0 : Nat) : Int) (vi sta) (vp b) ps.length (vs7 (wdI ps 0)) = _
          rw [wdI_zero]; rfl
      · obtain rfl := List.mem_singleton.1 hid2
        refine ⟨⟨Nat, hdI ps sta xs b hs a t c1 c2 c3, fun i => i ≤ ps.length ∧ t < 12, fun i => ps.length - i, fun s bl h => h, [], by kernel_rfl, by kernel_rfl, fun i hi => ⟨fun _ _ _ => False, ?_, fun id3 h3 => absurd h3 (by simp)⟩⟩⟩
        obtain ⟨hi, ht12⟩ := hi
        have wi : i < ps.length → IntKind.wrap .i64 ((i : Int) + 1) = ((i + 1 : Nat) : Int) := fun h => by rw [w64 (by omega) (by omega)]; rfl
        have wa : i < ps.length → IntKind.wrap .i64 (((a + i : Nat) : Int) + 1) = ((a + (i + 1) : Nat) : Int) := fun h => by rw [w64 (by omega) (by omega)]; omega
        have tm : Int.tmod ((a + i : Nat) : Int) (xs.length : Int) = (((a + i) % xs.length : Nat) : Int) := rfl
        have tlt : (((a + i) % xs.length : Nat) : Int) < (xs.length : Int) := by have := Nat.mod_lt (a + i) hF.x0; omega
        have facts : ∀ (h1 : i < ps.length), (At (vs7 ps) (0 + i * 7 + 3) 2 [vI (ps.getD i sv0).d, vI (ps.getD i sv0).e]) ∧ (At (vs7 ps) (0 + i * 7 + 5) 1 [vI (ps.getD i sv0).f]) ∧ (At (vs7 ps) (0 + i * 7 + 5 + 1) 1 [vI (ps.getD i sv0).g]) ∧ (At (vp b) (0 + i * 2) 1 [vI (b.getD i p0).1]) ∧ (At (vp b) (0 + i * 2 + 1) 1 [vI (b.getD i p0).2]) ∧ (At (vi hs) (0 + i * 1) 1 [vI (hs.getD i 0)]) ∧ (At (vi xs) (0 + ((a + i) % xs.length) * 1) 1 [vI (xs.getD ((a + i) % xs.length) 0)]) := by
          intro h1
          have hb := hB.l
          refine ⟨?_, ?_, ?_, ?_, ?_, ?_, ?_⟩
          · rw [gd_at h1]; exact vs7_de ps i h1 500
          · rw [gd_at h1]; exact vs7_one ps i h1 5 _ rfl
          · rw [gd_at h1]; exact vs7_one ps i h1 6 _ rfl
          · rw [gd_at (show i < b.length by omega)]; exact vp_one b i (by omega)
          · rw [gd_at (show i < b.length by omega)]; exact vp_snd b i (by omega)
          · rw [gd_at (show i < hs.length by omega)]; exact vi_at hs i (by omega)
          · rw [gd_at (Nat.mod_lt (a + i) hF.x0)]; exact vi_at xs _ (Nat.mod_lt (a + i) hF.x0)
        have lims : ∀ (h1 : i < ps.length), (ps.getD i sv0).f ≤ hs.getD i 0 ∧ hs.getD i 0 ≤ (ps.getD i sv0).g := by
          intro h1
          have q := (ilB_iff hB.l).1 hB.il i h1
          have q2 := hin i h1
          unfold lim1 at q
          omega
        have dst : ∀ (h1 : i < ps.length), IntKind.wrap .i64 ((ps.getD i sv0).d + xs.getD ((a + i) % xs.length) 0 % IntKind.wrap .i64 (IntKind.wrap .i64 ((ps.getD i sv0).e - (ps.getD i sv0).d) + 1)) = dF ps xs a i ∧ 1 ≤ IntKind.wrap .i64 (IntKind.wrap .i64 ((ps.getD i sv0).e - (ps.getD i sv0).d) + 1) ∧ IntKind.wrap .i64 (IntKind.wrap .i64 ((ps.getD i sv0).e - (ps.getD i sv0).d) + 1) ≤ 1000000 := by
          intro h1
          have hp := hok.2.2 _ (gd_mem (d := sv0) h1)
          have d1 := hp.d; have d2 := hp.e; have d3 := hp.de
          have pk := pick_in (x := xs.getD ((a + i) % xs.length) 0) d3
          rw [w64 (z := (ps.getD i sv0).e - (ps.getD i sv0).d) (by omega) (by omega), w64 (z := (ps.getD i sv0).e - (ps.getD i sv0).d + 1) (by omega) (by omega)]
          unfold pick at pk
          refine ⟨?_, by omega, by omega⟩
          rw [w64 (by omega) (by omega)]; rfl
        cases i with
        | zero =>
          show rHd7 _ _ sta.length c1 xs.length c2 ps.length ps.length ps.length ((a + 0 : Nat) : Int) (t : Int) ((0 : Nat) : Int) (vi sta) (vi xs) ps.length c3 (vp b) (vi hs) ps.length (vs7 ps) (vi hs) _ _ _
          rw [rHd7_text]
          have h1 : 0 < ps.length := hok.1
          obtain ⟨f1, f2, f3, f4, f5, f6, f7⟩ := facts h1
          have dd := dst h1
          rw [tm]
          simp only [bc_t (hlb h1), bc_t tlt, bc_t (show (0 : Int) ≤ ((0 : Nat) : Int) by omega), bc_t (show (0 : Int) ≤ (((a + 0) % xs.length : Nat) : Int) by omega), bc_n (show (xs.length : Int) ≠ 0 by have := hF.x0; omega), Int.toNat_natCast, addr_add5, at2 f1, at1 f2, at1 f3, at1 f4, at1 f5, at1 f6, at1 f7, wi h1, wa h1, eq_self, true_and, and_true]
          refine .inl ⟨sayWt (hin 0 h1), .inl ⟨sayWt (lims h1), ⟨_, ⟨conMo _ _ dd.2.1 dd.2.2⟩, ?_⟩⟩⟩
          refine ⟨1, ⟨h1, ht12⟩, by omega, ?_⟩
          rw [dd.1]; rfl
        | succ i =>
          show rHd11 _ _ sta.length c1 xs.length c2 ps.length ps.length ps.length ((a + (i + 1) : Nat) : Int) (t : Int) ((i + 1 : Nat) : Int) (vi sta) (vi xs) ps.length c3 (vp b) (vi hs) ps.length (i + 1) (vs7 ps) (vi hs) (vi ((List.range (i + 1)).map (dF ps xs a))) _ _ _
          rw [rHd11_text]
          refine bc_dec (fun h => ?_) (fun h => ?_)
          · have h1 : i + 1 < ps.length := by omega
            obtain ⟨f1, f2, f3, f4, f5, f6, f7⟩ := facts h1
            have dd := dst h1
            rw [tm]
            have q1 : 0 + (i + 1) * 1 ≤ (vi ((List.range (i + 1)).map (dF ps xs a))).length := by simp
            have q2 : 0 + (i + 1) * 1 = (vi ((List.range (i + 1)).map (dF ps xs a))).length := by simp
            simp only [bc_t (hlb h1), bc_t tlt, bc_t (show (0 : Int) ≤ ((i + 1 : Nat) : Int) by omega), bc_t (show (0 : Int) ≤ (((a + (i + 1)) % xs.length : Nat) : Int) by omega), bc_n (show (xs.length : Int) ≠ 0 by have := hF.x0; omega), Int.toNat_natCast, addr_add5, at2 f1, at1 f2, at1 f3, at1 f4, at1 f5, at1 f6, at1 f7, wi h1, wa h1, rg_take, bc_t (show i + 1 < i + 1 + 1 by omega), bc_t (show (2 * (i + 1 + 1) + 768) * 8 ≤ 281474976710656 by omega), bc_t (show i + 1 + 1 ≤ 1099511627776 by omega), bc_t q1, bc_t q2, eq_self, true_and, and_true]
            refine .inl ⟨sayWt (hin (i + 1) h1), .inl ⟨sayWt (lims h1), ⟨_, ⟨conMo _ _ dd.2.1 dd.2.2⟩, ?_⟩⟩⟩
            refine ⟨i + 2, ⟨h1, ht12⟩, by omega, ?_⟩
            have g : vi ((List.range (i + 1)).map (dF ps xs a)) ++ [vI (dF ps xs a (i + 1))] = vi ((List.range (i + 2)).map (dF ps xs a)) := rg_snoc (dF ps xs a) (i + 1)
            rw [dd.1, g]
          · show (if 4 = 4 then _ else _)
            rw [if_pos rfl]
            have hip : i + 1 = ps.length := by omega
            show iHd15 _ _ sta.length c1 xs.length c2 ps.length ps.length ((a + (i + 1) : Nat) : Int) (t : Int) (vi sta) (vi xs) ps.length c3 (vp b) ps.length (i + 1) (vs7 ps) (vi hs) (vi ((List.range (i + 1)).map (dF ps xs a))) _ _ _
            rw [iHd15_text, hip]
            have dl : ((List.range ps.length).map (dF ps xs a)).length = ps.length := by simp
            have hlims : ∀ j, j < ps.length → (ps.getD j sv0).f ≤ hs.getD j 0 ∧ hs.getD j 0 ≤ (ps.getD j sv0).g := by
              intro j hj
              have q := (ilB_iff hB.l).1 hB.il j hj
              have q2 := hin j hj
              unfold lim1 at q
              omega
            have dlims : ∀ j, j < ps.length → (ps.getD j sv0).d ≤ ((List.range ps.length).map (dF ps xs a)).getD j 0 ∧ ((List.range ps.length).map (dF ps xs a)).getD j 0 ≤ (ps.getD j sv0).e := by
              intro j hj
              rw [rg_getI hj]
              exact pick_in (hok.2.2 _ (gd_mem (d := sv0) hj)).de
            have hmv : mvE ps hs ((List.range ps.length).map (dF ps xs a)) = 0 := by
              rw [mvE, if_neg (by rw [dl]; omega)]
              exact mvGo_all hlims dlims hh dl
            have c11 := conSt ps hs ((List.range ps.length).map (dF ps xs a)) (by omega)
            rw [stD, if_neg (fun x => x hF.c), if_neg (fun x => x hmv), hh, dl] at c11
            have w1 : List.take (ps.length * 1) (List.drop 0 (vi hs)) = vi hs := by rw [← hh]; exact vi_whole hs
            have w2 : List.take (ps.length * 1) (List.drop 0 (vi ((List.range ps.length).map (dF ps xs a)))) = vi ((List.range ps.length).map (dF ps xs a)) := rg_take _ _
            simp only [bc_t (v7le ps), vs7_whole, bc_t (show 0 + ps.length * 1 ≤ (vi hs).length by rw [vi_length, hh]; omega), bc_t (show 0 + ps.length * 1 ≤ (vi ((List.range ps.length).map (dF ps xs a))).length by rw [vi_length, dl]; omega), w1, w2, true_and]
            refine ⟨⟨conCpC ps (by omega)⟩, .inr ⟨_, _, _, ⟨c11⟩, bc_bne (fun h => absurd rfl h) (fun _ => bc_bne (fun h => absurd rfl h) (fun _ => ?_))⟩⟩
            have la := aft_length ps hs ((List.range ps.length).map (dF ps xs a))
            have w3 : List.take (ps.length * 1) (List.drop 0 (vi (aft ps hs ((List.range ps.length).map (dF ps xs a))))) = vi (aft ps hs ((List.range ps.length).map (dF ps xs a))) := rg_take _ _
            have c20 := conCIx (aft ps hs ((List.range ps.length).map (dF ps xs a))) (by omega)
            rw [la] at c20
            simp only [bc_t (show 0 + ps.length * 1 ≤ (vi (aft ps hs ((List.range ps.length).map (dF ps xs a)))).length by rw [vi_length, la]; omega), w3, true_and]
            refine ⟨⟨c20⟩, ⟨((b, aft ps hs ((List.range ps.length).map (dF ps xs a)), a + ps.length, t + 1), c1, c2, c3), ⟨hF, hB, by show t + 1 ≤ 12; omega, by show a + ps.length ≤ (t + 1) * 5; omega, la, keep_in hok.2.2 hB.k hin dlims⟩, by show 12 - (t + 1) < 12 - t; omega, ?_⟩⟩
            rw [w64 (by omega) (by omega)]; rfl
    · refine ⟨⟨_, st6, inv6, fun y => ps.length - y.2.1, fun s b h => h, [], [], by kernel_rfl, by kernel_rfl, ?_⟩⟩
      rintro ⟨b, i, c1⟩ ⟨hF, hB, hi⟩
      simp only at hB hi
      have hok := chE_ok hF.c
      have hl := hF.l
      refine ⟨fun _ _ _ => False, ?_, (fun id2 h3 => absurd h3 (by simp)), (fun id2 h3 => absurd h3 (by simp))⟩
      show rHd13 _ _ sta.length c1 ps.length ps.length (i : Int) (vi sta) (vp b) ps.length (vs7 (wdI ps i)) _ _ _
      rw [rHd13_text]
      refine bc_dec (fun h => ?_) (fun h => ?_)
      · have h1 : i < ps.length := by omega
        simp only [bc_t h, bc_t (show (0 : Int) ≤ (i : Int) by omega), Int.toNat_natCast]
        refine bc_yes (by show 0 + i * 7 + 5 + 2 ≤ _; rw [vs7_length, wdI_length]; omega) ?_
        refine ⟨(b, i + 1, c1), ⟨hF, hB, h1⟩, by show ps.length - (i + 1) < ps.length - i; omega, ?_⟩
        rw [w64 (by omega) (by omega)]
        have e := wdI_set h1
        show (_, [(501, AObj.sym (vi sta) false 1), (1000, AObj.sym (vp b) true 2), (1001, _), (1002, AObj.sym (vs7 (wdI ps (i + 1))) true 7)]) = _
        rw [← e]; rfl
      · show (if 6 = 6 then _ else _)
        rw [if_pos rfl]
        have hip : i = ps.length := by omega
        subst hip
        rw [wdI_end]
        show nHd16 _ _ sta.length c1 ps.length (vi sta) (vp b) ps.length (vs7 (wds ps)) _
        rw [nHd16_text]
        have hst : stGo (wds ps) sta = 0 := by
          refine stGo_all (fun j hj => ?_) (by rw [wds_length]; exact hl)
          rw [wds_length] at hj
          have q := hB.lim j hj
          have hp := hok.2.2 _ (gd_mem (d := sv0) hj)
          have a1 := hp.f; have a2 := hp.g
          rw [wds_at hj]
          simp only [wid]
          omega
        have c19 := conBF (ps := wds ps) (.grow (wds_chE hF.c) (by rw [wds_length]; exact hl) hst (some b) (wds_grow hok.2.2 hB.g (by simp [hl]) b rfl)) (by rw [wds_length]; omega)
        rw [wds_length, bfOf, hB.l] at c19
        have w1 : List.take (ps.length * 7) (List.drop 0 (vs7 (wds ps))) = vs7 (wds ps) := by rw [← wds_length ps]; exact vs7_whole _
        have w2 : List.take (ps.length * 2) (List.drop 0 (vp b)) = vp b := by rw [← hB.l]; exact vp_whole b
        simp only [bc_t (v1le sta), vi_whole, bc_t (show 0 + ps.length * 7 ≤ (vs7 (wds ps)).length by rw [vs7_length, wds_length]; omega), w1, true_and]
        refine ⟨⟨conCIx sta (by omega)⟩, .inr ⟨_, _, _, ⟨c19⟩, bc_beq (fun _ => ?_) (fun h => absurd rfl h)⟩⟩
        simp only [bc_t (show 0 + ps.length * 2 ≤ (vp b).length by rw [vp_length, hB.l]; omega), w2]
        have c24 := conRgT b (by rw [hB.l]; omega)
        rw [hB.l] at c24
        first | exact .inl ⟨⟨c24⟩, by first | rfl | trivial⟩ | exact .inl ⟨c24⟩
theorem conHssn (ps : List Sv) (sta : List Int) : C5 6 [.agg [.sl ps.length 7 (vs7 ps)], .sl sta.length 1 (vi sta), .nil] [.val (.bool true)] := by
  refine con_J hokL mixed [] (L := fun _ _ _ => False) Try.func6 rfl (by show 2 ≤ 400; omega) rfl (pts := [0, 2, 6]) (loops := [0, 2, 6]) (by kernel_rfl) (by kernel_rfl) (fun caps _ => ?_) (fun id q1 q2 => absurd q1 q2) (fun id hid => ?_)
  · show gHdssn _ _ ps.length (caps 500) (vs7 ps) sta.length (caps 501) (vi sta) _
    rw [gHdssn_text]
    simp only [bc_t (v7le ps), vs7_whole]
    exact .inl ⟨⟨con27⟩, bc_dec (fun _ => by first | rfl | trivial) (fun h4 => ⟨_, ⟨conCE ps (by omega)⟩, bc_bne (fun _ => by first | rfl | trivial) (fun hc => bc_bne (fun _ => by first | rfl | trivial) (fun hl => by first | rfl | trivial))⟩)⟩
  · have hid' : id = 0 ∨ id = 2 ∨ id = 6 := by simpa using hid
    rcases hid' with rfl | rfl | rfl
    · exact ⟨⟨Unit, fun _ => ([], []), fun _ => False, fun _ => 0, fun s b h => h.elim, [], [], by kernel_rfl, by kernel_rfl, fun _ h => h.elim⟩⟩
    · exact ⟨⟨Unit, fun _ => ([], []), fun _ => False, fun _ => 0, fun s b h => h.elim, [4], [4], by kernel_rfl, by kernel_rfl, fun _ h => h.elim⟩⟩
    · exact ⟨⟨Unit, fun _ => ([], []), fun _ => False, fun _ => 0, fun s b h => h.elim, [], [], by kernel_rfl, by kernel_rfl, fun _ h => h.elim⟩⟩
theorem conHsns (ps : List Sv) (xs : List Int) : C5 6 [.agg [.sl ps.length 7 (vs7 ps)], .nil, .sl xs.length 1 (vi xs)] [.val (.bool true)] := by
  refine con_J hokL mixed [] (L := fun _ _ _ => False) Try.func6 rfl (by show 2 ≤ 400; omega) rfl (pts := [0, 2, 6]) (loops := [0, 2, 6]) (by kernel_rfl) (by kernel_rfl) (fun caps _ => ?_) (fun id q1 q2 => absurd q1 q2) (fun id hid => ?_)
  · show gHdsns _ _ ps.length (caps 500) (vs7 ps) xs.length (caps 501) (vi xs) _
    rw [gHdsns_text]
    simp only [bc_t (v7le ps), vs7_whole]
    exact .inl ⟨⟨con27⟩, bc_dec (fun _ => by first | rfl | trivial) (fun h4 => ⟨_, ⟨conCE ps (by omega)⟩, bc_bne (fun _ => by first | rfl | trivial) (fun hc => bc_bne (fun _ => by first | rfl | trivial) (fun hl => absurd hl (by have := (chE_ok hc).1; omega)))⟩)⟩
  · have hid' : id = 0 ∨ id = 2 ∨ id = 6 := by simpa using hid
    rcases hid' with rfl | rfl | rfl
    · exact ⟨⟨Unit, fun _ => ([], []), fun _ => False, fun _ => 0, fun s b h => h.elim, [], [], by kernel_rfl, by kernel_rfl, fun _ h => h.elim⟩⟩
    · exact ⟨⟨Unit, fun _ => ([], []), fun _ => False, fun _ => 0, fun s b h => h.elim, [4], [4], by kernel_rfl, by kernel_rfl, fun _ h => h.elim⟩⟩
    · exact ⟨⟨Unit, fun _ => ([], []), fun _ => False, fun _ => 0, fun s b h => h.elim, [], [], by kernel_rfl, by kernel_rfl, fun _ h => h.elim⟩⟩
theorem conHsnn (ps : List Sv) : C5 6 [.agg [.sl ps.length 7 (vs7 ps)], .nil, .nil] [.val (.bool true)] := by
  refine con_J hokL mixed [] (L := fun _ _ _ => False) Try.func6 rfl (by show 1 ≤ 400; omega) rfl (pts := [0, 2, 6]) (loops := [0, 2, 6]) (by kernel_rfl) (by kernel_rfl) (fun caps _ => ?_) (fun id q1 q2 => absurd q1 q2) (fun id hid => ?_)
  · show gHdsnn _ _ ps.length (caps 500) (vs7 ps) _
    rw [gHdsnn_text]
    simp only [bc_t (v7le ps), vs7_whole]
    exact .inl ⟨⟨con27⟩, bc_dec (fun _ => by first | rfl | trivial) (fun h4 => ⟨_, ⟨conCE ps (by omega)⟩, bc_bne (fun _ => by first | rfl | trivial) (fun hc => bc_bne (fun _ => by first | rfl | trivial) (fun hl => absurd hl (by have := (chE_ok hc).1; omega)))⟩)⟩
  · have hid' : id = 0 ∨ id = 2 ∨ id = 6 := by simpa using hid
    rcases hid' with rfl | rfl | rfl
    · exact ⟨⟨Unit, fun _ => ([], []), fun _ => False, fun _ => 0, fun s b h => h.elim, [], [], by kernel_rfl, by kernel_rfl, fun _ h => h.elim⟩⟩
    · exact ⟨⟨Unit, fun _ => ([], []), fun _ => False, fun _ => 0, fun s b h => h.elim, [4], [4], by kernel_rfl, by kernel_rfl, fun _ h => h.elim⟩⟩
    · exact ⟨⟨Unit, fun _ => ([], []), fun _ => False, fun _ => 0, fun s b h => h.elim, [], [], by kernel_rfl, by kernel_rfl, fun _ h => h.elim⟩⟩
theorem conHnss (sta : List Int) (xs : List Int) : C5 6 [.agg [.nil], .sl sta.length 1 (vi sta), .sl xs.length 1 (vi xs)] [.val (.bool true)] := by
  refine con_J hokL mixed [] (L := fun _ _ _ => False) Try.func6 rfl (by show 2 ≤ 400; omega) rfl (pts := [0, 2, 6]) (loops := [0, 2, 6]) (by kernel_rfl) (by kernel_rfl) (fun caps _ => ?_) (fun id q1 q2 => absurd q1 q2) (fun id hid => ?_)
  · show gHdnss _ _ sta.length (caps 500) (vi sta) xs.length (caps 501) (vi xs) _
    rw [gHdnss_text]
    exact .inl ⟨⟨con27⟩, _, ⟨conCEn⟩, bc_bne (fun _ => by first | rfl | trivial) (fun hc => absurd hc (by decide))⟩
  · have hid' : id = 0 ∨ id = 2 ∨ id = 6 := by simpa using hid
    rcases hid' with rfl | rfl | rfl
    · exact ⟨⟨Unit, fun _ => ([], []), fun _ => False, fun _ => 0, fun s b h => h.elim, [], [], by kernel_rfl, by kernel_rfl, fun _ h => h.elim⟩⟩
    · exact ⟨⟨Unit, fun _ => ([], []), fun _ => False, fun _ => 0, fun s b h => h.elim, [4], [4], by kernel_rfl, by kernel_rfl, fun _ h => h.elim⟩⟩
    · exact ⟨⟨Unit, fun _ => ([], []), fun _ => False, fun _ => 0, fun s b h => h.elim, [], [], by kernel_rfl, by kernel_rfl, fun _ h => h.elim⟩⟩
theorem conHnsn (sta : List Int) : C5 6 [.agg [.nil], .sl sta.length 1 (vi sta), .nil] [.val (.bool true)] := by
  refine con_J hokL mixed [] (L := fun _ _ _ => False) Try.func6 rfl (by show 1 ≤ 400; omega) rfl (pts := [0, 2, 6]) (loops := [0, 2, 6]) (by kernel_rfl) (by kernel_rfl) (fun caps _ => ?_) (fun id q1 q2 => absurd q1 q2) (fun id hid => ?_)
  · show gHdnsn _ _ sta.length (caps 500) (vi sta) _
    rw [gHdnsn_text]
    exact .inl ⟨⟨con27⟩, _, ⟨conCEn⟩, bc_bne (fun _ => by first | rfl | trivial) (fun hc => absurd hc (by decide))⟩
  · have hid' : id = 0 ∨ id = 2 ∨ id = 6 := by simpa using hid
    rcases hid' with rfl | rfl | rfl
    · exact ⟨⟨Unit, fun _ => ([], []), fun _ => False, fun _ => 0, fun s b h => h.elim, [], [], by kernel_rfl, by kernel_rfl, fun _ h => h.elim⟩⟩
    · exact ⟨⟨Unit, fun _ => ([], []), fun _ => False, fun _ => 0, fun s b h => h.elim, [4], [4], by kernel_rfl, by kernel_rfl, fun _ h => h.elim⟩⟩
    · exact ⟨⟨Unit, fun _ => ([], []), fun _ => False, fun _ => 0, fun s b h => h.elim, [], [], by kernel_rfl, by kernel_rfl, fun _ h => h.elim⟩⟩
theorem conHnns (xs : List Int) : C5 6 [.agg [.nil], .nil, .sl xs.length 1 (vi xs)] [.val (.bool true)] := by
  refine con_J hokL mixed [] (L := fun _ _ _ => False) Try.func6 rfl (by show 1 ≤ 400; omega) rfl (pts := [0, 2, 6]) (loops := [0, 2, 6]) (by kernel_rfl) (by kernel_rfl) (fun caps _ => ?_) (fun id q1 q2 => absurd q1 q2) (fun id hid => ?_)
  · show gHdnns _ _ xs.length (caps 500) (vi xs) _
    rw [gHdnns_text]
    exact .inl ⟨⟨con27⟩, _, ⟨conCEn⟩, bc_bne (fun _ => by first | rfl | trivial) (fun hc => absurd hc (by decide))⟩
  · have hid' : id = 0 ∨ id = 2 ∨ id = 6 := by simpa using hid
    rcases hid' with rfl | rfl | rfl
    · exact ⟨⟨Unit, fun _ => ([], []), fun _ => False, fun _ => 0, fun s b h => h.elim, [], [], by kernel_rfl, by kernel_rfl, fun _ h => h.elim⟩⟩
    · exact ⟨⟨Unit, fun _ => ([], []), fun _ => False, fun _ => 0, fun s b h => h.elim, [4], [4], by kernel_rfl, by kernel_rfl, fun _ h => h.elim⟩⟩
    · exact ⟨⟨Unit, fun _ => ([], []), fun _ => False, fun _ => 0, fun s b h => h.elim, [], [], by kernel_rfl, by kernel_rfl, fun _ h => h.elim⟩⟩
theorem conHnnn : C5 6 [.agg [.nil], .nil, .nil] [.val (.bool true)] := by
  refine con_J hokL mixed [] (L := fun _ _ _ => False) Try.func6 rfl (by show 0 ≤ 400; omega) rfl (pts := [0, 2, 6]) (loops := [0, 2, 6]) (by kernel_rfl) (by kernel_rfl) (fun caps _ => ?_) (fun id q1 q2 => absurd q1 q2) (fun id hid => ?_)
  · show gHdnnn _ _ _
    rw [gHdnnn_text]
    exact .inl ⟨⟨con27⟩, _, ⟨conCEn⟩, bc_bne (fun _ => by first | rfl | trivial) (fun hc => absurd hc (by decide))⟩
  · have hid' : id = 0 ∨ id = 2 ∨ id = 6 := by simpa using hid
    rcases hid' with rfl | rfl | rfl
    · exact ⟨⟨Unit, fun _ => ([], []), fun _ => False, fun _ => 0, fun s b h => h.elim, [], [], by kernel_rfl, by kernel_rfl, fun _ h => h.elim⟩⟩
    · exact ⟨⟨Unit, fun _ => ([], []), fun _ => False, fun _ => 0, fun s b h => h.elim, [4], [4], by kernel_rfl, by kernel_rfl, fun _ h => h.elim⟩⟩
    · exact ⟨⟨Unit, fun _ => ([], []), fun _ => False, fun _ => 0, fun s b h => h.elim, [], [], by kernel_rfl, by kernel_rfl, fun _ h => h.elim⟩⟩
end Go.Proofs.G5b

/- TopGaugeHeld: whatever the input, it returns true, and the input reads as it did. No condition. -/
namespace Go.Proofs.Ytekodcjnlkfipaa.K
open Go Go.Abs Go.RowKit Go.ChangeShapes Go.WideShapes Go.ChangeAt Go.Proofs Go.Flat Go.Proofs.G5b
set_option maxRecDepth 100000
theorem shapes6 : Try.f6.params.toList.mapM (argSh Try.prog) = some [.agg [22], .one 25, .one 25] := by kernel_rfl
theorem held_args {ds : List D} (h : ShDs Try.prog [.agg [22], .one 25, .one 25] ds) : ∃ a b c : D, ds = [.agg [a], b, c] ∧ (a = .nil ∨ ∃ l : List Sv, a = .sl l.length 7 (vs7 l)) ∧ (b = .nil ∨ ∃ l : List Int, b = .sl l.length 1 (vi l)) ∧ (c = .nil ∨ ∃ l : List Int, c = .sl l.length 1 (vi l)) := by
  cases h with | cons h1 t => cases t with | cons h2 t => cases t with | cons h3 t =>
  cases t
  obtain ⟨d1, rfl, h1⟩ := h1
  cases h1 with | cons h1 t =>
  cases t
  exact ⟨_, _, _, rfl, leaf_svs Try.underlying22 (by kernel_rfl) h1, leaf_ints Try.underlying25 (by kernel_rfl) h2, leaf_ints Try.underlying25 (by kernel_rfl) h3⟩
theorem all6 (ds : List D) (h : ShDs Try.prog [.agg [22], .one 25, .one 25] ds) : Con Try.prog 6 ds [.val (.bool true)] := by
  obtain ⟨a, b, c, rfl, ha, hb, hc⟩ := held_args h
  rcases ha with rfl | ⟨l, rfl⟩ <;> rcases hb with rfl | ⟨m, rfl⟩ <;> rcases hc with rfl | ⟨o, rfl⟩
  · exact conHnnn
  · exact conHnns o
  · exact conHnsn m
  · exact conHnss m o
  · exact conHsnn l
  · exact conHsns l o
  · exact conHssn l m
  · exact conHd l m o
theorem lifted6 (os : Os) (started : os.Started) (H : Type) (enc : TypeId × Value → H) :
    ReturnsInHanded {} Try.checked os 6 .any (Rows.topGaugeHeldSpec.pre6 enc Try.prog Try.f6 Rows.topGaugeHeldRow.domain false) (Rows.topGaugeHeldSpec.post enc Try.prog Try.f6 false true false false) := by
  refine returnsInHanded_of_change (C := Try.checked) own started (by kernel_rfl) Try.func6
    (ChangeSpec.witness6 (enc := enc) (C := Try.checked) false ⟨#[], #[.agg #[.slice none 0 0], .slice none 0 0, .slice none 0 0], []⟩ 8 (by kernel_rfl) (by kernel_rfl) (by kernel_rfl) (by kernel_rfl)) ?_
  intro W base args ds gs before hval hW _ _
  exact law_shapes (tb := 4) (s := Rows.topGaugeHeldSpec) shapes6 all6 laidP mapsP slicesP (tsP (by kernel_rfl)) rfl Try.underlying4 rfl (fun ds h => by
    match ds, h with
    | [_, _, _], _ => exact ⟨rfl, rfl, rfl⟩) hval hW
theorem topGaugeHeld_holds : Rows.TopGaugeHeldSaid :=
  OpenClaim.holds_of_wide 6 Try.f6 rfl rfl rfl rfl rfl rfl rfl ⟨rfl, rfl, rfl, rfl, rfl⟩ rfl rfl rfl rfl rfl (by kernel_rfl) Try.func6 (by kernel_rfl)
    (of_decide_eq_true (by kernel_rfl)) (by unfold Func.isWrapper; first | (rw [if_pos (by decide +kernel)]; kernel_rfl) | (rw [if_neg (by decide +kernel)]; exact ⟨rfl, rfl⟩))
    (fun os started H enc _ => lifted6 os started H enc)
#print axioms topGaugeHeld_holds
end Go.Proofs.Ytekodcjnlkfipaa.K
