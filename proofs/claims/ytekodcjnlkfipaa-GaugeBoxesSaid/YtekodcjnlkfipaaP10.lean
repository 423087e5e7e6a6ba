/- Texts of the proof, put together: GbTD, G5Z, GbBB, GbTE, GbBC, GbKD. -/
import Derived.Test.YtekodcjnlkfipaaP9
import Derived.Test.YtekodcjnlkfipaaP4
/- What is left to show of each function, written out; the kernel reckons it. -/
namespace Go.Proofs.G5b
open Go Go.Abs Go.Proofs
set_option maxRecDepth 100000
set_option linter.unusedVariables false
def gRb (C : Ct) (L : AtLoop) (n0 : Nat) (c0 : Nat) (l0 : List Value) (n1 : Nat) (c1 : Nat) (l1 : List Value) (k : List D → Prop) : Prop := jFn Try.prog (hK C) L [] 23 #[.agg #[.slice (some ⟨500, 0, none⟩) n0 c0], .slice (some ⟨501, 0, none⟩) n1 c1] (heapOf [(500, .sym l0 false 7), (501, .sym l1 false 1)]) (dataK k)
theorem gRb_text (C : Ct) (L : AtLoop) (n0 : Nat) (c0 : Nat) (l0 : List Go.Value) (n1 : Nat) (c1 : Nat) (l1 : List Go.Value) (k : List D → Prop) : gRb C L n0 c0 l0 n1 c1 l1 k =
 (bcase ((↑n1 : Int) != (↑n0 : Int))
 (k [D.nil, (D.val (vI (10 : Int)))])
 (L 0 [(Prod.mk 1 (Go.Value.slice (Option.some (Go.Addr.mk 501 0 Option.none)) (n1) (c1))), (Prod.mk 2 (Go.Value.pointer (Option.some (Go.Addr.mk 1000 0 Option.none)))), (Prod.mk 6 (Go.Value.slice Option.none 0 0)), (Prod.mk 7 (vI (0 : Int)))] [(Prod.mk 501 (AObj.sym (l1) false 1)), (Prod.mk 1000 (AObj.cells [(Go.Value.slice (Option.some (Go.Addr.mk 500 0 Option.none)) (n0) (c0))] 24 false 1)), (Prod.mk 500 (AObj.sym (l0) false 7))])) := by kernel_rfl
abbrev zRb1 (n0 : Nat) (c1 : Nat) (x2 : Int) (l3 : List Value) (n4 : Nat) (c5 : Nat) (l6 : List Value) : Slots × Blocks := ([(1, (Value.slice (some ⟨501, 0, none⟩) n0 c1)), (2, (Value.pointer (some ⟨1000, 0, none⟩))), (6, (Value.slice none 0 0)), (7, (Value.int .i64 x2))], [(501, (AObj.sym l3 false 1)), (1000, (AObj.cells [(Value.slice (some ⟨500, 0, none⟩) n4 c5)] 24 false 1)), (500, (AObj.sym l6 false 7))])
def rRb1 (C : Ct) (L : AtLoop) (n0 : Nat) (c1 : Nat) (x2 : Int) (l3 : List Value) (n4 : Nat) (c5 : Nat) (l6 : List Value) (B : Bx) (X : Xx) (k : List D → Prop) : Prop := jRound Try.prog (hK C) L [] 23 0 [(1, (Value.slice (some ⟨501, 0, none⟩) n0 c1)), (2, (Value.pointer (some ⟨1000, 0, none⟩))), (6, (Value.slice none 0 0)), (7, (Value.int .i64 x2))] [(501, (AObj.sym l3 false 1)), (1000, (AObj.cells [(Value.slice (some ⟨500, 0, none⟩) n4 c5)] 24 false 1)), (500, (AObj.sym l6 false 7))] B X (dataK k)
theorem rRb1_text (C : Ct) (L : AtLoop) (n0 : Nat) (c1 : Nat) (x2 : Int) (l3 : List Go.Value) (n4 : Nat) (c5 : Nat) (l6 : List Go.Value) (B : Bx) (X : Xx) (k : List D → Prop) : rRb1 C L n0 c1 x2 l3 n4 c5 l6 B X k =
 (bcase (decide (x2 < (↑n0 : Int)))
 (bcase (decide (0 ≤ x2))
 (bcase (decide (x2 < (↑n0 : Int)))
 (∃ n1 : Int,
 ((At (l3) (0 + Int.toNat x2 * 1) 1 [(vI n1)]) ∧
 (bcase (decide (0 ≤ x2))
 (bcase (decide (x2 < (↑n4 : Int)))
 (∃ n2 : Int,
 ((At (l6) (Go.Addr.off { block := 500, off := 0 + Int.toNat x2 * 7 } + 5) 1 [(vI n2)]) ∧
 (bcase (decide (0 ≤ x2))
 (bcase (decide (x2 < (↑n4 : Int)))
 (∃ n3 : Int,
 ((At (l6) (Go.Addr.off (Go.Addr.add { block := 500, off := 0 + Int.toNat x2 * 7 } 5) + 1) 1 [(vI n3)]) ∧
 (((∃ n5 : Int,
 ((At (l6) (Go.Addr.off (Go.Addr.add { block := 500, off := 0 + Int.toNat x2 * 7 } 5) + 1) 1 [(vI n5)]) ∧
 ((vI n5) = (vI n3)))) ∧
 (((Go.Value.pointer (Option.some (Go.Addr.mk 500 (Go.Addr.off { block := 500, off := Go.Addr.off { block := 500, off := 0 + Int.toNat x2 * 7 } + 5 } + 1) Option.none))) = (Go.Value.pointer (Option.some (Go.Addr.mk 500 (Go.Addr.off (Go.Addr.add { block := 500, off := 0 + Int.toNat x2 * 7 } 5) + 1) Option.none)))) ∧
 (((Go.Value.pointer (Option.some (Go.Addr.mk 500 (Go.Addr.off { block := 500, off := 0 + Int.toNat x2 * 7 } + 5) Option.none))) = (Go.Value.pointer (Option.some (Go.Addr.mk 500 (Go.Addr.off { block := 500, off := 0 + Int.toNat x2 * 7 } + 5) Option.none)))) ∧
 ((bcase (decide (0 ≤ x2))
 (bcase (decide (x2 < (↑n4 : Int)))
 ((Go.Value.pointer (Option.some (Go.Addr.mk 500 (0 + Int.toNat x2 * 7) Option.none))) = (Go.Value.pointer (Option.some (Go.Addr.mk 500 (0 + Int.toNat x2 * 7) Option.none))))
 False)
 False) ∧
 (((vI x2) = (vI x2)) ∧
 (((Go.Value.slice (Option.some (Go.Addr.mk 500 0 Option.none)) (n4) (c5)) = (Go.Value.slice (Option.some (Go.Addr.mk 500 0 Option.none)) (n4) (c5))) ∧
 (((Go.Value.pointer (Option.some (Go.Addr.mk 1000 0 Option.none))) = (Go.Value.pointer (Option.some (Go.Addr.mk 1000 0 Option.none)))) ∧
 ((∃ n5 : Int,
 ((At (l6) (Go.Addr.off { block := 500, off := 0 + Int.toNat x2 * 7 } + 5) 1 [(vI n5)]) ∧
 ((vI n5) = (vI n2)))) ∧
 (((Go.Value.pointer (Option.some (Go.Addr.mk 500 (Go.Addr.off { block := 500, off := 0 + Int.toNat x2 * 7 } + 5) Option.none))) = (Go.Value.pointer (Option.some (Go.Addr.mk 500 (Go.Addr.off { block := 500, off := 0 + Int.toNat x2 * 7 } + 5) Option.none)))) ∧
 (((Go.Value.pointer (Option.some (Go.Addr.mk 500 (Go.Addr.off { block := 500, off := 0 + Int.toNat x2 * 7 } + 5) Option.none))) = (Go.Value.pointer (Option.some (Go.Addr.mk 500 (Go.Addr.off { block := 500, off := 0 + Int.toNat x2 * 7 } + 5) Option.none)))) ∧
 ((bcase (decide (0 ≤ x2))
 (bcase (decide (x2 < (↑n4 : Int)))
 ((Go.Value.pointer (Option.some (Go.Addr.mk 500 (0 + Int.toNat x2 * 7) Option.none))) = (Go.Value.pointer (Option.some (Go.Addr.mk 500 (0 + Int.toNat x2 * 7) Option.none))))
 False)
 False) ∧
 (((vI x2) = (vI x2)) ∧
 (((Go.Value.slice (Option.some (Go.Addr.mk 500 0 Option.none)) (n4) (c5)) = (Go.Value.slice (Option.some (Go.Addr.mk 500 0 Option.none)) (n4) (c5))) ∧
 (((Go.Value.pointer (Option.some (Go.Addr.mk 1000 0 Option.none))) = (Go.Value.pointer (Option.some (Go.Addr.mk 1000 0 Option.none)))) ∧
 ((∃ n5 : Int,
 ((At (l3) (0 + Int.toNat x2 * 1) 1 [(vI n5)]) ∧
 ((vI n5) = (vI n1)))) ∧
 ((bcase (decide (0 ≤ x2))
 (bcase (decide (x2 < (↑n0 : Int)))
 ((Go.Value.pointer (Option.some (Go.Addr.mk 501 (0 + Int.toNat x2 * 1) Option.none))) = (Go.Value.pointer (Option.some (Go.Addr.mk 501 (0 + Int.toNat x2 * 1) Option.none))))
 False)
 False) ∧
 (((vI x2) = (vI x2)) ∧
 (((Go.Value.slice (Option.some (Go.Addr.mk 501 0 Option.none)) (n0) (c1)) = (Go.Value.slice (Option.some (Go.Addr.mk 501 0 Option.none)) (n0) (c1))) ∧
 True)))))))))))))))))) ∧
 (((Says C 26 [(D.val (vI n1)), (D.val (vI n2)), (D.val (vI n3))] [(D.val (Value.bool true))]) ∧
 ((((Value.bool false) = (Value.bool false)) ∧
 (((Go.Value.pointer (Option.some (Go.Addr.mk 500 (Go.Addr.off { block := 500, off := Go.Addr.off { block := 500, off := 0 + Int.toNat x2 * 7 } + 5 } + 1) Option.none))) = (Go.Value.pointer (Option.some (Go.Addr.mk 500 (Go.Addr.off (Go.Addr.add { block := 500, off := 0 + Int.toNat x2 * 7 } 5) + 1) Option.none)))) ∧
 (((Go.Value.pointer (Option.some (Go.Addr.mk 500 (Go.Addr.off { block := 500, off := 0 + Int.toNat x2 * 7 } + 5) Option.none))) = (Go.Value.pointer (Option.some (Go.Addr.mk 500 (Go.Addr.off { block := 500, off := 0 + Int.toNat x2 * 7 } + 5) Option.none)))) ∧
 ((bcase (decide (0 ≤ x2))
 (bcase (decide (x2 < (↑n4 : Int)))
 ((Go.Value.pointer (Option.some (Go.Addr.mk 500 (0 + Int.toNat x2 * 7) Option.none))) = (Go.Value.pointer (Option.some (Go.Addr.mk 500 (0 + Int.toNat x2 * 7) Option.none))))
 False)
 False) ∧
 (((vI x2) = (vI x2)) ∧
 (((Go.Value.slice (Option.some (Go.Addr.mk 500 0 Option.none)) (n4) (c5)) = (Go.Value.slice (Option.some (Go.Addr.mk 500 0 Option.none)) (n4) (c5))) ∧
 (((Go.Value.pointer (Option.some (Go.Addr.mk 1000 0 Option.none))) = (Go.Value.pointer (Option.some (Go.Addr.mk 1000 0 Option.none)))) ∧
 (((Go.Value.pointer (Option.some (Go.Addr.mk 500 (Go.Addr.off { block := 500, off := 0 + Int.toNat x2 * 7 } + 5) Option.none))) = (Go.Value.pointer (Option.some (Go.Addr.mk 500 (Go.Addr.off { block := 500, off := 0 + Int.toNat x2 * 7 } + 5) Option.none)))) ∧
 (((Go.Value.pointer (Option.some (Go.Addr.mk 500 (Go.Addr.off { block := 500, off := 0 + Int.toNat x2 * 7 } + 5) Option.none))) = (Go.Value.pointer (Option.some (Go.Addr.mk 500 (Go.Addr.off { block := 500, off := 0 + Int.toNat x2 * 7 } + 5) Option.none)))) ∧
 ((bcase (decide (0 ≤ x2))
 (bcase (decide (x2 < (↑n4 : Int)))
 ((Go.Value.pointer (Option.some (Go.Addr.mk 500 (0 + Int.toNat x2 * 7) Option.none))) = (Go.Value.pointer (Option.some (Go.Addr.mk 500 (0 + Int.toNat x2 * 7) Option.none))))
 False)
 False) ∧
 (((vI x2) = (vI x2)) ∧
 (((Go.Value.slice (Option.some (Go.Addr.mk 500 0 Option.none)) (n4) (c5)) = (Go.Value.slice (Option.some (Go.Addr.mk 500 0 Option.none)) (n4) (c5))) ∧
 (((Go.Value.pointer (Option.some (Go.Addr.mk 1000 0 Option.none))) = (Go.Value.pointer (Option.some (Go.Addr.mk 1000 0 Option.none)))) ∧
 ((bcase (decide (0 ≤ x2))
 (bcase (decide (x2 < (↑n0 : Int)))
 ((Go.Value.pointer (Option.some (Go.Addr.mk 501 (0 + Int.toNat x2 * 1) Option.none))) = (Go.Value.pointer (Option.some (Go.Addr.mk 501 (0 + Int.toNat x2 * 1) Option.none))))
 False)
 False) ∧
 (((vI x2) = (vI x2)) ∧
 (((Go.Value.slice (Option.some (Go.Addr.mk 501 0 Option.none)) (n0) (c1)) = (Go.Value.slice (Option.some (Go.Addr.mk 501 0 Option.none)) (n0) (c1))) ∧
 True)))))))))))))))) ∧
 (bcase (decide (0 ≤ x2))
 (bcase (decide (x2 < (↑n0 : Int)))
 (∃ n5 : Int,
 ((At (l3) (0 + Int.toNat x2 * 1) 1 [(vI n5)]) ∧
 (bcase (decide (0 ≤ x2))
 (bcase (decide (x2 < (↑n0 : Int)))
 (∃ n6 : Int,
 ((At (l3) (0 + Int.toNat x2 * 1) 1 [(vI n6)]) ∧
 (((((Go.Value.slice (Option.some (Go.Addr.mk 1001 0 Option.none)) 1 1) = (Go.Value.slice (Option.some (Go.Addr.mk 1001 0 Option.none)) 1 1)) ∧
 ((Option.some (AObj.cells [(vI n5), (vI n6)] 56 false 2)) = (Option.some (AObj.cells [(vI n5), (vI n6)] 56 false 2)))) ∧
 (((Go.Value.agg [(vI n5), (vI n6)].toArray) = (Go.Value.agg [(vI n5), (vI n6)].toArray)) ∧
 ((∃ n7 : Int,
 ((At (l3) (0 + Int.toNat x2 * 1) 1 [(vI n7)]) ∧
 ((vI n7) = (vI n6)))) ∧
 ((bcase (decide (0 ≤ x2))
 (bcase (decide (x2 < (↑n0 : Int)))
 ((Go.Value.pointer (Option.some (Go.Addr.mk 501 (0 + Int.toNat x2 * 1) Option.none))) = (Go.Value.pointer (Option.some (Go.Addr.mk 501 (0 + Int.toNat x2 * 1) Option.none))))
 False)
 False) ∧
 (((vI x2) = (vI x2)) ∧
 (((Go.Value.slice (Option.some (Go.Addr.mk 501 0 Option.none)) (n0) (c1)) = (Go.Value.slice (Option.some (Go.Addr.mk 501 0 Option.none)) (n0) (c1))) ∧
 ((∃ n7 : Int,
 ((At (l3) (0 + Int.toNat x2 * 1) 1 [(vI n7)]) ∧
 ((vI n7) = (vI n5)))) ∧
 ((bcase (decide (0 ≤ x2))
 (bcase (decide (x2 < (↑n0 : Int)))
 ((Go.Value.pointer (Option.some (Go.Addr.mk 501 (0 + Int.toNat x2 * 1) Option.none))) = (Go.Value.pointer (Option.some (Go.Addr.mk 501 (0 + Int.toNat x2 * 1) Option.none))))
 False)
 False) ∧
 (((vI x2) = (vI x2)) ∧
 (((Go.Value.slice (Option.some (Go.Addr.mk 501 0 Option.none)) (n0) (c1)) = (Go.Value.slice (Option.some (Go.Addr.mk 501 0 Option.none)) (n0) (c1))) ∧
 (((Go.Value.slice Option.none 0 0) = (Go.Value.slice Option.none 0 0)) ∧
 True))))))))))) ∧
 ((((Go.Value.agg [(vI n5), (vI n6)].toArray) = (Go.Value.agg [(vI n5), (vI n6)].toArray)) ∧
 ((∃ n7 : Int,
 ((At (l3) (0 + Int.toNat x2 * 1) 1 [(vI n7)]) ∧
 ((vI n7) = (vI n6)))) ∧
 ((bcase (decide (0 ≤ x2))
 (bcase (decide (x2 < (↑n0 : Int)))
 ((Go.Value.pointer (Option.some (Go.Addr.mk 501 (0 + Int.toNat x2 * 1) Option.none))) = (Go.Value.pointer (Option.some (Go.Addr.mk 501 (0 + Int.toNat x2 * 1) Option.none))))
 False)
 False) ∧
 (((vI x2) = (vI x2)) ∧
 (((Go.Value.slice (Option.some (Go.Addr.mk 501 0 Option.none)) (n0) (c1)) = (Go.Value.slice (Option.some (Go.Addr.mk 501 0 Option.none)) (n0) (c1))) ∧
 ((∃ n7 : Int,
 ((At (l3) (0 + Int.toNat x2 * 1) 1 [(vI n7)]) ∧
 ((vI n7) = (vI n5)))) ∧
 ((bcase (decide (0 ≤ x2))
 (bcase (decide (x2 < (↑n0 : Int)))
 ((Go.Value.pointer (Option.some (Go.Addr.mk 501 (0 + Int.toNat x2 * 1) Option.none))) = (Go.Value.pointer (Option.some (Go.Addr.mk 501 (0 + Int.toNat x2 * 1) Option.none))))
 False)
 False) ∧
 (((vI x2) = (vI x2)) ∧
 (((Go.Value.slice (Option.some (Go.Addr.mk 501 0 Option.none)) (n0) (c1)) = (Go.Value.slice (Option.some (Go.Addr.mk 501 0 Option.none)) (n0) (c1))) ∧
 True))))))))) ∧
 (True ∧
 (B [(Prod.mk 1 (Go.Value.slice (Option.some (Go.Addr.mk 501 0 Option.none)) (n0) (c1))), (Prod.mk 2 (Go.Value.pointer (Option.some (Go.Addr.mk 1000 0 Option.none)))), (Prod.mk 6 (Go.Value.slice (Option.some (Go.Addr.mk 1001 0 Option.none)) 1 1)), (Prod.mk 7 (vI (IntKind.wrap .i64 (x2 + 1))))] [(Prod.mk 501 (AObj.sym (l3) false 1)), (Prod.mk 1000 (AObj.cells [(Go.Value.slice (Option.some (Go.Addr.mk 500 0 Option.none)) (n4) (c5))] 24 false 1)), (Prod.mk 1001 (AObj.sym [(vI n5), (vI n6)] true 2)), (Prod.mk 500 (AObj.sym (l6) false 7))]))))))
 False)
 False)))
 False)
 False))) ∨
 ((Says C 26 [(D.val (vI n1)), (D.val (vI n2)), (D.val (vI n3))] [(D.val (Value.bool false))]) ∧
 ((((Value.bool true) = (Value.bool true)) ∧
 (((Go.Value.pointer (Option.some (Go.Addr.mk 500 (Go.Addr.off { block := 500, off := Go.Addr.off { block := 500, off := 0 + Int.toNat x2 * 7 } + 5 } + 1) Option.none))) = (Go.Value.pointer (Option.some (Go.Addr.mk 500 (Go.Addr.off (Go.Addr.add { block := 500, off := 0 + Int.toNat x2 * 7 } 5) + 1) Option.none)))) ∧
 (((Go.Value.pointer (Option.some (Go.Addr.mk 500 (Go.Addr.off { block := 500, off := 0 + Int.toNat x2 * 7 } + 5) Option.none))) = (Go.Value.pointer (Option.some (Go.Addr.mk 500 (Go.Addr.off { block := 500, off := 0 + Int.toNat x2 * 7 } + 5) Option.none)))) ∧
 ((bcase (decide (0 ≤ x2))
 (bcase (decide (x2 < (↑n4 : Int)))
 ((Go.Value.pointer (Option.some (Go.Addr.mk 500 (0 + Int.toNat x2 * 7) Option.none))) = (Go.Value.pointer (Option.some (Go.Addr.mk 500 (0 + Int.toNat x2 * 7) Option.none))))
 False)
 False) ∧
 (((vI x2) = (vI x2)) ∧
 (((Go.Value.slice (Option.some (Go.Addr.mk 500 0 Option.none)) (n4) (c5)) = (Go.Value.slice (Option.some (Go.Addr.mk 500 0 Option.none)) (n4) (c5))) ∧
 (((Go.Value.pointer (Option.some (Go.Addr.mk 1000 0 Option.none))) = (Go.Value.pointer (Option.some (Go.Addr.mk 1000 0 Option.none)))) ∧
 (((Go.Value.pointer (Option.some (Go.Addr.mk 500 (Go.Addr.off { block := 500, off := 0 + Int.toNat x2 * 7 } + 5) Option.none))) = (Go.Value.pointer (Option.some (Go.Addr.mk 500 (Go.Addr.off { block := 500, off := 0 + Int.toNat x2 * 7 } + 5) Option.none)))) ∧
 (((Go.Value.pointer (Option.some (Go.Addr.mk 500 (Go.Addr.off { block := 500, off := 0 + Int.toNat x2 * 7 } + 5) Option.none))) = (Go.Value.pointer (Option.some (Go.Addr.mk 500 (Go.Addr.off { block := 500, off := 0 + Int.toNat x2 * 7 } + 5) Option.none)))) ∧
 ((bcase (decide (0 ≤ x2))
 (bcase (decide (x2 < (↑n4 : Int)))
 ((Go.Value.pointer (Option.some (Go.Addr.mk 500 (0 + Int.toNat x2 * 7) Option.none))) = (Go.Value.pointer (Option.some (Go.Addr.mk 500 (0 + Int.toNat x2 * 7) Option.none))))
 False)
 False) ∧
 (((vI x2) = (vI x2)) ∧
 (((Go.Value.slice (Option.some (Go.Addr.mk 500 0 Option.none)) (n4) (c5)) = (Go.Value.slice (Option.some (Go.Addr.mk 500 0 Option.none)) (n4) (c5))) ∧
 (((Go.Value.pointer (Option.some (Go.Addr.mk 1000 0 Option.none))) = (Go.Value.pointer (Option.some (Go.Addr.mk 1000 0 Option.none)))) ∧
 ((bcase (decide (0 ≤ x2))
 (bcase (decide (x2 < (↑n0 : Int)))
 ((Go.Value.pointer (Option.some (Go.Addr.mk 501 (0 + Int.toNat x2 * 1) Option.none))) = (Go.Value.pointer (Option.some (Go.Addr.mk 501 (0 + Int.toNat x2 * 1) Option.none))))
 False)
 False) ∧
 (((vI x2) = (vI x2)) ∧
 (((Go.Value.slice (Option.some (Go.Addr.mk 501 0 Option.none)) (n0) (c1)) = (Go.Value.slice (Option.some (Go.Addr.mk 501 0 Option.none)) (n0) (c1))) ∧
 True)))))))))))))))) ∧
 (k [D.nil, (D.val (vI (22 : Int)))])))))))
 False)
 False)))
 False)
 False)))
 False)
 False)
 (X 0 [(Prod.mk 2 (Go.Value.pointer (Option.some (Go.Addr.mk 1000 0 Option.none)))), (Prod.mk 6 (Go.Value.slice Option.none 0 0))] [(Prod.mk 1000 (AObj.cells [(Go.Value.slice (Option.some (Go.Addr.mk 500 0 Option.none)) (n4) (c5))] 24 false 1)), (Prod.mk 500 (AObj.sym (l6) false 7))])) := by kernel_rfl
abbrev zRb2 (n0 : Nat) (c1 : Nat) (n2 : Nat) (x3 : Int) (l4 : List Value) (n5 : Nat) (c6 : Nat) (l7 : List Value) (l8 : List Value) : Slots × Blocks := ([(1, (Value.slice (some ⟨501, 0, none⟩) n0 c1)), (2, (Value.pointer (some ⟨1000, 0, none⟩))), (6, (Value.slice (some ⟨1001, 0, none⟩) n2 n2)), (7, (Value.int .i64 x3))], [(501, (AObj.sym l4 false 1)), (1000, (AObj.cells [(Value.slice (some ⟨500, 0, none⟩) n5 c6)] 24 false 1)), (1001, (AObj.sym l7 true 2)), (500, (AObj.sym l8 false 7))])
def rRb2 (C : Ct) (L : AtLoop) (n0 : Nat) (c1 : Nat) (n2 : Nat) (x3 : Int) (l4 : List Value) (n5 : Nat) (c6 : Nat) (l7 : List Value) (l8 : List Value) (B : Bx) (X : Xx) (k : List D → Prop) : Prop := jRound Try.prog (hK C) L [] 23 0 [(1, (Value.slice (some ⟨501, 0, none⟩) n0 c1)), (2, (Value.pointer (some ⟨1000, 0, none⟩))), (6, (Value.slice (some ⟨1001, 0, none⟩) n2 n2)), (7, (Value.int .i64 x3))] [(501, (AObj.sym l4 false 1)), (1000, (AObj.cells [(Value.slice (some ⟨500, 0, none⟩) n5 c6)] 24 false 1)), (1001, (AObj.sym l7 true 2)), (500, (AObj.sym l8 false 7))] B X (dataK k)
theorem rRb2_text (C : Ct) (L : AtLoop) (n0 : Nat) (c1 : Nat) (n2 : Nat) (x3 : Int) (l4 : List Go.Value) (n5 : Nat) (c6 : Nat) (l7 : List Go.Value) (l8 : List Go.Value) (B : Bx) (X : Xx) (k : List D → Prop) : rRb2 C L n0 c1 n2 x3 l4 n5 c6 l7 l8 B X k =
 (bcase (decide (x3 < (↑n0 : Int)))
 (bcase (decide (0 ≤ x3))
 (bcase (decide (x3 < (↑n0 : Int)))
 (∃ n1 : Int,
 ((At (l4) (0 + Int.toNat x3 * 1) 1 [(vI n1)]) ∧
 (bcase (decide (0 ≤ x3))
 (bcase (decide (x3 < (↑n5 : Int)))
 (∃ n3 : Int,
 ((At (l8) (Go.Addr.off { block := 500, off := 0 + Int.toNat x3 * 7 } + 5) 1 [(vI n3)]) ∧
 (bcase (decide (0 ≤ x3))
 (bcase (decide (x3 < (↑n5 : Int)))
 (∃ n4 : Int,
 ((At (l8) (Go.Addr.off (Go.Addr.add { block := 500, off := 0 + Int.toNat x3 * 7 } 5) + 1) 1 [(vI n4)]) ∧
 (((∃ n6 : Int,
 ((At (l8) (Go.Addr.off (Go.Addr.add { block := 500, off := 0 + Int.toNat x3 * 7 } 5) + 1) 1 [(vI n6)]) ∧
 ((vI n6) = (vI n4)))) ∧
 (((Go.Value.pointer (Option.some (Go.Addr.mk 500 (Go.Addr.off { block := 500, off := Go.Addr.off { block := 500, off := 0 + Int.toNat x3 * 7 } + 5 } + 1) Option.none))) = (Go.Value.pointer (Option.some (Go.Addr.mk 500 (Go.Addr.off (Go.Addr.add { block := 500, off := 0 + Int.toNat x3 * 7 } 5) + 1) Option.none)))) ∧
 (((Go.Value.pointer (Option.some (Go.Addr.mk 500 (Go.Addr.off { block := 500, off := 0 + Int.toNat x3 * 7 } + 5) Option.none))) = (Go.Value.pointer (Option.some (Go.Addr.mk 500 (Go.Addr.off { block := 500, off := 0 + Int.toNat x3 * 7 } + 5) Option.none)))) ∧
 ((bcase (decide (0 ≤ x3))
 (bcase (decide (x3 < (↑n5 : Int)))
 ((Go.Value.pointer (Option.some (Go.Addr.mk 500 (0 + Int.toNat x3 * 7) Option.none))) = (Go.Value.pointer (Option.some (Go.Addr.mk 500 (0 + Int.toNat x3 * 7) Option.none))))
 False)
 False) ∧
 (((vI x3) = (vI x3)) ∧
 (((Go.Value.slice (Option.some (Go.Addr.mk 500 0 Option.none)) (n5) (c6)) = (Go.Value.slice (Option.some (Go.Addr.mk 500 0 Option.none)) (n5) (c6))) ∧
 (((Go.Value.pointer (Option.some (Go.Addr.mk 1000 0 Option.none))) = (Go.Value.pointer (Option.some (Go.Addr.mk 1000 0 Option.none)))) ∧
 ((∃ n6 : Int,
 ((At (l8) (Go.Addr.off { block := 500, off := 0 + Int.toNat x3 * 7 } + 5) 1 [(vI n6)]) ∧
 ((vI n6) = (vI n3)))) ∧
 (((Go.Value.pointer (Option.some (Go.Addr.mk 500 (Go.Addr.off { block := 500, off := 0 + Int.toNat x3 * 7 } + 5) Option.none))) = (Go.Value.pointer (Option.some (Go.Addr.mk 500 (Go.Addr.off { block := 500, off := 0 + Int.toNat x3 * 7 } + 5) Option.none)))) ∧
 (((Go.Value.pointer (Option.some (Go.Addr.mk 500 (Go.Addr.off { block := 500, off := 0 + Int.toNat x3 * 7 } + 5) Option.none))) = (Go.Value.pointer (Option.some (Go.Addr.mk 500 (Go.Addr.off { block := 500, off := 0 + Int.toNat x3 * 7 } + 5) Option.none)))) ∧
 ((bcase (decide (0 ≤ x3))
 (bcase (decide (x3 < (↑n5 : Int)))
 ((Go.Value.pointer (Option.some (Go.Addr.mk 500 (0 + Int.toNat x3 * 7) Option.none))) = (Go.Value.pointer (Option.some (Go.Addr.mk 500 (0 + Int.toNat x3 * 7) Option.none))))
 False)
 False) ∧
 (((vI x3) = (vI x3)) ∧
 (((Go.Value.slice (Option.some (Go.Addr.mk 500 0 Option.none)) (n5) (c6)) = (Go.Value.slice (Option.some (Go.Addr.mk 500 0 Option.none)) (n5) (c6))) ∧
 (((Go.Value.pointer (Option.some (Go.Addr.mk 1000 0 Option.none))) = (Go.Value.pointer (Option.some (Go.Addr.mk 1000 0 Option.none)))) ∧
 ((∃ n6 : Int,
 ((At (l4) (0 + Int.toNat x3 * 1) 1 [(vI n6)]) ∧
 ((vI n6) = (vI n1)))) ∧
 ((bcase (decide (0 ≤ x3))
 (bcase (decide (x3 < (↑n0 : Int)))
 ((Go.Value.pointer (Option.some (Go.Addr.mk 501 (0 + Int.toNat x3 * 1) Option.none))) = (Go.Value.pointer (Option.some (Go.Addr.mk 501 (0 + Int.toNat x3 * 1) Option.none))))
 False)
 False) ∧
 (((vI x3) = (vI x3)) ∧
 (((Go.Value.slice (Option.some (Go.Addr.mk 501 0 Option.none)) (n0) (c1)) = (Go.Value.slice (Option.some (Go.Addr.mk 501 0 Option.none)) (n0) (c1))) ∧
 True)))))))))))))))))) ∧
 (((Says C 26 [(D.val (vI n1)), (D.val (vI n3)), (D.val (vI n4))] [(D.val (Value.bool true))]) ∧
 ((((Value.bool false) = (Value.bool false)) ∧
 (((Go.Value.pointer (Option.some (Go.Addr.mk 500 (Go.Addr.off { block := 500, off := Go.Addr.off { block := 500, off := 0 + Int.toNat x3 * 7 } + 5 } + 1) Option.none))) = (Go.Value.pointer (Option.some (Go.Addr.mk 500 (Go.Addr.off (Go.Addr.add { block := 500, off := 0 + Int.toNat x3 * 7 } 5) + 1) Option.none)))) ∧
 (((Go.Value.pointer (Option.some (Go.Addr.mk 500 (Go.Addr.off { block := 500, off := 0 + Int.toNat x3 * 7 } + 5) Option.none))) = (Go.Value.pointer (Option.some (Go.Addr.mk 500 (Go.Addr.off { block := 500, off := 0 + Int.toNat x3 * 7 } + 5) Option.none)))) ∧
 ((bcase (decide (0 ≤ x3))
 (bcase (decide (x3 < (↑n5 : Int)))
 ((Go.Value.pointer (Option.some (Go.Addr.mk 500 (0 + Int.toNat x3 * 7) Option.none))) = (Go.Value.pointer (Option.some (Go.Addr.mk 500 (0 + Int.toNat x3 * 7) Option.none))))
 False)
 False) ∧
 (((vI x3) = (vI x3)) ∧
 (((Go.Value.slice (Option.some (Go.Addr.mk 500 0 Option.none)) (n5) (c6)) = (Go.Value.slice (Option.some (Go.Addr.mk 500 0 Option.none)) (n5) (c6))) ∧
 (((Go.Value.pointer (Option.some (Go.Addr.mk 1000 0 Option.none))) = (Go.Value.pointer (Option.some (Go.Addr.mk 1000 0 Option.none)))) ∧
 (((Go.Value.pointer (Option.some (Go.Addr.mk 500 (Go.Addr.off { block := 500, off := 0 + Int.toNat x3 * 7 } + 5) Option.none))) = (Go.Value.pointer (Option.some (Go.Addr.mk 500 (Go.Addr.off { block := 500, off := 0 + Int.toNat x3 * 7 } + 5) Option.none)))) ∧
 (((Go.Value.pointer (Option.some (Go.Addr.mk 500 (Go.Addr.off { block := 500, off := 0 + Int.toNat x3 * 7 } + 5) Option.none))) = (Go.Value.pointer (Option.some (Go.Addr.mk 500 (Go.Addr.off { block := 500, off := 0 + Int.toNat x3 * 7 } + 5) Option.none)))) ∧
 ((bcase (decide (0 ≤ x3))
 (bcase (decide (x3 < (↑n5 : Int)))
 ((Go.Value.pointer (Option.some (Go.Addr.mk 500 (0 + Int.toNat x3 * 7) Option.none))) = (Go.Value.pointer (Option.some (Go.Addr.mk 500 (0 + Int.toNat x3 * 7) Option.none))))
 False)
 False) ∧
 (((vI x3) = (vI x3)) ∧
 (((Go.Value.slice (Option.some (Go.Addr.mk 500 0 Option.none)) (n5) (c6)) = (Go.Value.slice (Option.some (Go.Addr.mk 500 0 Option.none)) (n5) (c6))) ∧
 (((Go.Value.pointer (Option.some (Go.Addr.mk 1000 0 Option.none))) = (Go.Value.pointer (Option.some (Go.Addr.mk 1000 0 Option.none)))) ∧
 ((bcase (decide (0 ≤ x3))
 (bcase (decide (x3 < (↑n0 : Int)))
 ((Go.Value.pointer (Option.some (Go.Addr.mk 501 (0 + Int.toNat x3 * 1) Option.none))) = (Go.Value.pointer (Option.some (Go.Addr.mk 501 (0 + Int.toNat x3 * 1) Option.none))))
 False)
 False) ∧
 (((vI x3) = (vI x3)) ∧
 (((Go.Value.slice (Option.some (Go.Addr.mk 501 0 Option.none)) (n0) (c1)) = (Go.Value.slice (Option.some (Go.Addr.mk 501 0 Option.none)) (n0) (c1))) ∧
 True)))))))))))))))) ∧
 (bcase (decide (0 ≤ x3))
 (bcase (decide (x3 < (↑n0 : Int)))
 (∃ n6 : Int,
 ((At (l4) (0 + Int.toNat x3 * 1) 1 [(vI n6)]) ∧
 (bcase (decide (0 ≤ x3))
 (bcase (decide (x3 < (↑n0 : Int)))
 (∃ n7 : Int,
 ((At (l4) (0 + Int.toNat x3 * 1) 1 [(vI n7)]) ∧
 (((((Go.Value.slice (Option.some (Go.Addr.mk 1002 0 Option.none)) 1 1) = (Go.Value.slice (Option.some (Go.Addr.mk 1002 0 Option.none)) 1 1)) ∧
 ((Option.some (AObj.cells [(vI n6), (vI n7)] 56 false 2)) = (Option.some (AObj.cells [(vI n6), (vI n7)] 56 false 2)))) ∧
 (((Go.Value.agg [(vI n6), (vI n7)].toArray) = (Go.Value.agg [(vI n6), (vI n7)].toArray)) ∧
 ((∃ n8 : Int,
 ((At (l4) (0 + Int.toNat x3 * 1) 1 [(vI n8)]) ∧
 ((vI n8) = (vI n7)))) ∧
 ((bcase (decide (0 ≤ x3))
 (bcase (decide (x3 < (↑n0 : Int)))
 ((Go.Value.pointer (Option.some (Go.Addr.mk 501 (0 + Int.toNat x3 * 1) Option.none))) = (Go.Value.pointer (Option.some (Go.Addr.mk 501 (0 + Int.toNat x3 * 1) Option.none))))
 False)
 False) ∧
 (((vI x3) = (vI x3)) ∧
 (((Go.Value.slice (Option.some (Go.Addr.mk 501 0 Option.none)) (n0) (c1)) = (Go.Value.slice (Option.some (Go.Addr.mk 501 0 Option.none)) (n0) (c1))) ∧
 ((∃ n8 : Int,
 ((At (l4) (0 + Int.toNat x3 * 1) 1 [(vI n8)]) ∧
 ((vI n8) = (vI n6)))) ∧
 ((bcase (decide (0 ≤ x3))
 (bcase (decide (x3 < (↑n0 : Int)))
 ((Go.Value.pointer (Option.some (Go.Addr.mk 501 (0 + Int.toNat x3 * 1) Option.none))) = (Go.Value.pointer (Option.some (Go.Addr.mk 501 (0 + Int.toNat x3 * 1) Option.none))))
 False)
 False) ∧
 (((vI x3) = (vI x3)) ∧
 (((Go.Value.slice (Option.some (Go.Addr.mk 501 0 Option.none)) (n0) (c1)) = (Go.Value.slice (Option.some (Go.Addr.mk 501 0 Option.none)) (n0) (c1))) ∧
 (((Go.Value.slice (Option.some (Go.Addr.mk 1001 0 Option.none)) (n2) (n2)) = (Go.Value.slice (Option.some (Go.Addr.mk 1001 0 Option.none)) (n2) (n2))) ∧
 True))))))))))) ∧
 (bcase (decide (n2 < n2 + 1))
 (bcase (decide ((2 * (n2 + 1) + 768) * 16 ≤ 281474976710656))
 (bcase (decide (n2 + 1 ≤ 1099511627776))
 (bcase (decide (0 + n2 * 2 ≤ List.length l7))
 (bcase (decide (0 + n2 * 2 = List.length l7))
 ((((Go.Value.agg [(vI n6), (vI n7)].toArray) = (Go.Value.agg [(vI n6), (vI n7)].toArray)) ∧
 ((∃ n8 : Int,
 ((At (l4) (0 + Int.toNat x3 * 1) 1 [(vI n8)]) ∧
 ((vI n8) = (vI n7)))) ∧
 ((bcase (decide (0 ≤ x3))
 (bcase (decide (x3 < (↑n0 : Int)))
 ((Go.Value.pointer (Option.some (Go.Addr.mk 501 (0 + Int.toNat x3 * 1) Option.none))) = (Go.Value.pointer (Option.some (Go.Addr.mk 501 (0 + Int.toNat x3 * 1) Option.none))))
 False)
 False) ∧
 (((vI x3) = (vI x3)) ∧
 (((Go.Value.slice (Option.some (Go.Addr.mk 501 0 Option.none)) (n0) (c1)) = (Go.Value.slice (Option.some (Go.Addr.mk 501 0 Option.none)) (n0) (c1))) ∧
 ((∃ n8 : Int,
 ((At (l4) (0 + Int.toNat x3 * 1) 1 [(vI n8)]) ∧
 ((vI n8) = (vI n6)))) ∧
 ((bcase (decide (0 ≤ x3))
 (bcase (decide (x3 < (↑n0 : Int)))
 ((Go.Value.pointer (Option.some (Go.Addr.mk 501 (0 + Int.toNat x3 * 1) Option.none))) = (Go.Value.pointer (Option.some (Go.Addr.mk 501 (0 + Int.toNat x3 * 1) Option.none))))
 False)
 False) ∧
 (((vI x3) = (vI x3)) ∧
 (((Go.Value.slice (Option.some (Go.Addr.mk 501 0 Option.none)) (n0) (c1)) = (Go.Value.slice (Option.some (Go.Addr.mk 501 0 Option.none)) (n0) (c1))) ∧
 True))))))))) ∧
 (True ∧
 (B [(Prod.mk 1 (Go.Value.slice (Option.some (Go.Addr.mk 501 0 Option.none)) (n0) (c1))), (Prod.mk 2 (Go.Value.pointer (Option.some (Go.Addr.mk 1000 0 Option.none)))), (Prod.mk 6 (Go.Value.slice (Option.some (Go.Addr.mk 1001 0 Option.none)) (n2 + 1) (n2 + 1))), (Prod.mk 7 (vI (IntKind.wrap .i64 (x3 + 1))))] [(Prod.mk 501 (AObj.sym (l4) false 1)), (Prod.mk 1000 (AObj.cells [(Go.Value.slice (Option.some (Go.Addr.mk 500 0 Option.none)) (n5) (c6))] 24 false 1)), (Prod.mk 1001 (AObj.sym ((List.take (n2 * 2) (List.drop 0 l7)) ++ [(vI n6), (vI n7)]) true 2)), (Prod.mk 500 (AObj.sym (l8) false 7))])))
 False)
 False)
 False)
 False)
 False))))
 False)
 False)))
 False)
 False))) ∨
 ((Says C 26 [(D.val (vI n1)), (D.val (vI n3)), (D.val (vI n4))] [(D.val (Value.bool false))]) ∧
 ((((Value.bool true) = (Value.bool true)) ∧
 (((Go.Value.pointer (Option.some (Go.Addr.mk 500 (Go.Addr.off { block := 500, off := Go.Addr.off { block := 500, off := 0 + Int.toNat x3 * 7 } + 5 } + 1) Option.none))) = (Go.Value.pointer (Option.some (Go.Addr.mk 500 (Go.Addr.off (Go.Addr.add { block := 500, off := 0 + Int.toNat x3 * 7 } 5) + 1) Option.none)))) ∧
 (((Go.Value.pointer (Option.some (Go.Addr.mk 500 (Go.Addr.off { block := 500, off := 0 + Int.toNat x3 * 7 } + 5) Option.none))) = (Go.Value.pointer (Option.some (Go.Addr.mk 500 (Go.Addr.off { block := 500, off := 0 + Int.toNat x3 * 7 } + 5) Option.none)))) ∧
 ((bcase (decide (0 ≤ x3))
 (bcase (decide (x3 < (↑n5 : Int)))
 ((Go.Value.pointer (Option.some (Go.Addr.mk 500 (0 + Int.toNat x3 * 7) Option.none))) = (Go.Value.pointer (Option.some (Go.Addr.mk 500 (0 + Int.toNat x3 * 7) Option.none))))
 False)
 False) ∧
 (((vI x3) = (vI x3)) ∧
 (((Go.Value.slice (Option.some (Go.Addr.mk 500 0 Option.none)) (n5) (c6)) = (Go.Value.slice (Option.some (Go.Addr.mk 500 0 Option.none)) (n5) (c6))) ∧
 (((Go.Value.pointer (Option.some (Go.Addr.mk 1000 0 Option.none))) = (Go.Value.pointer (Option.some (Go.Addr.mk 1000 0 Option.none)))) ∧
 (((Go.Value.pointer (Option.some (Go.Addr.mk 500 (Go.Addr.off { block := 500, off := 0 + Int.toNat x3 * 7 } + 5) Option.none))) = (Go.Value.pointer (Option.some (Go.Addr.mk 500 (Go.Addr.off { block := 500, off := 0 + Int.toNat x3 * 7 } + 5) Option.none)))) ∧
 (((Go.Value.pointer (Option.some (Go.Addr.mk 500 (Go.Addr.off { block := 500, off := 0 + Int.toNat x3 * 7 } + 5) Option.none))) = (Go.Value.pointer (Option.some (Go.Addr.mk 500 (Go.Addr.off { block := 500, off := 0 + Int.toNat x3 * 7 } + 5) Option.none)))) ∧
 ((bcase (decide (0 ≤ x3))
 (bcase (decide (x3 < (↑n5 : Int)))
 ((Go.Value.pointer (Option.some (Go.Addr.mk 500 (0 + Int.toNat x3 * 7) Option.none))) = (Go.Value.pointer (Option.some (Go.Addr.mk 500 (0 + Int.toNat x3 * 7) Option.none))))
 False)
 False) ∧
 (((vI x3) = (vI x3)) ∧
 (((Go.Value.slice (Option.some (Go.Addr.mk 500 0 Option.none)) (n5) (c6)) = (Go.Value.slice (Option.some (Go.Addr.mk 500 0 Option.none)) (n5) (c6))) ∧
 (((Go.Value.pointer (Option.some (Go.Addr.mk 1000 0 Option.none))) = (Go.Value.pointer (Option.some (Go.Addr.mk 1000 0 Option.none)))) ∧
 ((bcase (decide (0 ≤ x3))
 (bcase (decide (x3 < (↑n0 : Int)))
 ((Go.Value.pointer (Option.some (Go.Addr.mk 501 (0 + Int.toNat x3 * 1) Option.none))) = (Go.Value.pointer (Option.some (Go.Addr.mk 501 (0 + Int.toNat x3 * 1) Option.none))))
 False)
 False) ∧
 (((vI x3) = (vI x3)) ∧
 (((Go.Value.slice (Option.some (Go.Addr.mk 501 0 Option.none)) (n0) (c1)) = (Go.Value.slice (Option.some (Go.Addr.mk 501 0 Option.none)) (n0) (c1))) ∧
 True)))))))))))))))) ∧
 (k [D.nil, (D.val (vI (22 : Int)))])))))))
 False)
 False)))
 False)
 False)))
 False)
 False)
 (X 0 [(Prod.mk 2 (Go.Value.pointer (Option.some (Go.Addr.mk 1000 0 Option.none)))), (Prod.mk 6 (Go.Value.slice (Option.some (Go.Addr.mk 1001 0 Option.none)) (n2) (n2)))] [(Prod.mk 1000 (AObj.cells [(Go.Value.slice (Option.some (Go.Addr.mk 500 0 Option.none)) (n5) (c6))] 24 false 1)), (Prod.mk 1001 (AObj.sym (l7) true 2)), (Prod.mk 500 (AObj.sym (l8) false 7))])) := by kernel_rfl
def nRb4 (C : Ct) (L : AtLoop) (n0 : Nat) (n1 : Nat) (c2 : Nat) (l3 : List Value) (l4 : List Value) (k : List D → Prop) : Prop := jNext Try.prog (hK C) L [] 23 0 .normal [(2, (Value.pointer (some ⟨1000, 0, none⟩))), (6, (Value.slice (some ⟨1001, 0, none⟩) n0 n0))] [(1000, (AObj.cells [(Value.slice (some ⟨500, 0, none⟩) n1 c2)] 24 false 1)), (1001, (AObj.sym l3 true 2)), (500, (AObj.sym l4 false 7))] (dataK k)
theorem nRb4_text (C : Ct) (L : AtLoop) (n0 : Nat) (n1 : Nat) (c2 : Nat) (l3 : List Go.Value) (l4 : List Go.Value) (k : List D → Prop) : nRb4 C L n0 n1 c2 l3 l4 k =
 (L 2 [(Prod.mk 2 (Go.Value.pointer (Option.some (Go.Addr.mk 1000 0 Option.none)))), (Prod.mk 6 (Go.Value.slice (Option.some (Go.Addr.mk 1001 0 Option.none)) (n0) (n0)))] [(Prod.mk 1000 (AObj.cells [(Go.Value.slice (Option.some (Go.Addr.mk 500 0 Option.none)) (n1) (c2))] 24 false 1)), (Prod.mk 1001 (AObj.sym (l3) true 2)), (Prod.mk 500 (AObj.sym (l4) false 7))]) := by kernel_rfl
abbrev zRb6 (n0 : Nat) (n1 : Nat) (c2 : Nat) (l3 : List Value) (l4 : List Value) : Slots × Blocks := ([(2, (Value.pointer (some ⟨1000, 0, none⟩))), (6, (Value.slice (some ⟨1001, 0, none⟩) n0 n0))], [(1000, (AObj.cells [(Value.slice (some ⟨500, 0, none⟩) n1 c2)] 24 false 1)), (1001, (AObj.sym l3 true 2)), (500, (AObj.sym l4 false 7))])
def rRb6 (C : Ct) (L : AtLoop) (n0 : Nat) (n1 : Nat) (c2 : Nat) (l3 : List Value) (l4 : List Value) (B : Bx) (X : Xx) (k : List D → Prop) : Prop := jRound Try.prog (hK C) L [] 23 2 [(2, (Value.pointer (some ⟨1000, 0, none⟩))), (6, (Value.slice (some ⟨1001, 0, none⟩) n0 n0))] [(1000, (AObj.cells [(Value.slice (some ⟨500, 0, none⟩) n1 c2)] 24 false 1)), (1001, (AObj.sym l3 true 2)), (500, (AObj.sym l4 false 7))] B X (dataK k)
theorem rRb6_text (C : Ct) (L : AtLoop) (n0 : Nat) (n1 : Nat) (c2 : Nat) (l3 : List Go.Value) (l4 : List Go.Value) (B : Bx) (X : Xx) (k : List D → Prop) : rRb6 C L n0 n1 c2 l3 l4 B X k =
 (bcase (decide (0 + n1 * 7 ≤ List.length l4))
 (bcase (decide (0 + n0 * 2 ≤ List.length l3))
 (((Says C 50 [(D.agg [(D.sl (n1) 7 (List.take (n1 * 7) (List.drop 0 l4)))]), (D.sl (n0) 2 (List.take (n0 * 2) (List.drop 0 l3)))] [D.nil]) ∧
 (L 4 [(Prod.mk 2 (Go.Value.pointer (Option.some (Go.Addr.mk 1000 0 Option.none)))), (Prod.mk 6 (Go.Value.slice (Option.some (Go.Addr.mk 1001 0 Option.none)) (n0) (n0))), (Prod.mk 8 (Go.Value.slice Option.none 0 0)), (Prod.mk 9 (Value.bool false)), (Prod.mk 10 (vI (0 : Int)))] [(Prod.mk 1000 (AObj.cells [(Go.Value.slice (Option.some (Go.Addr.mk 500 0 Option.none)) (n1) (c2))] 24 false 1)), (Prod.mk 1001 (AObj.sym (l3) true 2)), (Prod.mk 500 (AObj.sym (l4) false 7))])) ∨
 (∃ n2 : Nat,
 (∃ cs1 : List Go.Value,
 ((Says C 50 [(D.agg [(D.sl (n1) 7 (List.take (n1 * 7) (List.drop 0 l4)))]), (D.sl (n0) 2 (List.take (n0 * 2) (List.drop 0 l3)))] [(D.sl (n2) 2 (cs1))]) ∧
 (L 4 [(Prod.mk 2 (Go.Value.pointer (Option.some (Go.Addr.mk 1000 0 Option.none)))), (Prod.mk 6 (Go.Value.slice (Option.some (Go.Addr.mk 1001 0 Option.none)) (n0) (n0))), (Prod.mk 8 (Go.Value.slice (Option.some (Go.Addr.mk 1002 0 Option.none)) (n2) (n2))), (Prod.mk 9 (Value.bool false)), (Prod.mk 10 (vI (0 : Int)))] [(Prod.mk 1000 (AObj.cells [(Go.Value.slice (Option.some (Go.Addr.mk 500 0 Option.none)) (n1) (c2))] 24 false 1)), (Prod.mk 1001 (AObj.sym (l3) true 2)), (Prod.mk 1002 (AObj.sym (cs1) true 2)), (Prod.mk 500 (AObj.sym (l4) false 7))])))))
 False)
 False) := by kernel_rfl
abbrev zRb10 (n0 : Nat) (n1 : Nat) (b2 : Bool) (x3 : Int) (n4 : Nat) (c5 : Nat) (l6 : List Value) (l7 : List Value) (l8 : List Value) : Slots × Blocks := ([(2, (Value.pointer (some ⟨1000, 0, none⟩))), (6, (Value.slice (some ⟨1001, 0, none⟩) n0 n0)), (8, (Value.slice (some ⟨1002, 0, none⟩) n1 n1)), (9, (Value.bool b2)), (10, (Value.int .i64 x3))], [(1000, (AObj.cells [(Value.slice (some ⟨500, 0, none⟩) n4 c5)] 24 false 1)), (1001, (AObj.sym l6 true 2)), (1002, (AObj.sym l7 true 2)), (500, (AObj.sym l8 false 7))])
def rRb10 (C : Ct) (L : AtLoop) (n0 : Nat) (n1 : Nat) (b2 : Bool) (x3 : Int) (n4 : Nat) (c5 : Nat) (l6 : List Value) (l7 : List Value) (l8 : List Value) (B : Bx) (X : Xx) (k : List D → Prop) : Prop := jRound2 Try.prog (hK C) L [] 23 2 4 [(2, (Value.pointer (some ⟨1000, 0, none⟩))), (6, (Value.slice (some ⟨1001, 0, none⟩) n0 n0)), (8, (Value.slice (some ⟨1002, 0, none⟩) n1 n1)), (9, (Value.bool b2)), (10, (Value.int .i64 x3))] [(1000, (AObj.cells [(Value.slice (some ⟨500, 0, none⟩) n4 c5)] 24 false 1)), (1001, (AObj.sym l6 true 2)), (1002, (AObj.sym l7 true 2)), (500, (AObj.sym l8 false 7))] B X (dataK k)
theorem rRb10_text (C : Ct) (L : AtLoop) (n0 : Nat) (n1 : Nat) (b2 : Bool) (x3 : Int) (n4 : Nat) (c5 : Nat) (l6 : List Go.Value) (l7 : List Go.Value) (l8 : List Go.Value) (B : Bx) (X : Xx) (k : List D → Prop) : rRb10 C L n0 n1 b2 x3 n4 c5 l6 l7 l8 B X k =
 (bcase (decide (x3 < (↑n0 : Int)))
 (bcase (decide (0 ≤ x3))
 (bcase (decide (x3 < (↑n0 : Int)))
 (∃ n2 : Int,
 ((At (l6) (0 + Int.toNat x3 * 2) 1 [(vI n2)]) ∧
 (bcase (decide (0 ≤ x3))
 (bcase (decide (x3 < (↑n1 : Int)))
 (∃ n3 : Int,
 ((At (l7) (0 + Int.toNat x3 * 2) 1 [(vI n3)]) ∧
 (bcase (decide (0 ≤ x3))
 (bcase (decide (x3 < (↑n0 : Int)))
 (∃ n5 : Int,
 ((At (l6) (Go.Addr.off { block := 1001, off := 0 + Int.toNat x3 * 2 } + 1) 1 [(vI n5)]) ∧
 (bcase (decide (0 ≤ x3))
 (bcase (decide (x3 < (↑n1 : Int)))
 (∃ n6 : Int,
 ((At (l7) (Go.Addr.off { block := 1002, off := 0 + Int.toNat x3 * 2 } + 1) 1 [(vI n6)]) ∧
 ((((vI (if n6 > n5 then n6 else n5)) = (vI (if n6 > n5 then n6 else n5))) ∧
 ((∃ n7 : Int,
 ((At (l7) (Go.Addr.off { block := 1002, off := 0 + Int.toNat x3 * 2 } + 1) 1 [(vI n7)]) ∧
 ((vI n7) = (vI n6)))) ∧
 (((Go.Value.pointer (Option.some (Go.Addr.mk 1002 (Go.Addr.off { block := 1002, off := 0 + Int.toNat x3 * 2 } + 1) Option.none))) = (Go.Value.pointer (Option.some (Go.Addr.mk 1002 (Go.Addr.off { block := 1002, off := 0 + Int.toNat x3 * 2 } + 1) Option.none)))) ∧
 ((bcase (decide (0 ≤ x3))
 (bcase (decide (x3 < (↑n1 : Int)))
 ((Go.Value.pointer (Option.some (Go.Addr.mk 1002 (0 + Int.toNat x3 * 2) Option.none))) = (Go.Value.pointer (Option.some (Go.Addr.mk 1002 (0 + Int.toNat x3 * 2) Option.none))))
 False)
 False) ∧
 (((vI x3) = (vI x3)) ∧
 (((Go.Value.slice (Option.some (Go.Addr.mk 1002 0 Option.none)) (n1) (n1)) = (Go.Value.slice (Option.some (Go.Addr.mk 1002 0 Option.none)) (n1) (n1))) ∧
 ((∃ n7 : Int,
 ((At (l6) (Go.Addr.off { block := 1001, off := 0 + Int.toNat x3 * 2 } + 1) 1 [(vI n7)]) ∧
 ((vI n7) = (vI n5)))) ∧
 (((Go.Value.pointer (Option.some (Go.Addr.mk 1001 (Go.Addr.off { block := 1001, off := 0 + Int.toNat x3 * 2 } + 1) Option.none))) = (Go.Value.pointer (Option.some (Go.Addr.mk 1001 (Go.Addr.off { block := 1001, off := 0 + Int.toNat x3 * 2 } + 1) Option.none)))) ∧
 ((bcase (decide (0 ≤ x3))
 (bcase (decide (x3 < (↑n0 : Int)))
 ((Go.Value.pointer (Option.some (Go.Addr.mk 1001 (0 + Int.toNat x3 * 2) Option.none))) = (Go.Value.pointer (Option.some (Go.Addr.mk 1001 (0 + Int.toNat x3 * 2) Option.none))))
 False)
 False) ∧
 (((vI x3) = (vI x3)) ∧
 (((Go.Value.slice (Option.some (Go.Addr.mk 1001 0 Option.none)) (n0) (n0)) = (Go.Value.slice (Option.some (Go.Addr.mk 1001 0 Option.none)) (n0) (n0))) ∧
 (((vI (if n3 < n2 then n3 else n2)) = (vI (if n3 < n2 then n3 else n2))) ∧
 ((∃ n7 : Int,
 ((At (l7) (0 + Int.toNat x3 * 2) 1 [(vI n7)]) ∧
 ((vI n7) = (vI n3)))) ∧
 (((Go.Value.pointer (Option.some (Go.Addr.mk 1002 (0 + Int.toNat x3 * 2) Option.none))) = (Go.Value.pointer (Option.some (Go.Addr.mk 1002 (0 + Int.toNat x3 * 2) Option.none)))) ∧
 ((bcase (decide (0 ≤ x3))
 (bcase (decide (x3 < (↑n1 : Int)))
 ((Go.Value.pointer (Option.some (Go.Addr.mk 1002 (0 + Int.toNat x3 * 2) Option.none))) = (Go.Value.pointer (Option.some (Go.Addr.mk 1002 (0 + Int.toNat x3 * 2) Option.none))))
 False)
 False) ∧
 (((vI x3) = (vI x3)) ∧
 (((Go.Value.slice (Option.some (Go.Addr.mk 1002 0 Option.none)) (n1) (n1)) = (Go.Value.slice (Option.some (Go.Addr.mk 1002 0 Option.none)) (n1) (n1))) ∧
 ((∃ n7 : Int,
 ((At (l6) (0 + Int.toNat x3 * 2) 1 [(vI n7)]) ∧
 ((vI n7) = (vI n2)))) ∧
 (((Go.Value.pointer (Option.some (Go.Addr.mk 1001 (0 + Int.toNat x3 * 2) Option.none))) = (Go.Value.pointer (Option.some (Go.Addr.mk 1001 (0 + Int.toNat x3 * 2) Option.none)))) ∧
 ((bcase (decide (0 ≤ x3))
 (bcase (decide (x3 < (↑n0 : Int)))
 ((Go.Value.pointer (Option.some (Go.Addr.mk 1001 (0 + Int.toNat x3 * 2) Option.none))) = (Go.Value.pointer (Option.some (Go.Addr.mk 1001 (0 + Int.toNat x3 * 2) Option.none))))
 False)
 False) ∧
 (((vI x3) = (vI x3)) ∧
 (((Go.Value.slice (Option.some (Go.Addr.mk 1001 0 Option.none)) (n0) (n0)) = (Go.Value.slice (Option.some (Go.Addr.mk 1001 0 Option.none)) (n0) (n0))) ∧
 True)))))))))))))))))))))) ∧
 ((((vI (if n6 > n5 then n6 else n5)) = (vI (if n6 > n5 then n6 else n5))) ∧
 ((∃ n7 : Int,
 ((At (l7) (Go.Addr.off { block := 1002, off := 0 + Int.toNat x3 * 2 } + 1) 1 [(vI n7)]) ∧
 ((vI n7) = (vI n6)))) ∧
 (((Go.Value.pointer (Option.some (Go.Addr.mk 1002 (Go.Addr.off { block := 1002, off := 0 + Int.toNat x3 * 2 } + 1) Option.none))) = (Go.Value.pointer (Option.some (Go.Addr.mk 1002 (Go.Addr.off { block := 1002, off := 0 + Int.toNat x3 * 2 } + 1) Option.none)))) ∧
 ((bcase (decide (0 ≤ x3))
 (bcase (decide (x3 < (↑n1 : Int)))
 ((Go.Value.pointer (Option.some (Go.Addr.mk 1002 (0 + Int.toNat x3 * 2) Option.none))) = (Go.Value.pointer (Option.some (Go.Addr.mk 1002 (0 + Int.toNat x3 * 2) Option.none))))
 False)
 False) ∧
 (((vI x3) = (vI x3)) ∧
 (((Go.Value.slice (Option.some (Go.Addr.mk 1002 0 Option.none)) (n1) (n1)) = (Go.Value.slice (Option.some (Go.Addr.mk 1002 0 Option.none)) (n1) (n1))) ∧
 ((∃ n7 : Int,
 ((At (l6) (Go.Addr.off { block := 1001, off := 0 + Int.toNat x3 * 2 } + 1) 1 [(vI n7)]) ∧
 ((vI n7) = (vI n5)))) ∧
 (((Go.Value.pointer (Option.some (Go.Addr.mk 1001 (Go.Addr.off { block := 1001, off := 0 + Int.toNat x3 * 2 } + 1) Option.none))) = (Go.Value.pointer (Option.some (Go.Addr.mk 1001 (Go.Addr.off { block := 1001, off := 0 + Int.toNat x3 * 2 } + 1) Option.none)))) ∧
 ((bcase (decide (0 ≤ x3))
 (bcase (decide (x3 < (↑n0 : Int)))
 ((Go.Value.pointer (Option.some (Go.Addr.mk 1001 (0 + Int.toNat x3 * 2) Option.none))) = (Go.Value.pointer (Option.some (Go.Addr.mk 1001 (0 + Int.toNat x3 * 2) Option.none))))
 False)
 False) ∧
 (((vI x3) = (vI x3)) ∧
 (((Go.Value.slice (Option.some (Go.Addr.mk 1001 0 Option.none)) (n0) (n0)) = (Go.Value.slice (Option.some (Go.Addr.mk 1001 0 Option.none)) (n0) (n0))) ∧
 True))))))))))) ∧
 (True ∧
 (bcase (b2)
 (bcase (decide (0 ≤ x3))
 (bcase (decide (x3 < (↑n4 : Int)))
 (∃ n7 : Int,
 ((At (l8) (Go.Addr.off { block := 500, off := 0 + Int.toNat x3 * 7 } + 5) 1 [(vI n7)]) ∧
 (bcase (decide ((if n3 < n2 then n3 else n2) < n7))
 (k [D.nil, (D.val (vI (12 : Int)))])
 (bcase (decide (0 ≤ x3))
 (bcase (decide (x3 < (↑n4 : Int)))
 (∃ n8 : Int,
 ((At (l8) (Go.Addr.off (Go.Addr.add { block := 500, off := 0 + Int.toNat x3 * 7 } 5) + 1) 1 [(vI n8)]) ∧
 (bcase (decide ((if n6 > n5 then n6 else n5) > n8))
 (k [D.nil, (D.val (vI (12 : Int)))])
 (bcase (decide (0 ≤ x3))
 (bcase (decide (x3 < (↑n1 : Int)))
 (bcase (decide (0 + Int.toNat x3 * 2 + Array.size (Go.Value.cells (AAct.eval { tmps := Tree.node (Option.some (Go.Value.chan (Option.some 0))) (Tree.node (Option.some (Go.Value.chan (Option.some 0))) (Tree.node (Option.some (Go.Value.chan (Option.some 0))) (Tree.node (Option.some (Go.Value.chan (Option.some 0))) (Tree.node (Option.some (Go.Value.chan (Option.some 0))) (Tree.node (Option.some (Go.Value.chan (Option.some 0))) (Tree.node (Option.some (Go.Value.bool Bool.true)) (Tree.node (Option.some (Go.Value.slice (Option.some { block := 1002, off := 0 }) n1 n1)) Tree.leaf Tree.leaf) Tree.leaf) (Tree.node (Option.some (Go.Value.tuple { toList := [] })) Tree.leaf Tree.leaf)) (Tree.node (Option.some (Go.Value.chan (Option.some 0))) (Tree.node (Option.some (Go.Value.pointer (Option.some { block := 1001, off := 0 + Int.toNat x3 * 2 }))) Tree.leaf Tree.leaf) (Tree.node (Option.some (Go.Value.pointer (Option.some { block := 500, off := 0 + Int.toNat x3 * 7 }))) Tree.leaf Tree.leaf))) (Tree.node (Option.some (Go.Value.chan (Option.some 0))) (Tree.node (Option.some (Go.Value.chan (Option.some 0))) (Tree.node (Option.some (Go.Value.slice (Option.some { block := 1002, off := 0 }) n1 n1)) (Tree.node (Option.some (Go.Value.chan (Option.some 0))) Tree.leaf Tree.leaf) Tree.leaf) (Tree.node (Option.some (Go.Value.tuple { toList := [] })) Tree.leaf Tree.leaf)) (Tree.node (Option.some (Go.Value.chan (Option.some 0))) (Tree.node (Option.some (vI (if n6 > n5 then n6 else n5))) Tree.leaf Tree.leaf) (Tree.node (Option.some (Go.Value.slice (Option.some { block := 500, off := 0 }) n4 c5)) Tree.leaf Tree.leaf)))) (Tree.node (Option.some (vI (if n3 < n2 then n3 else n2))) (Tree.node (Option.some (Go.Value.chan (Option.some 0))) (Tree.node (Option.some (Go.Value.chan (Option.some 0))) (Tree.node (Option.some (vI x3)) (Tree.node (Option.some (Go.Value.agg { toList := [vI (if n3 < n2 then n3 else n2), vI (if n6 > n5 then n6 else n5)] })) Tree.leaf Tree.leaf) Tree.leaf) (Tree.node (Option.some (Go.Value.tuple { toList := [] })) Tree.leaf Tree.leaf)) (Tree.node (Option.some (Go.Value.chan (Option.some 0))) (Tree.node (Option.some (vI x3)) Tree.leaf Tree.leaf) (Tree.node (Option.some (Go.Value.bool Bool.false)) Tree.leaf Tree.leaf))) (Tree.node (Option.some (Go.Value.chan (Option.some 0))) (Tree.node (Option.some (Go.Value.chan (Option.some 0))) (Tree.node (Option.some (vI n3)) Tree.leaf Tree.leaf) (Tree.node (Option.some (vI (if n3 < n2 then n3 else n2))) Tree.leaf Tree.leaf)) (Tree.node (Option.some (Go.Value.chan (Option.some 0))) (Tree.node (Option.some (Go.Value.tuple { toList := [] })) Tree.leaf Tree.leaf) (Tree.node (Option.some (Go.Value.pointer (Option.some { block := 500, off := Go.Addr.off (Go.Addr.add { block := 500, off := 0 + Int.toNat x3 * 7 } 5) + 1 }))) Tree.leaf Tree.leaf))))) (Tree.node (Option.some (Go.Value.chan (Option.some 0))) (Tree.node (Option.some (Go.Value.bool Bool.true)) (Tree.node (Option.some (Go.Value.chan (Option.some 0))) (Tree.node (Option.some (Go.Value.chan (Option.some 0))) (Tree.node (Option.some (Go.Value.chan (Option.some 0))) (Tree.node (Option.some (vI (if n3 < n2 then n3 else n2))) Tree.leaf Tree.leaf) Tree.leaf) (Tree.node (Option.some (Go.Value.bool Bool.true)) Tree.leaf Tree.leaf)) (Tree.node (Option.some (Go.Value.chan (Option.some 0))) (Tree.node (Option.some (vI n5)) Tree.leaf Tree.leaf) (Tree.node (Option.some (Go.Value.pointer (Option.some { block := 500, off := Go.Addr.off { block := 500, off := 0 + Int.toNat x3 * 7 } + 5 }))) Tree.leaf Tree.leaf))) (Tree.node (Option.some (Go.Value.chan (Option.some 0))) (Tree.node (Option.some (Go.Value.chan (Option.some 0))) (Tree.node (Option.some (Go.Value.pointer (Option.some { block := 1002, off := 0 + Int.toNat x3 * 2 }))) Tree.leaf Tree.leaf) (Tree.node (Option.some (Go.Value.tuple { toList := [] })) Tree.leaf Tree.leaf)) (Tree.node (Option.some (Go.Value.chan (Option.some 0))) (Tree.node (Option.some (Go.Value.bool Bool.true)) Tree.leaf Tree.leaf) (Tree.node (Option.some (Go.Value.pointer (Option.some { block := 500, off := 0 + Int.toNat x3 * 7 }))) Tree.leaf Tree.leaf)))) (Tree.node (Option.some (Go.Value.chan (Option.some 0))) (Tree.node (Option.some (Go.Value.chan (Option.some 0))) (Tree.node (Option.some (Go.Value.chan (Option.some 0))) (Tree.node (Option.some (Go.Value.pointer (Option.some { block := 1001, off := 0 + Int.toNat x3 * 2 }))) (Tree.node (Option.some (Go.Value.chan (Option.some 0))) Tree.leaf Tree.leaf) Tree.leaf) (Tree.node (Option.some (Go.Value.tuple { toList := [] })) Tree.leaf Tree.leaf)) (Tree.node (Option.some (Go.Value.chan (Option.some 0))) (Tree.node (Option.some (Go.Value.pointer (Option.some { block := 1002, off := Go.Addr.off { block := 1002, off := 0 + Int.toNat x3 * 2 } + 1 }))) Tree.leaf Tree.leaf) (Tree.node (Option.some (vI (if n6 > n5 then n6 else n5))) Tree.leaf Tree.leaf))) (Tree.node (Option.some (Go.Value.chan (Option.some 0))) (Tree.node (Option.some (Go.Value.chan (Option.some 0))) (Tree.node (Option.some (Go.Value.slice (Option.some { block := 1001, off := 0 }) n0 n0)) Tree.leaf Tree.leaf) (Tree.node (Option.some (Go.Value.slice (Option.some { block := 500, off := 0 }) n4 c5)) Tree.leaf Tree.leaf)) (Tree.node (Option.some (Go.Value.slice (Option.some { block := 1001, off := 0 }) n0 n0)) (Tree.node (Option.some (Go.Value.tuple { toList := [] })) Tree.leaf Tree.leaf) (Tree.node (Option.some (Go.Value.bool Bool.false)) Tree.leaf Tree.leaf)))))) (Tree.node (Option.some (Go.Value.pointer (Option.some { block := 1000, off := 0 }))) (Tree.node (Option.some (Go.Value.chan (Option.some 0))) (Tree.node (Option.some (Go.Value.slice (Option.some { block := 1002, off := 0 }) n1 n1)) (Tree.node (Option.some (Go.Value.chan (Option.some 0))) (Tree.node (Option.some (Go.Value.chan (Option.some 0))) (Tree.node (Option.some (Go.Value.chan (Option.some 0))) (Tree.node (Option.some (vI x3)) Tree.leaf Tree.leaf) Tree.leaf) (Tree.node (Option.some (Go.Value.tuple { toList := [] })) Tree.leaf Tree.leaf)) (Tree.node (Option.some (Go.Value.chan (Option.some 0))) (Tree.node (Option.some (Go.Value.pointer (Option.some { block := 1001, off := Go.Addr.off { block := 1001, off := 0 + Int.toNat x3 * 2 } + 1 }))) Tree.leaf Tree.leaf) (Tree.node (Option.some (Go.Value.pointer (Option.some { block := 500, off := Go.Addr.off { block := 500, off := 0 + Int.toNat x3 * 7 } + 5 }))) Tree.leaf Tree.leaf))) (Tree.node (Option.some (Go.Value.chan (Option.some 0))) (Tree.node (Option.some (Go.Value.chan (Option.some 0))) (Tree.node (Option.some (vI x3)) (Tree.node (Option.some (Go.Value.chan (Option.some 0))) Tree.leaf Tree.leaf) Tree.leaf) (Tree.node (Option.some (Go.Value.tuple { toList := [] })) Tree.leaf Tree.leaf)) (Tree.node (Option.some (Go.Value.chan (Option.some 0))) (Tree.node (Option.some (Go.Value.bool Bool.true)) Tree.leaf Tree.leaf) (Tree.node (Option.some (vI x3)) Tree.leaf Tree.leaf)))) (Tree.node (Option.some (vI (if n6 > n5 then n6 else n5))) (Tree.node (Option.some (Go.Value.chan (Option.some 0))) (Tree.node (Option.some (Go.Value.chan (Option.some 0))) (Tree.node (Option.some (Go.Value.pointer (Option.some { block := 1001, off := 0 + Int.toNat x3 * 2 }))) (Tree.node (Option.some (Go.Value.pointer (Option.some { block := 1002, off := 0 + Int.toNat x3 * 2 }))) Tree.leaf Tree.leaf) Tree.leaf) (Tree.node (Option.some (Go.Value.tuple { toList := [] })) Tree.leaf Tree.leaf)) (Tree.node (Option.some (Go.Value.chan (Option.some 0))) (Tree.node (Option.some (Go.Value.pointer (Option.some { block := 1002, off := 0 + Int.toNat x3 * 2 }))) Tree.leaf Tree.leaf) (Tree.node (Option.some (Go.Value.bool Bool.false)) Tree.leaf Tree.leaf))) (Tree.node (Option.some (Go.Value.chan (Option.some 0))) (Tree.node (Option.some (Go.Value.chan (Option.some 0))) (Tree.node (Option.some (vI (if n3 < n2 then n3 else n2))) Tree.leaf Tree.leaf) (Tree.node (Option.some (Go.Value.pointer (Option.some { block := 1000, off := 0 }))) Tree.leaf Tree.leaf)) (Tree.node (Option.some (vI x3)) (Tree.node (Option.some (Go.Value.tuple { toList := [] })) Tree.leaf Tree.leaf) (Tree.node (Option.some (vI n8)) Tree.leaf Tree.leaf))))) (Tree.node (Option.some (Go.Value.slice (Option.some { block := 1001, off := 0 }) n0 n0)) (Tree.node (Option.some (vI x3)) (Tree.node (Option.some (Go.Value.chan (Option.some 0))) (Tree.node (Option.some (Go.Value.chan (Option.some 0))) (Tree.node (Option.some (Go.Value.slice (Option.some { block := 1001, off := 0 }) n0 n0)) (Tree.node (Option.some (vI (if n6 > n5 then n6 else n5))) Tree.leaf Tree.leaf) Tree.leaf) (Tree.node (Option.some (Go.Value.bool Bool.true)) Tree.leaf Tree.leaf)) (Tree.node (Option.some (Go.Value.chan (Option.some 0))) (Tree.node (Option.some (Go.Value.slice (Option.some { block := 1002, off := 0 }) n1 n1)) Tree.leaf Tree.leaf) (Tree.node (Option.some (vI n7)) Tree.leaf Tree.leaf))) (Tree.node (Option.some (Go.Value.chan (Option.some 0))) (Tree.node (Option.some (Go.Value.chan (Option.some 0))) (Tree.node (Option.some (Go.Value.pointer (Option.some { block := 1002, off := 0 + Int.toNat x3 * 2 }))) Tree.leaf Tree.leaf) (Tree.node (Option.some (Go.Value.bool Bool.true)) Tree.leaf Tree.leaf)) (Tree.node (Option.some (Go.Value.chan (Option.some 0))) (Tree.node (Option.some (Go.Value.tuple { toList := [] })) Tree.leaf Tree.leaf) (Tree.node (Option.some (Go.Value.pointer (Option.some { block := 500, off := Go.Addr.off { block := 500, off := 0 + Int.toNat x3 * 7 } + 5 }))) Tree.leaf Tree.leaf)))) (Tree.node (Option.some (Go.Value.chan (Option.some 0))) (Tree.node (Option.some (Go.Value.chan (Option.some 0))) (Tree.node (Option.some (Go.Value.chan (Option.some 0))) (Tree.node (Option.some (vI n2)) (Tree.node (Option.some (Go.Value.chan (Option.some 0))) Tree.leaf Tree.leaf) Tree.leaf) (Tree.node (Option.some (Go.Value.tuple { toList := [] })) Tree.leaf Tree.leaf)) (Tree.node (Option.some (Go.Value.chan (Option.some 0))) (Tree.node (Option.some (vI n6)) Tree.leaf Tree.leaf) (Tree.node (Option.some (Go.Value.pointer (Option.some { block := 1000, off := 0 }))) Tree.leaf Tree.leaf))) (Tree.node (Option.some (Go.Value.chan (Option.some 0))) (Tree.node (Option.some (Go.Value.chan (Option.some 0))) (Tree.node (Option.some (vI x3)) Tree.leaf Tree.leaf) (Tree.node (Option.some (vI x3)) Tree.leaf Tree.leaf)) (Tree.node (Option.some (vI (↑n0 : Int))) (Tree.node (Option.some (Go.Value.tuple { toList := [] })) Tree.leaf Tree.leaf) (Tree.node (Option.some (Go.Value.bool Bool.false)) Tree.leaf Tree.leaf)))))), size := 137, defers := [] } (Prod.snd (Prod.snd (storeOf #[{ dst := Option.some 127, op := Go.Op.move (Go.Operand.tmp 8), type := 43, pos := "ref.go:616", after := #[], guard := Option.none }, { dst := Option.some 128, op := Go.Op.move (Go.Operand.tmp 10), type := 3, pos := "ref.go:616", after := #[], guard := Option.none }, { dst := Option.some 129, op := Go.Op.move (Go.Operand.tmp 11), type := 3, pos := "ref.go:616", after := #[], guard := Option.none }, { dst := Option.some 130, op := Go.Op.move (Go.Operand.tmp 12), type := 3, pos := "ref.go:616", after := #[], guard := Option.none }, { dst := Option.some 131, op := Go.Op.build 56 #[(0, Go.Operand.tmp 129), (1, Go.Operand.tmp 130)], type := 56, pos := "ref.go:616", after := #[{ on := 2, ground := Go.Ground.data }, { on := 3, ground := Go.Ground.data }], guard := Option.none }, { dst := Option.some 132, op := Go.Op.indexAddr 43 (Go.Operand.tmp 127) (Go.Operand.tmp 128), type := 0, pos := "ref.go:616", after := #[{ on := 0, ground := Go.Ground.data }, { on := 1, ground := Go.Ground.data }, { on := 0, ground := Go.Ground.phase }, { on := 1, ground := Go.Ground.phase }, { on := 2, ground := Go.Ground.phase }, { on := 3, ground := Go.Ground.phase }, { on := 4, ground := Go.Ground.phase }], guard := Option.none }, { dst := Option.none, op := Go.Op.store 56 (Go.Operand.tmp 132) (Go.Operand.tmp 131), type := 0, pos := "ref.go:616", after := #[{ on := 5, ground := Go.Ground.data }, { on := 4, ground := Go.Ground.data }, { on := 0, ground := Go.Ground.phase }, { on := 1, ground := Go.Ground.phase }, { on := 2, ground := Go.Ground.phase }, { on := 3, ground := Go.Ground.phase }, { on := 4, ground := Go.Ground.phase }], guard := Option.none }][6]))))) ≤ List.length l7))
 (B [(Prod.mk 2 (Go.Value.pointer (Option.some (Go.Addr.mk 1000 0 Option.none)))), (Prod.mk 6 (Go.Value.slice (Option.some (Go.Addr.mk 1001 0 Option.none)) (n0) (n0))), (Prod.mk 8 (Go.Value.slice (Option.some (Go.Addr.mk 1002 0 Option.none)) (n1) (n1))), (Prod.mk 9 (Value.bool true)), (Prod.mk 10 (vI (IntKind.wrap .i64 (x3 + 1))))] [(Prod.mk 1000 (AObj.cells [(Go.Value.slice (Option.some (Go.Addr.mk 500 0 Option.none)) (n4) (c5))] 24 false 1)), (Prod.mk 1001 (AObj.sym (l6) true 2)), (Prod.mk 1002 (AObj.sym (listSet (l7) (0 + Int.toNat x3 * 2) [(vI (if n3 < n2 then n3 else n2)), (vI (if n6 > n5 then n6 else n5))]) true 2)), (Prod.mk 500 (AObj.sym (l8) false 7))])
 False)
 False)
 False))))
 False)
 False))))
 False)
 False)
 (bcase (decide (0 ≤ x3))
 (bcase (decide (x3 < (↑n0 : Int)))
 (∃ n7 : Int,
 ((At (l6) (0 + Int.toNat x3 * 2) 1 [(vI n7)]) ∧
 (bcase ((if n3 < n2 then n3 else n2) != n7)
 (bcase (decide (0 ≤ x3))
 (bcase (decide (x3 < (↑n4 : Int)))
 (∃ n8 : Int,
 ((At (l8) (Go.Addr.off { block := 500, off := 0 + Int.toNat x3 * 7 } + 5) 1 [(vI n8)]) ∧
 (bcase (decide ((if n3 < n2 then n3 else n2) < n8))
 (k [D.nil, (D.val (vI (12 : Int)))])
 (bcase (decide (0 ≤ x3))
 (bcase (decide (x3 < (↑n4 : Int)))
 (∃ n9 : Int,
 ((At (l8) (Go.Addr.off (Go.Addr.add { block := 500, off := 0 + Int.toNat x3 * 7 } 5) + 1) 1 [(vI n9)]) ∧
 (bcase (decide ((if n6 > n5 then n6 else n5) > n9))
 (k [D.nil, (D.val (vI (12 : Int)))])
 (bcase (decide (0 ≤ x3))
 (bcase (decide (x3 < (↑n1 : Int)))
 (bcase (decide (0 + Int.toNat x3 * 2 + Array.size (Go.Value.cells (AAct.eval { tmps := Tree.node (Option.some (Go.Value.chan (Option.some 0))) (Tree.node (Option.some (Go.Value.chan (Option.some 0))) (Tree.node (Option.some (Go.Value.chan (Option.some 0))) (Tree.node (Option.some (Go.Value.chan (Option.some 0))) (Tree.node (Option.some (Go.Value.chan (Option.some 0))) (Tree.node (Option.some (Go.Value.chan (Option.some 0))) (Tree.node (Option.some (Go.Value.bool Bool.true)) (Tree.node (Option.some (Go.Value.slice (Option.some { block := 1002, off := 0 }) n1 n1)) Tree.leaf Tree.leaf) Tree.leaf) (Tree.node (Option.some (vI n7)) Tree.leaf Tree.leaf)) (Tree.node (Option.some (Go.Value.chan (Option.some 0))) (Tree.node (Option.some (Go.Value.pointer (Option.some { block := 1001, off := 0 + Int.toNat x3 * 2 }))) Tree.leaf Tree.leaf) (Tree.node (Option.some (Go.Value.pointer (Option.some { block := 500, off := 0 + Int.toNat x3 * 7 }))) Tree.leaf Tree.leaf))) (Tree.node (Option.some (Go.Value.chan (Option.some 0))) (Tree.node (Option.some (Go.Value.chan (Option.some 0))) (Tree.node (Option.some (Go.Value.slice (Option.some { block := 1002, off := 0 }) n1 n1)) (Tree.node (Option.some (Go.Value.chan (Option.some 0))) Tree.leaf Tree.leaf) Tree.leaf) (Tree.node (Option.some (Go.Value.tuple { toList := [] })) Tree.leaf Tree.leaf)) (Tree.node (Option.some (Go.Value.chan (Option.some 0))) (Tree.node (Option.some (vI (if n6 > n5 then n6 else n5))) Tree.leaf Tree.leaf) (Tree.node (Option.some (Go.Value.slice (Option.some { block := 500, off := 0 }) n4 c5)) Tree.leaf Tree.leaf)))) (Tree.node (Option.some (vI (if n3 < n2 then n3 else n2))) (Tree.node (Option.some (Go.Value.chan (Option.some 0))) (Tree.node (Option.some (Go.Value.chan (Option.some 0))) (Tree.node (Option.some (vI x3)) (Tree.node (Option.some (Go.Value.agg { toList := [vI (if n3 < n2 then n3 else n2), vI (if n6 > n5 then n6 else n5)] })) Tree.leaf Tree.leaf) Tree.leaf) (Tree.node (Option.some (Go.Value.tuple { toList := [] })) Tree.leaf Tree.leaf)) (Tree.node (Option.some (Go.Value.chan (Option.some 0))) (Tree.node (Option.some (vI x3)) Tree.leaf Tree.leaf) (Tree.node (Option.some (Go.Value.bool Bool.false)) Tree.leaf Tree.leaf))) (Tree.node (Option.some (Go.Value.chan (Option.some 0))) (Tree.node (Option.some (Go.Value.chan (Option.some 0))) (Tree.node (Option.some (vI n3)) Tree.leaf Tree.leaf) (Tree.node (Option.some (vI (if n3 < n2 then n3 else n2))) Tree.leaf Tree.leaf)) (Tree.node (Option.some (Go.Value.chan (Option.some 0))) (Tree.node (Option.some (Go.Value.slice (Option.some { block := 1001, off := 0 }) n0 n0)) Tree.leaf Tree.leaf) (Tree.node (Option.some (Go.Value.pointer (Option.some { block := 500, off := Go.Addr.off (Go.Addr.add { block := 500, off := 0 + Int.toNat x3 * 7 } 5) + 1 }))) Tree.leaf Tree.leaf))))) (Tree.node (Option.some (Go.Value.chan (Option.some 0))) (Tree.node (Option.some (Go.Value.bool Bool.true)) (Tree.node (Option.some (Go.Value.chan (Option.some 0))) (Tree.node (Option.some (Go.Value.chan (Option.some 0))) (Tree.node (Option.some (Go.Value.chan (Option.some 0))) (Tree.node (Option.some (vI (if n3 < n2 then n3 else n2))) Tree.leaf Tree.leaf) Tree.leaf) (Tree.node (Option.some (Go.Value.bool Bool.true)) Tree.leaf Tree.leaf)) (Tree.node (Option.some (Go.Value.chan (Option.some 0))) (Tree.node (Option.some (vI n5)) Tree.leaf Tree.leaf) (Tree.node (Option.some (Go.Value.pointer (Option.some { block := 500, off := Go.Addr.off { block := 500, off := 0 + Int.toNat x3 * 7 } + 5 }))) Tree.leaf Tree.leaf))) (Tree.node (Option.some (Go.Value.chan (Option.some 0))) (Tree.node (Option.some (Go.Value.chan (Option.some 0))) (Tree.node (Option.some (Go.Value.pointer (Option.some { block := 1002, off := 0 + Int.toNat x3 * 2 }))) Tree.leaf Tree.leaf) (Tree.node (Option.some (Go.Value.tuple { toList := [] })) Tree.leaf Tree.leaf)) (Tree.node (Option.some (Go.Value.chan (Option.some 0))) (Tree.node (Option.some (Go.Value.bool Bool.false)) Tree.leaf Tree.leaf) (Tree.node (Option.some (Go.Value.pointer (Option.some { block := 500, off := 0 + Int.toNat x3 * 7 }))) Tree.leaf Tree.leaf)))) (Tree.node (Option.some (Go.Value.chan (Option.some 0))) (Tree.node (Option.some (Go.Value.chan (Option.some 0))) (Tree.node (Option.some (Go.Value.chan (Option.some 0))) (Tree.node (Option.some (Go.Value.pointer (Option.some { block := 1001, off := 0 + Int.toNat x3 * 2 }))) (Tree.node (Option.some (Go.Value.chan (Option.some 0))) Tree.leaf Tree.leaf) Tree.leaf) (Tree.node (Option.some (Go.Value.tuple { toList := [] })) Tree.leaf Tree.leaf)) (Tree.node (Option.some (Go.Value.chan (Option.some 0))) (Tree.node (Option.some (Go.Value.pointer (Option.some { block := 1002, off := Go.Addr.off { block := 1002, off := 0 + Int.toNat x3 * 2 } + 1 }))) Tree.leaf Tree.leaf) (Tree.node (Option.some (vI (if n6 > n5 then n6 else n5))) Tree.leaf Tree.leaf))) (Tree.node (Option.some (Go.Value.chan (Option.some 0))) (Tree.node (Option.some (Go.Value.chan (Option.some 0))) (Tree.node (Option.some (Go.Value.slice (Option.some { block := 1001, off := 0 }) n0 n0)) Tree.leaf Tree.leaf) (Tree.node (Option.some (Go.Value.slice (Option.some { block := 500, off := 0 }) n4 c5)) Tree.leaf Tree.leaf)) (Tree.node (Option.some (Go.Value.slice (Option.some { block := 1001, off := 0 }) n0 n0)) (Tree.node (Option.some (Go.Value.pointer (Option.some { block := 1001, off := 0 + Int.toNat x3 * 2 }))) Tree.leaf Tree.leaf) (Tree.node (Option.some (Go.Value.bool Bool.false)) Tree.leaf Tree.leaf)))))) (Tree.node (Option.some (Go.Value.pointer (Option.some { block := 1000, off := 0 }))) (Tree.node (Option.some (Go.Value.chan (Option.some 0))) (Tree.node (Option.some (Go.Value.slice (Option.some { block := 1002, off := 0 }) n1 n1)) (Tree.node (Option.some (Go.Value.chan (Option.some 0))) (Tree.node (Option.some (Go.Value.chan (Option.some 0))) (Tree.node (Option.some (Go.Value.chan (Option.some 0))) (Tree.node (Option.some (vI x3)) Tree.leaf Tree.leaf) Tree.leaf) (Tree.node (Option.some (Go.Value.bool Bool.true)) Tree.leaf Tree.leaf)) (Tree.node (Option.some (Go.Value.chan (Option.some 0))) (Tree.node (Option.some (Go.Value.pointer (Option.some { block := 1001, off := Go.Addr.off { block := 1001, off := 0 + Int.toNat x3 * 2 } + 1 }))) Tree.leaf Tree.leaf) (Tree.node (Option.some (Go.Value.pointer (Option.some { block := 500, off := Go.Addr.off { block := 500, off := 0 + Int.toNat x3 * 7 } + 5 }))) Tree.leaf Tree.leaf))) (Tree.node (Option.some (Go.Value.chan (Option.some 0))) (Tree.node (Option.some (Go.Value.chan (Option.some 0))) (Tree.node (Option.some (vI x3)) (Tree.node (Option.some (Go.Value.chan (Option.some 0))) Tree.leaf Tree.leaf) Tree.leaf) (Tree.node (Option.some (Go.Value.tuple { toList := [] })) Tree.leaf Tree.leaf)) (Tree.node (Option.some (Go.Value.chan (Option.some 0))) (Tree.node (Option.some (Go.Value.bool Bool.false)) Tree.leaf Tree.leaf) (Tree.node (Option.some (vI x3)) Tree.leaf Tree.leaf)))) (Tree.node (Option.some (vI (if n6 > n5 then n6 else n5))) (Tree.node (Option.some (Go.Value.chan (Option.some 0))) (Tree.node (Option.some (Go.Value.chan (Option.some 0))) (Tree.node (Option.some (Go.Value.pointer (Option.some { block := 1001, off := 0 + Int.toNat x3 * 2 }))) (Tree.node (Option.some (Go.Value.pointer (Option.some { block := 1002, off := 0 + Int.toNat x3 * 2 }))) Tree.leaf Tree.leaf) Tree.leaf) (Tree.node (Option.some (Go.Value.tuple { toList := [] })) Tree.leaf Tree.leaf)) (Tree.node (Option.some (Go.Value.chan (Option.some 0))) (Tree.node (Option.some (Go.Value.pointer (Option.some { block := 1002, off := 0 + Int.toNat x3 * 2 }))) Tree.leaf Tree.leaf) (Tree.node (Option.some (Go.Value.bool Bool.false)) Tree.leaf Tree.leaf))) (Tree.node (Option.some (Go.Value.chan (Option.some 0))) (Tree.node (Option.some (Go.Value.chan (Option.some 0))) (Tree.node (Option.some (vI (if n3 < n2 then n3 else n2))) Tree.leaf Tree.leaf) (Tree.node (Option.some (Go.Value.pointer (Option.some { block := 1000, off := 0 }))) Tree.leaf Tree.leaf)) (Tree.node (Option.some (vI x3)) (Tree.node (Option.some (vI x3)) Tree.leaf Tree.leaf) (Tree.node (Option.some (vI n9)) Tree.leaf Tree.leaf))))) (Tree.node (Option.some (Go.Value.slice (Option.some { block := 1001, off := 0 }) n0 n0)) (Tree.node (Option.some (vI x3)) (Tree.node (Option.some (Go.Value.chan (Option.some 0))) (Tree.node (Option.some (Go.Value.chan (Option.some 0))) (Tree.node (Option.some (Go.Value.slice (Option.some { block := 1001, off := 0 }) n0 n0)) (Tree.node (Option.some (vI (if n6 > n5 then n6 else n5))) Tree.leaf Tree.leaf) Tree.leaf) (Tree.node (Option.some (Go.Value.bool Bool.true)) Tree.leaf Tree.leaf)) (Tree.node (Option.some (Go.Value.chan (Option.some 0))) (Tree.node (Option.some (Go.Value.slice (Option.some { block := 1002, off := 0 }) n1 n1)) Tree.leaf Tree.leaf) (Tree.node (Option.some (vI n8)) Tree.leaf Tree.leaf))) (Tree.node (Option.some (Go.Value.chan (Option.some 0))) (Tree.node (Option.some (Go.Value.chan (Option.some 0))) (Tree.node (Option.some (Go.Value.pointer (Option.some { block := 1002, off := 0 + Int.toNat x3 * 2 }))) Tree.leaf Tree.leaf) (Tree.node (Option.some (Go.Value.bool Bool.true)) Tree.leaf Tree.leaf)) (Tree.node (Option.some (Go.Value.chan (Option.some 0))) (Tree.node (Option.some (vI (if n3 < n2 then n3 else n2))) Tree.leaf Tree.leaf) (Tree.node (Option.some (Go.Value.pointer (Option.some { block := 500, off := Go.Addr.off { block := 500, off := 0 + Int.toNat x3 * 7 } + 5 }))) Tree.leaf Tree.leaf)))) (Tree.node (Option.some (Go.Value.chan (Option.some 0))) (Tree.node (Option.some (Go.Value.chan (Option.some 0))) (Tree.node (Option.some (Go.Value.chan (Option.some 0))) (Tree.node (Option.some (vI n2)) (Tree.node (Option.some (Go.Value.chan (Option.some 0))) Tree.leaf Tree.leaf) Tree.leaf) (Tree.node (Option.some (Go.Value.tuple { toList := [] })) Tree.leaf Tree.leaf)) (Tree.node (Option.some (Go.Value.chan (Option.some 0))) (Tree.node (Option.some (vI n6)) Tree.leaf Tree.leaf) (Tree.node (Option.some (Go.Value.pointer (Option.some { block := 1000, off := 0 }))) Tree.leaf Tree.leaf))) (Tree.node (Option.some (Go.Value.chan (Option.some 0))) (Tree.node (Option.some (Go.Value.chan (Option.some 0))) (Tree.node (Option.some (vI x3)) Tree.leaf Tree.leaf) (Tree.node (Option.some (vI x3)) Tree.leaf Tree.leaf)) (Tree.node (Option.some (vI (↑n0 : Int))) (Tree.node (Option.some (Go.Value.pointer (Option.some { block := 1001, off := 0 + Int.toNat x3 * 2 }))) Tree.leaf Tree.leaf) (Tree.node (Option.some (Go.Value.bool Bool.false)) Tree.leaf Tree.leaf)))))), size := 137, defers := [] } (Prod.snd (Prod.snd (storeOf #[{ dst := Option.some 127, op := Go.Op.move (Go.Operand.tmp 8), type := 43, pos := "ref.go:616", after := #[], guard := Option.none }, { dst := Option.some 128, op := Go.Op.move (Go.Operand.tmp 10), type := 3, pos := "ref.go:616", after := #[], guard := Option.none }, { dst := Option.some 129, op := Go.Op.move (Go.Operand.tmp 11), type := 3, pos := "ref.go:616", after := #[], guard := Option.none }, { dst := Option.some 130, op := Go.Op.move (Go.Operand.tmp 12), type := 3, pos := "ref.go:616", after := #[], guard := Option.none }, { dst := Option.some 131, op := Go.Op.build 56 #[(0, Go.Operand.tmp 129), (1, Go.Operand.tmp 130)], type := 56, pos := "ref.go:616", after := #[{ on := 2, ground := Go.Ground.data }, { on := 3, ground := Go.Ground.data }], guard := Option.none }, { dst := Option.some 132, op := Go.Op.indexAddr 43 (Go.Operand.tmp 127) (Go.Operand.tmp 128), type := 0, pos := "ref.go:616", after := #[{ on := 0, ground := Go.Ground.data }, { on := 1, ground := Go.Ground.data }, { on := 0, ground := Go.Ground.phase }, { on := 1, ground := Go.Ground.phase }, { on := 2, ground := Go.Ground.phase }, { on := 3, ground := Go.Ground.phase }, { on := 4, ground := Go.Ground.phase }], guard := Option.none }, { dst := Option.none, op := Go.Op.store 56 (Go.Operand.tmp 132) (Go.Operand.tmp 131), type := 0, pos := "ref.go:616", after := #[{ on := 5, ground := Go.Ground.data }, { on := 4, ground := Go.Ground.data }, { on := 0, ground := Go.Ground.phase }, { on := 1, ground := Go.Ground.phase }, { on := 2, ground := Go.Ground.phase }, { on := 3, ground := Go.Ground.phase }, { on := 4, ground := Go.Ground.phase }], guard := Option.none }][6]))))) ≤ List.length l7))
 (B [(Prod.mk 2 (Go.Value.pointer (Option.some (Go.Addr.mk 1000 0 Option.none)))), (Prod.mk 6 (Go.Value.slice (Option.some (Go.Addr.mk 1001 0 Option.none)) (n0) (n0))), (Prod.mk 8 (Go.Value.slice (Option.some (Go.Addr.mk 1002 0 Option.none)) (n1) (n1))), (Prod.mk 9 (Value.bool true)), (Prod.mk 10 (vI (IntKind.wrap .i64 (x3 + 1))))] [(Prod.mk 1000 (AObj.cells [(Go.Value.slice (Option.some (Go.Addr.mk 500 0 Option.none)) (n4) (c5))] 24 false 1)), (Prod.mk 1001 (AObj.sym (l6) true 2)), (Prod.mk 1002 (AObj.sym (listSet (l7) (0 + Int.toNat x3 * 2) [(vI (if n3 < n2 then n3 else n2)), (vI (if n6 > n5 then n6 else n5))]) true 2)), (Prod.mk 500 (AObj.sym (l8) false 7))])
 False)
 False)
 False))))
 False)
 False))))
 False)
 False)
 (bcase (decide (0 ≤ x3))
 (bcase (decide (x3 < (↑n0 : Int)))
 (∃ n8 : Int,
 ((At (l6) (Go.Addr.off { block := 1001, off := 0 + Int.toNat x3 * 2 } + 1) 1 [(vI n8)]) ∧
 (bcase ((if n6 > n5 then n6 else n5) != n8)
 (bcase (decide (0 ≤ x3))
 (bcase (decide (x3 < (↑n4 : Int)))
 (∃ n9 : Int,
 ((At (l8) (Go.Addr.off { block := 500, off := 0 + Int.toNat x3 * 7 } + 5) 1 [(vI n9)]) ∧
 (bcase (decide ((if n3 < n2 then n3 else n2) < n9))
 (k [D.nil, (D.val (vI (12 : Int)))])
 (bcase (decide (0 ≤ x3))
 (bcase (decide (x3 < (↑n4 : Int)))
 (∃ n10 : Int,
 ((At (l8) (Go.Addr.off (Go.Addr.add { block := 500, off := 0 + Int.toNat x3 * 7 } 5) + 1) 1 [(vI n10)]) ∧
 (bcase (decide ((if n6 > n5 then n6 else n5) > n10))
 (k [D.nil, (D.val (vI (12 : Int)))])
 (bcase (decide (0 ≤ x3))
 (bcase (decide (x3 < (↑n1 : Int)))
 (bcase (decide (0 + Int.toNat x3 * 2 + Array.size (Go.Value.cells (AAct.eval { tmps := Tree.node (Option.some (Go.Value.chan (Option.some 0))) (Tree.node (Option.some (Go.Value.chan (Option.some 0))) (Tree.node (Option.some (Go.Value.chan (Option.some 0))) (Tree.node (Option.some (Go.Value.chan (Option.some 0))) (Tree.node (Option.some (Go.Value.chan (Option.some 0))) (Tree.node (Option.some (Go.Value.chan (Option.some 0))) (Tree.node (Option.some (Go.Value.bool Bool.true)) (Tree.node (Option.some (Go.Value.slice (Option.some { block := 1002, off := 0 }) n1 n1)) Tree.leaf Tree.leaf) Tree.leaf) (Tree.node (Option.some (vI n7)) Tree.leaf Tree.leaf)) (Tree.node (Option.some (Go.Value.chan (Option.some 0))) (Tree.node (Option.some (Go.Value.pointer (Option.some { block := 1001, off := 0 + Int.toNat x3 * 2 }))) Tree.leaf Tree.leaf) (Tree.node (Option.some (Go.Value.pointer (Option.some { block := 500, off := 0 + Int.toNat x3 * 7 }))) Tree.leaf Tree.leaf))) (Tree.node (Option.some (Go.Value.chan (Option.some 0))) (Tree.node (Option.some (Go.Value.chan (Option.some 0))) (Tree.node (Option.some (Go.Value.slice (Option.some { block := 1002, off := 0 }) n1 n1)) (Tree.node (Option.some (Go.Value.chan (Option.some 0))) Tree.leaf Tree.leaf) Tree.leaf) (Tree.node (Option.some (Go.Value.pointer (Option.some { block := 1001, off := Go.Addr.off { block := 1001, off := 0 + Int.toNat x3 * 2 } + 1 }))) Tree.leaf Tree.leaf)) (Tree.node (Option.some (Go.Value.chan (Option.some 0))) (Tree.node (Option.some (vI (if n6 > n5 then n6 else n5))) Tree.leaf Tree.leaf) (Tree.node (Option.some (Go.Value.slice (Option.some { block := 500, off := 0 }) n4 c5)) Tree.leaf Tree.leaf)))) (Tree.node (Option.some (vI (if n3 < n2 then n3 else n2))) (Tree.node (Option.some (Go.Value.chan (Option.some 0))) (Tree.node (Option.some (Go.Value.chan (Option.some 0))) (Tree.node (Option.some (vI x3)) (Tree.node (Option.some (Go.Value.agg { toList := [vI (if n3 < n2 then n3 else n2), vI (if n6 > n5 then n6 else n5)] })) Tree.leaf Tree.leaf) Tree.leaf) (Tree.node (Option.some (vI (if n6 > n5 then n6 else n5))) Tree.leaf Tree.leaf)) (Tree.node (Option.some (Go.Value.chan (Option.some 0))) (Tree.node (Option.some (vI x3)) Tree.leaf Tree.leaf) (Tree.node (Option.some (Go.Value.bool Bool.false)) Tree.leaf Tree.leaf))) (Tree.node (Option.some (Go.Value.chan (Option.some 0))) (Tree.node (Option.some (Go.Value.chan (Option.some 0))) (Tree.node (Option.some (vI n3)) Tree.leaf Tree.leaf) (Tree.node (Option.some (vI (if n3 < n2 then n3 else n2))) Tree.leaf Tree.leaf)) (Tree.node (Option.some (Go.Value.chan (Option.some 0))) (Tree.node (Option.some (Go.Value.slice (Option.some { block := 1001, off := 0 }) n0 n0)) Tree.leaf Tree.leaf) (Tree.node (Option.some (Go.Value.pointer (Option.some { block := 500, off := Go.Addr.off (Go.Addr.add { block := 500, off := 0 + Int.toNat x3 * 7 } 5) + 1 }))) Tree.leaf Tree.leaf))))) (Tree.node (Option.some (Go.Value.chan (Option.some 0))) (Tree.node (Option.some (Go.Value.bool Bool.true)) (Tree.node (Option.some (Go.Value.chan (Option.some 0))) (Tree.node (Option.some (Go.Value.chan (Option.some 0))) (Tree.node (Option.some (Go.Value.chan (Option.some 0))) (Tree.node (Option.some (vI (if n3 < n2 then n3 else n2))) Tree.leaf Tree.leaf) Tree.leaf) (Tree.node (Option.some (Go.Value.bool Bool.false)) Tree.leaf Tree.leaf)) (Tree.node (Option.some (Go.Value.chan (Option.some 0))) (Tree.node (Option.some (vI n5)) Tree.leaf Tree.leaf) (Tree.node (Option.some (Go.Value.pointer (Option.some { block := 500, off := Go.Addr.off { block := 500, off := 0 + Int.toNat x3 * 7 } + 5 }))) Tree.leaf Tree.leaf))) (Tree.node (Option.some (Go.Value.chan (Option.some 0))) (Tree.node (Option.some (Go.Value.chan (Option.some 0))) (Tree.node (Option.some (Go.Value.pointer (Option.some { block := 1002, off := 0 + Int.toNat x3 * 2 }))) Tree.leaf Tree.leaf) (Tree.node (Option.some (Go.Value.bool Bool.true)) Tree.leaf Tree.leaf)) (Tree.node (Option.some (Go.Value.chan (Option.some 0))) (Tree.node (Option.some (Go.Value.bool Bool.false)) Tree.leaf Tree.leaf) (Tree.node (Option.some (Go.Value.pointer (Option.some { block := 500, off := 0 + Int.toNat x3 * 7 }))) Tree.leaf Tree.leaf)))) (Tree.node (Option.some (Go.Value.chan (Option.some 0))) (Tree.node (Option.some (Go.Value.chan (Option.some 0))) (Tree.node (Option.some (Go.Value.chan (Option.some 0))) (Tree.node (Option.some (Go.Value.pointer (Option.some { block := 1001, off := 0 + Int.toNat x3 * 2 }))) (Tree.node (Option.some (Go.Value.chan (Option.some 0))) Tree.leaf Tree.leaf) Tree.leaf) (Tree.node (Option.some (vI x3)) Tree.leaf Tree.leaf)) (Tree.node (Option.some (Go.Value.chan (Option.some 0))) (Tree.node (Option.some (Go.Value.pointer (Option.some { block := 1002, off := Go.Addr.off { block := 1002, off := 0 + Int.toNat x3 * 2 } + 1 }))) Tree.leaf Tree.leaf) (Tree.node (Option.some (vI (if n6 > n5 then n6 else n5))) Tree.leaf Tree.leaf))) (Tree.node (Option.some (Go.Value.chan (Option.some 0))) (Tree.node (Option.some (Go.Value.chan (Option.some 0))) (Tree.node (Option.some (Go.Value.slice (Option.some { block := 1001, off := 0 }) n0 n0)) Tree.leaf Tree.leaf) (Tree.node (Option.some (Go.Value.slice (Option.some { block := 500, off := 0 }) n4 c5)) Tree.leaf Tree.leaf)) (Tree.node (Option.some (Go.Value.slice (Option.some { block := 1001, off := 0 }) n0 n0)) (Tree.node (Option.some (Go.Value.pointer (Option.some { block := 1001, off := 0 + Int.toNat x3 * 2 }))) Tree.leaf Tree.leaf) (Tree.node (Option.some (Go.Value.bool Bool.false)) Tree.leaf Tree.leaf)))))) (Tree.node (Option.some (Go.Value.pointer (Option.some { block := 1000, off := 0 }))) (Tree.node (Option.some (Go.Value.chan (Option.some 0))) (Tree.node (Option.some (Go.Value.slice (Option.some { block := 1002, off := 0 }) n1 n1)) (Tree.node (Option.some (Go.Value.chan (Option.some 0))) (Tree.node (Option.some (Go.Value.chan (Option.some 0))) (Tree.node (Option.some (Go.Value.chan (Option.some 0))) (Tree.node (Option.some (vI x3)) Tree.leaf Tree.leaf) Tree.leaf) (Tree.node (Option.some (Go.Value.bool Bool.false)) Tree.leaf Tree.leaf)) (Tree.node (Option.some (Go.Value.chan (Option.some 0))) (Tree.node (Option.some (Go.Value.pointer (Option.some { block := 1001, off := Go.Addr.off { block := 1001, off := 0 + Int.toNat x3 * 2 } + 1 }))) Tree.leaf Tree.leaf) (Tree.node (Option.some (Go.Value.pointer (Option.some { block := 500, off := Go.Addr.off { block := 500, off := 0 + Int.toNat x3 * 7 } + 5 }))) Tree.leaf Tree.leaf))) (Tree.node (Option.some (Go.Value.chan (Option.some 0))) (Tree.node (Option.some (Go.Value.chan (Option.some 0))) (Tree.node (Option.some (vI x3)) (Tree.node (Option.some (Go.Value.chan (Option.some 0))) Tree.leaf Tree.leaf) Tree.leaf) (Tree.node (Option.some (vI n8)) Tree.leaf Tree.leaf)) (Tree.node (Option.some (Go.Value.chan (Option.some 0))) (Tree.node (Option.some (Go.Value.bool Bool.false)) Tree.leaf Tree.leaf) (Tree.node (Option.some (vI x3)) Tree.leaf Tree.leaf)))) (Tree.node (Option.some (vI (if n6 > n5 then n6 else n5))) (Tree.node (Option.some (Go.Value.chan (Option.some 0))) (Tree.node (Option.some (Go.Value.chan (Option.some 0))) (Tree.node (Option.some (Go.Value.pointer (Option.some { block := 1001, off := 0 + Int.toNat x3 * 2 }))) (Tree.node (Option.some (Go.Value.pointer (Option.some { block := 1002, off := 0 + Int.toNat x3 * 2 }))) Tree.leaf Tree.leaf) Tree.leaf) (Tree.node (Option.some (Go.Value.slice (Option.some { block := 1001, off := 0 }) n0 n0)) Tree.leaf Tree.leaf)) (Tree.node (Option.some (Go.Value.chan (Option.some 0))) (Tree.node (Option.some (Go.Value.pointer (Option.some { block := 1002, off := 0 + Int.toNat x3 * 2 }))) Tree.leaf Tree.leaf) (Tree.node (Option.some (Go.Value.bool Bool.false)) Tree.leaf Tree.leaf))) (Tree.node (Option.some (Go.Value.chan (Option.some 0))) (Tree.node (Option.some (Go.Value.chan (Option.some 0))) (Tree.node (Option.some (vI (if n3 < n2 then n3 else n2))) Tree.leaf Tree.leaf) (Tree.node (Option.some (Go.Value.pointer (Option.some { block := 1000, off := 0 }))) Tree.leaf Tree.leaf)) (Tree.node (Option.some (vI x3)) (Tree.node (Option.some (vI x3)) Tree.leaf Tree.leaf) (Tree.node (Option.some (vI n10)) Tree.leaf Tree.leaf))))) (Tree.node (Option.some (Go.Value.slice (Option.some { block := 1001, off := 0 }) n0 n0)) (Tree.node (Option.some (vI x3)) (Tree.node (Option.some (Go.Value.chan (Option.some 0))) (Tree.node (Option.some (Go.Value.chan (Option.some 0))) (Tree.node (Option.some (Go.Value.slice (Option.some { block := 1001, off := 0 }) n0 n0)) (Tree.node (Option.some (vI (if n6 > n5 then n6 else n5))) Tree.leaf Tree.leaf) Tree.leaf) (Tree.node (Option.some (Go.Value.bool Bool.false)) Tree.leaf Tree.leaf)) (Tree.node (Option.some (Go.Value.chan (Option.some 0))) (Tree.node (Option.some (Go.Value.slice (Option.some { block := 1002, off := 0 }) n1 n1)) Tree.leaf Tree.leaf) (Tree.node (Option.some (vI n9)) Tree.leaf Tree.leaf))) (Tree.node (Option.some (Go.Value.chan (Option.some 0))) (Tree.node (Option.some (Go.Value.chan (Option.some 0))) (Tree.node (Option.some (Go.Value.pointer (Option.some { block := 1002, off := 0 + Int.toNat x3 * 2 }))) Tree.leaf Tree.leaf) (Tree.node (Option.some (Go.Value.bool Bool.true)) Tree.leaf Tree.leaf)) (Tree.node (Option.some (Go.Value.chan (Option.some 0))) (Tree.node (Option.some (vI (if n3 < n2 then n3 else n2))) Tree.leaf Tree.leaf) (Tree.node (Option.some (Go.Value.pointer (Option.some { block := 500, off := Go.Addr.off { block := 500, off := 0 + Int.toNat x3 * 7 } + 5 }))) Tree.leaf Tree.leaf)))) (Tree.node (Option.some (Go.Value.chan (Option.some 0))) (Tree.node (Option.some (Go.Value.chan (Option.some 0))) (Tree.node (Option.some (Go.Value.chan (Option.some 0))) (Tree.node (Option.some (vI n2)) (Tree.node (Option.some (Go.Value.chan (Option.some 0))) Tree.leaf Tree.leaf) Tree.leaf) (Tree.node (Option.some (Go.Value.pointer (Option.some { block := 1001, off := 0 + Int.toNat x3 * 2 }))) Tree.leaf Tree.leaf)) (Tree.node (Option.some (Go.Value.chan (Option.some 0))) (Tree.node (Option.some (vI n6)) Tree.leaf Tree.leaf) (Tree.node (Option.some (Go.Value.pointer (Option.some { block := 1000, off := 0 }))) Tree.leaf Tree.leaf))) (Tree.node (Option.some (Go.Value.chan (Option.some 0))) (Tree.node (Option.some (Go.Value.chan (Option.some 0))) (Tree.node (Option.some (vI x3)) Tree.leaf Tree.leaf) (Tree.node (Option.some (vI x3)) Tree.leaf Tree.leaf)) (Tree.node (Option.some (vI (↑n0 : Int))) (Tree.node (Option.some (Go.Value.pointer (Option.some { block := 1001, off := 0 + Int.toNat x3 * 2 }))) Tree.leaf Tree.leaf) (Tree.node (Option.some (Go.Value.bool Bool.false)) Tree.leaf Tree.leaf)))))), size := 137, defers := [] } (Prod.snd (Prod.snd (storeOf #[{ dst := Option.some 127, op := Go.Op.move (Go.Operand.tmp 8), type := 43, pos := "ref.go:616", after := #[], guard := Option.none }, { dst := Option.some 128, op := Go.Op.move (Go.Operand.tmp 10), type := 3, pos := "ref.go:616", after := #[], guard := Option.none }, { dst := Option.some 129, op := Go.Op.move (Go.Operand.tmp 11), type := 3, pos := "ref.go:616", after := #[], guard := Option.none }, { dst := Option.some 130, op := Go.Op.move (Go.Operand.tmp 12), type := 3, pos := "ref.go:616", after := #[], guard := Option.none }, { dst := Option.some 131, op := Go.Op.build 56 #[(0, Go.Operand.tmp 129), (1, Go.Operand.tmp 130)], type := 56, pos := "ref.go:616", after := #[{ on := 2, ground := Go.Ground.data }, { on := 3, ground := Go.Ground.data }], guard := Option.none }, { dst := Option.some 132, op := Go.Op.indexAddr 43 (Go.Operand.tmp 127) (Go.Operand.tmp 128), type := 0, pos := "ref.go:616", after := #[{ on := 0, ground := Go.Ground.data }, { on := 1, ground := Go.Ground.data }, { on := 0, ground := Go.Ground.phase }, { on := 1, ground := Go.Ground.phase }, { on := 2, ground := Go.Ground.phase }, { on := 3, ground := Go.Ground.phase }, { on := 4, ground := Go.Ground.phase }], guard := Option.none }, { dst := Option.none, op := Go.Op.store 56 (Go.Operand.tmp 132) (Go.Operand.tmp 131), type := 0, pos := "ref.go:616", after := #[{ on := 5, ground := Go.Ground.data }, { on := 4, ground := Go.Ground.data }, { on := 0, ground := Go.Ground.phase }, { on := 1, ground := Go.Ground.phase }, { on := 2, ground := Go.Ground.phase }, { on := 3, ground := Go.Ground.phase }, { on := 4, ground := Go.Ground.phase }], guard := Option.none }][6]))))) ≤ List.length l7))
 (B [(Prod.mk 2 (Go.Value.pointer (Option.some (Go.Addr.mk 1000 0 Option.none)))), (Prod.mk 6 (Go.Value.slice (Option.some (Go.Addr.mk 1001 0 Option.none)) (n0) (n0))), (Prod.mk 8 (Go.Value.slice (Option.some (Go.Addr.mk 1002 0 Option.none)) (n1) (n1))), (Prod.mk 9 (Value.bool true)), (Prod.mk 10 (vI (IntKind.wrap .i64 (x3 + 1))))] [(Prod.mk 1000 (AObj.cells [(Go.Value.slice (Option.some (Go.Addr.mk 500 0 Option.none)) (n4) (c5))] 24 false 1)), (Prod.mk 1001 (AObj.sym (l6) true 2)), (Prod.mk 1002 (AObj.sym (listSet (l7) (0 + Int.toNat x3 * 2) [(vI (if n3 < n2 then n3 else n2)), (vI (if n6 > n5 then n6 else n5))]) true 2)), (Prod.mk 500 (AObj.sym (l8) false 7))])
 False)
 False)
 False))))
 False)
 False))))
 False)
 False)
 (bcase (decide (0 ≤ x3))
 (bcase (decide (x3 < (↑n4 : Int)))
 (∃ n9 : Int,
 ((At (l8) (Go.Addr.off { block := 500, off := 0 + Int.toNat x3 * 7 } + 5) 1 [(vI n9)]) ∧
 (bcase (decide ((if n3 < n2 then n3 else n2) < n9))
 (k [D.nil, (D.val (vI (12 : Int)))])
 (bcase (decide (0 ≤ x3))
 (bcase (decide (x3 < (↑n4 : Int)))
 (∃ n10 : Int,
 ((At (l8) (Go.Addr.off (Go.Addr.add { block := 500, off := 0 + Int.toNat x3 * 7 } 5) + 1) 1 [(vI n10)]) ∧
 (bcase (decide ((if n6 > n5 then n6 else n5) > n10))
 (k [D.nil, (D.val (vI (12 : Int)))])
 (bcase (decide (0 ≤ x3))
 (bcase (decide (x3 < (↑n1 : Int)))
 (bcase (decide (0 + Int.toNat x3 * 2 + Array.size (Go.Value.cells (AAct.eval { tmps := Tree.node (Option.some (Go.Value.chan (Option.some 0))) (Tree.node (Option.some (Go.Value.chan (Option.some 0))) (Tree.node (Option.some (Go.Value.chan (Option.some 0))) (Tree.node (Option.some (Go.Value.chan (Option.some 0))) (Tree.node (Option.some (Go.Value.chan (Option.some 0))) (Tree.node (Option.some (Go.Value.chan (Option.some 0))) (Tree.node (Option.some (Go.Value.bool Bool.true)) (Tree.node (Option.some (Go.Value.slice (Option.some { block := 1002, off := 0 }) n1 n1)) Tree.leaf Tree.leaf) Tree.leaf) (Tree.node (Option.some (vI n7)) Tree.leaf Tree.leaf)) (Tree.node (Option.some (Go.Value.chan (Option.some 0))) (Tree.node (Option.some (Go.Value.pointer (Option.some { block := 1001, off := 0 + Int.toNat x3 * 2 }))) Tree.leaf Tree.leaf) (Tree.node (Option.some (Go.Value.pointer (Option.some { block := 500, off := 0 + Int.toNat x3 * 7 }))) Tree.leaf Tree.leaf))) (Tree.node (Option.some (Go.Value.chan (Option.some 0))) (Tree.node (Option.some (Go.Value.chan (Option.some 0))) (Tree.node (Option.some (Go.Value.slice (Option.some { block := 1002, off := 0 }) n1 n1)) (Tree.node (Option.some (Go.Value.chan (Option.some 0))) Tree.leaf Tree.leaf) Tree.leaf) (Tree.node (Option.some (Go.Value.pointer (Option.some { block := 1001, off := Go.Addr.off { block := 1001, off := 0 + Int.toNat x3 * 2 } + 1 }))) Tree.leaf Tree.leaf)) (Tree.node (Option.some (Go.Value.chan (Option.some 0))) (Tree.node (Option.some (vI (if n6 > n5 then n6 else n5))) Tree.leaf Tree.leaf) (Tree.node (Option.some (Go.Value.slice (Option.some { block := 500, off := 0 }) n4 c5)) Tree.leaf Tree.leaf)))) (Tree.node (Option.some (vI (if n3 < n2 then n3 else n2))) (Tree.node (Option.some (Go.Value.chan (Option.some 0))) (Tree.node (Option.some (Go.Value.chan (Option.some 0))) (Tree.node (Option.some (vI x3)) (Tree.node (Option.some (Go.Value.agg { toList := [vI (if n3 < n2 then n3 else n2), vI (if n6 > n5 then n6 else n5)] })) Tree.leaf Tree.leaf) Tree.leaf) (Tree.node (Option.some (vI (if n6 > n5 then n6 else n5))) Tree.leaf Tree.leaf)) (Tree.node (Option.some (Go.Value.chan (Option.some 0))) (Tree.node (Option.some (vI x3)) Tree.leaf Tree.leaf) (Tree.node (Option.some (Go.Value.bool Bool.false)) Tree.leaf Tree.leaf))) (Tree.node (Option.some (Go.Value.chan (Option.some 0))) (Tree.node (Option.some (Go.Value.chan (Option.some 0))) (Tree.node (Option.some (vI n3)) Tree.leaf Tree.leaf) (Tree.node (Option.some (vI (if n3 < n2 then n3 else n2))) Tree.leaf Tree.leaf)) (Tree.node (Option.some (Go.Value.chan (Option.some 0))) (Tree.node (Option.some (Go.Value.slice (Option.some { block := 1001, off := 0 }) n0 n0)) Tree.leaf Tree.leaf) (Tree.node (Option.some (Go.Value.pointer (Option.some { block := 500, off := Go.Addr.off (Go.Addr.add { block := 500, off := 0 + Int.toNat x3 * 7 } 5) + 1 }))) Tree.leaf Tree.leaf))))) (Tree.node (Option.some (Go.Value.chan (Option.some 0))) (Tree.node (Option.some (Go.Value.bool Bool.false)) (Tree.node (Option.some (Go.Value.chan (Option.some 0))) (Tree.node (Option.some (Go.Value.chan (Option.some 0))) (Tree.node (Option.some (Go.Value.chan (Option.some 0))) (Tree.node (Option.some (vI (if n3 < n2 then n3 else n2))) Tree.leaf Tree.leaf) Tree.leaf) (Tree.node (Option.some (Go.Value.bool Bool.false)) Tree.leaf Tree.leaf)) (Tree.node (Option.some (Go.Value.chan (Option.some 0))) (Tree.node (Option.some (vI n5)) Tree.leaf Tree.leaf) (Tree.node (Option.some (Go.Value.pointer (Option.some { block := 500, off := Go.Addr.off { block := 500, off := 0 + Int.toNat x3 * 7 } + 5 }))) Tree.leaf Tree.leaf))) (Tree.node (Option.some (Go.Value.chan (Option.some 0))) (Tree.node (Option.some (Go.Value.chan (Option.some 0))) (Tree.node (Option.some (Go.Value.pointer (Option.some { block := 1002, off := 0 + Int.toNat x3 * 2 }))) Tree.leaf Tree.leaf) (Tree.node (Option.some (Go.Value.bool Bool.false)) Tree.leaf Tree.leaf)) (Tree.node (Option.some (Go.Value.chan (Option.some 0))) (Tree.node (Option.some (Go.Value.bool Bool.false)) Tree.leaf Tree.leaf) (Tree.node (Option.some (Go.Value.pointer (Option.some { block := 500, off := 0 + Int.toNat x3 * 7 }))) Tree.leaf Tree.leaf)))) (Tree.node (Option.some (Go.Value.chan (Option.some 0))) (Tree.node (Option.some (Go.Value.chan (Option.some 0))) (Tree.node (Option.some (Go.Value.chan (Option.some 0))) (Tree.node (Option.some (Go.Value.pointer (Option.some { block := 1001, off := 0 + Int.toNat x3 * 2 }))) (Tree.node (Option.some (Go.Value.chan (Option.some 0))) Tree.leaf Tree.leaf) Tree.leaf) (Tree.node (Option.some (vI x3)) Tree.leaf Tree.leaf)) (Tree.node (Option.some (Go.Value.chan (Option.some 0))) (Tree.node (Option.some (Go.Value.pointer (Option.some { block := 1002, off := Go.Addr.off { block := 1002, off := 0 + Int.toNat x3 * 2 } + 1 }))) Tree.leaf Tree.leaf) (Tree.node (Option.some (vI (if n6 > n5 then n6 else n5))) Tree.leaf Tree.leaf))) (Tree.node (Option.some (Go.Value.chan (Option.some 0))) (Tree.node (Option.some (Go.Value.chan (Option.some 0))) (Tree.node (Option.some (Go.Value.slice (Option.some { block := 1001, off := 0 }) n0 n0)) Tree.leaf Tree.leaf) (Tree.node (Option.some (Go.Value.slice (Option.some { block := 500, off := 0 }) n4 c5)) Tree.leaf Tree.leaf)) (Tree.node (Option.some (Go.Value.slice (Option.some { block := 1001, off := 0 }) n0 n0)) (Tree.node (Option.some (Go.Value.pointer (Option.some { block := 1001, off := 0 + Int.toNat x3 * 2 }))) Tree.leaf Tree.leaf) (Tree.node (Option.some (Go.Value.bool Bool.false)) Tree.leaf Tree.leaf)))))) (Tree.node (Option.some (Go.Value.pointer (Option.some { block := 1000, off := 0 }))) (Tree.node (Option.some (Go.Value.chan (Option.some 0))) (Tree.node (Option.some (Go.Value.slice (Option.some { block := 1002, off := 0 }) n1 n1)) (Tree.node (Option.some (Go.Value.chan (Option.some 0))) (Tree.node (Option.some (Go.Value.chan (Option.some 0))) (Tree.node (Option.some (Go.Value.chan (Option.some 0))) (Tree.node (Option.some (vI x3)) Tree.leaf Tree.leaf) Tree.leaf) (Tree.node (Option.some (Go.Value.bool Bool.false)) Tree.leaf Tree.leaf)) (Tree.node (Option.some (Go.Value.chan (Option.some 0))) (Tree.node (Option.some (Go.Value.pointer (Option.some { block := 1001, off := Go.Addr.off { block := 1001, off := 0 + Int.toNat x3 * 2 } + 1 }))) Tree.leaf Tree.leaf) (Tree.node (Option.some (Go.Value.pointer (Option.some { block := 500, off := Go.Addr.off { block := 500, off := 0 + Int.toNat x3 * 7 } + 5 }))) Tree.leaf Tree.leaf))) (Tree.node (Option.some (Go.Value.chan (Option.some 0))) (Tree.node (Option.some (Go.Value.chan (Option.some 0))) (Tree.node (Option.some (vI x3)) (Tree.node (Option.some (Go.Value.chan (Option.some 0))) Tree.leaf Tree.leaf) Tree.leaf) (Tree.node (Option.some (vI n8)) Tree.leaf Tree.leaf)) (Tree.node (Option.some (Go.Value.chan (Option.some 0))) (Tree.node (Option.some (Go.Value.bool Bool.false)) Tree.leaf Tree.leaf) (Tree.node (Option.some (vI x3)) Tree.leaf Tree.leaf)))) (Tree.node (Option.some (vI (if n6 > n5 then n6 else n5))) (Tree.node (Option.some (Go.Value.chan (Option.some 0))) (Tree.node (Option.some (Go.Value.chan (Option.some 0))) (Tree.node (Option.some (Go.Value.pointer (Option.some { block := 1001, off := 0 + Int.toNat x3 * 2 }))) (Tree.node (Option.some (Go.Value.pointer (Option.some { block := 1002, off := 0 + Int.toNat x3 * 2 }))) Tree.leaf Tree.leaf) Tree.leaf) (Tree.node (Option.some (Go.Value.slice (Option.some { block := 1001, off := 0 }) n0 n0)) Tree.leaf Tree.leaf)) (Tree.node (Option.some (Go.Value.chan (Option.some 0))) (Tree.node (Option.some (Go.Value.pointer (Option.some { block := 1002, off := 0 + Int.toNat x3 * 2 }))) Tree.leaf Tree.leaf) (Tree.node (Option.some (Go.Value.bool Bool.false)) Tree.leaf Tree.leaf))) (Tree.node (Option.some (Go.Value.chan (Option.some 0))) (Tree.node (Option.some (Go.Value.chan (Option.some 0))) (Tree.node (Option.some (vI (if n3 < n2 then n3 else n2))) Tree.leaf Tree.leaf) (Tree.node (Option.some (Go.Value.pointer (Option.some { block := 1000, off := 0 }))) Tree.leaf Tree.leaf)) (Tree.node (Option.some (vI x3)) (Tree.node (Option.some (vI x3)) Tree.leaf Tree.leaf) (Tree.node (Option.some (vI n10)) Tree.leaf Tree.leaf))))) (Tree.node (Option.some (Go.Value.slice (Option.some { block := 1001, off := 0 }) n0 n0)) (Tree.node (Option.some (vI x3)) (Tree.node (Option.some (Go.Value.chan (Option.some 0))) (Tree.node (Option.some (Go.Value.chan (Option.some 0))) (Tree.node (Option.some (Go.Value.slice (Option.some { block := 1001, off := 0 }) n0 n0)) (Tree.node (Option.some (vI (if n6 > n5 then n6 else n5))) Tree.leaf Tree.leaf) Tree.leaf) (Tree.node (Option.some (Go.Value.bool Bool.false)) Tree.leaf Tree.leaf)) (Tree.node (Option.some (Go.Value.chan (Option.some 0))) (Tree.node (Option.some (Go.Value.slice (Option.some { block := 1002, off := 0 }) n1 n1)) Tree.leaf Tree.leaf) (Tree.node (Option.some (vI n9)) Tree.leaf Tree.leaf))) (Tree.node (Option.some (Go.Value.chan (Option.some 0))) (Tree.node (Option.some (Go.Value.chan (Option.some 0))) (Tree.node (Option.some (Go.Value.pointer (Option.some { block := 1002, off := 0 + Int.toNat x3 * 2 }))) Tree.leaf Tree.leaf) (Tree.node (Option.some (Go.Value.bool Bool.false)) Tree.leaf Tree.leaf)) (Tree.node (Option.some (Go.Value.chan (Option.some 0))) (Tree.node (Option.some (vI (if n3 < n2 then n3 else n2))) Tree.leaf Tree.leaf) (Tree.node (Option.some (Go.Value.pointer (Option.some { block := 500, off := Go.Addr.off { block := 500, off := 0 + Int.toNat x3 * 7 } + 5 }))) Tree.leaf Tree.leaf)))) (Tree.node (Option.some (Go.Value.chan (Option.some 0))) (Tree.node (Option.some (Go.Value.chan (Option.some 0))) (Tree.node (Option.some (Go.Value.chan (Option.some 0))) (Tree.node (Option.some (vI n2)) (Tree.node (Option.some (Go.Value.chan (Option.some 0))) Tree.leaf Tree.leaf) Tree.leaf) (Tree.node (Option.some (Go.Value.pointer (Option.some { block := 1001, off := 0 + Int.toNat x3 * 2 }))) Tree.leaf Tree.leaf)) (Tree.node (Option.some (Go.Value.chan (Option.some 0))) (Tree.node (Option.some (vI n6)) Tree.leaf Tree.leaf) (Tree.node (Option.some (Go.Value.pointer (Option.some { block := 1000, off := 0 }))) Tree.leaf Tree.leaf))) (Tree.node (Option.some (Go.Value.chan (Option.some 0))) (Tree.node (Option.some (Go.Value.chan (Option.some 0))) (Tree.node (Option.some (vI x3)) Tree.leaf Tree.leaf) (Tree.node (Option.some (vI x3)) Tree.leaf Tree.leaf)) (Tree.node (Option.some (vI (↑n0 : Int))) (Tree.node (Option.some (Go.Value.pointer (Option.some { block := 1001, off := 0 + Int.toNat x3 * 2 }))) Tree.leaf Tree.leaf) (Tree.node (Option.some (Go.Value.bool Bool.false)) Tree.leaf Tree.leaf)))))), size := 137, defers := [] } (Prod.snd (Prod.snd (storeOf #[{ dst := Option.some 127, op := Go.Op.move (Go.Operand.tmp 8), type := 43, pos := "ref.go:616", after := #[], guard := Option.none }, { dst := Option.some 128, op := Go.Op.move (Go.Operand.tmp 10), type := 3, pos := "ref.go:616", after := #[], guard := Option.none }, { dst := Option.some 129, op := Go.Op.move (Go.Operand.tmp 11), type := 3, pos := "ref.go:616", after := #[], guard := Option.none }, { dst := Option.some 130, op := Go.Op.move (Go.Operand.tmp 12), type := 3, pos := "ref.go:616", after := #[], guard := Option.none }, { dst := Option.some 131, op := Go.Op.build 56 #[(0, Go.Operand.tmp 129), (1, Go.Operand.tmp 130)], type := 56, pos := "ref.go:616", after := #[{ on := 2, ground := Go.Ground.data }, { on := 3, ground := Go.Ground.data }], guard := Option.none }, { dst := Option.some 132, op := Go.Op.indexAddr 43 (Go.Operand.tmp 127) (Go.Operand.tmp 128), type := 0, pos := "ref.go:616", after := #[{ on := 0, ground := Go.Ground.data }, { on := 1, ground := Go.Ground.data }, { on := 0, ground := Go.Ground.phase }, { on := 1, ground := Go.Ground.phase }, { on := 2, ground := Go.Ground.phase }, { on := 3, ground := Go.Ground.phase }, { on := 4, ground := Go.Ground.phase }], guard := Option.none }, { dst := Option.none, op := Go.Op.store 56 (Go.Operand.tmp 132) (Go.Operand.tmp 131), type := 0, pos := "ref.go:616", after := #[{ on := 5, ground := Go.Ground.data }, { on := 4, ground := Go.Ground.data }, { on := 0, ground := Go.Ground.phase }, { on := 1, ground := Go.Ground.phase }, { on := 2, ground := Go.Ground.phase }, { on := 3, ground := Go.Ground.phase }, { on := 4, ground := Go.Ground.phase }], guard := Option.none }][6]))))) ≤ List.length l7))
 (B [(Prod.mk 2 (Go.Value.pointer (Option.some (Go.Addr.mk 1000 0 Option.none)))), (Prod.mk 6 (Go.Value.slice (Option.some (Go.Addr.mk 1001 0 Option.none)) (n0) (n0))), (Prod.mk 8 (Go.Value.slice (Option.some (Go.Addr.mk 1002 0 Option.none)) (n1) (n1))), (Prod.mk 9 (Value.bool false)), (Prod.mk 10 (vI (IntKind.wrap .i64 (x3 + 1))))] [(Prod.mk 1000 (AObj.cells [(Go.Value.slice (Option.some (Go.Addr.mk 500 0 Option.none)) (n4) (c5))] 24 false 1)), (Prod.mk 1001 (AObj.sym (l6) true 2)), (Prod.mk 1002 (AObj.sym (listSet (l7) (0 + Int.toNat x3 * 2) [(vI (if n3 < n2 then n3 else n2)), (vI (if n6 > n5 then n6 else n5))]) true 2)), (Prod.mk 500 (AObj.sym (l8) false 7))])
 False)
 False)
 False))))
 False)
 False))))
 False)
 False))))
 False)
 False))))
 False)
 False)))))))
 False)
 False)))
 False)
 False)))
 False)
 False)))
 False)
 False)
 (X 4 [(Prod.mk 2 (Go.Value.pointer (Option.some (Go.Addr.mk 1000 0 Option.none)))), (Prod.mk 6 (Go.Value.slice (Option.some (Go.Addr.mk 1001 0 Option.none)) (n0) (n0))), (Prod.mk 8 (Go.Value.slice (Option.some (Go.Addr.mk 1002 0 Option.none)) (n1) (n1))), (Prod.mk 9 (Go.Value.bool (b2)))] [(Prod.mk 1000 (AObj.cells [(Go.Value.slice (Option.some (Go.Addr.mk 500 0 Option.none)) (n4) (c5))] 24 false 1)), (Prod.mk 1001 (AObj.sym (l6) true 2)), (Prod.mk 1002 (AObj.sym (l7) true 2)), (Prod.mk 500 (AObj.sym (l8) false 7))])) := by kernel_rfl
def iRb14 (C : Ct) (L : AtLoop) (n0 : Nat) (n1 : Nat) (b2 : Bool) (n3 : Nat) (c4 : Nat) (l5 : List Value) (l6 : List Value) (l7 : List Value) (B : Bx) (X : Xx) (k : List D → Prop) : Prop := jIn Try.prog (hK C) L [] 23 2 4 .normal [(2, (Value.pointer (some ⟨1000, 0, none⟩))), (6, (Value.slice (some ⟨1001, 0, none⟩) n0 n0)), (8, (Value.slice (some ⟨1002, 0, none⟩) n1 n1)), (9, (Value.bool b2))] [(1000, (AObj.cells [(Value.slice (some ⟨500, 0, none⟩) n3 c4)] 24 false 1)), (1001, (AObj.sym l5 true 2)), (1002, (AObj.sym l6 true 2)), (500, (AObj.sym l7 false 7))] B X (dataK k)
theorem iRb14_text (C : Ct) (L : AtLoop) (n0 : Nat) (n1 : Nat) (b2 : Bool) (n3 : Nat) (c4 : Nat) (l5 : List Go.Value) (l6 : List Go.Value) (l7 : List Go.Value) (B : Bx) (X : Xx) (k : List D → Prop) : iRb14 C L n0 n1 b2 n3 c4 l5 l6 l7 B X k =
 (bcase (b2)
 (B [(Prod.mk 2 (Go.Value.pointer (Option.some (Go.Addr.mk 1000 0 Option.none)))), (Prod.mk 6 (Go.Value.slice (Option.some (Go.Addr.mk 1001 0 Option.none)) (n1) (n1)))] [(Prod.mk 1000 (AObj.cells [(Go.Value.slice (Option.some (Go.Addr.mk 500 0 Option.none)) (n3) (c4))] 24 false 1)), (Prod.mk 1001 (AObj.sym (l6) true 2)), (Prod.mk 500 (AObj.sym (l7) false 7))])
 ((((n0) = (n0)) ∧
 ((List.length l5) = (n0 * 2))) ∧
 (k [(D.sl (n0) 2 (l5)), (D.val (vI (0 : Int)))]))) := by kernel_rfl
end Go.Proofs.G5b

/- Chapter 5: a box that is made greater place by place. -/
namespace Go.Abs
def nxF (ps : List Sv) (b : Bxs) (i j : Nat) : Int × Int := if j < i then (bth b (img ps b)).getD j p0 else (img ps b).getD j p0
def nx (ps : List Sv) (b : Bxs) (i : Nat) : Bxs := (List.range ps.length).map (nxF ps b i)
@[simp] theorem nx_length (ps : List Sv) (b : Bxs) (i : Nat) : (nx ps b i).length = ps.length := by simp [nx]
theorem rgD_all (l : Bxs) (n : Nat) (h : l.length = n) : (List.range n).map (fun j => l.getD j p0) = l := by
  subst h
  apply List.ext_getElem
  · simp
  · intro i h1 h2
    simp [List.getD, h2]
theorem nx_zero (ps : List Sv) (b : Bxs) : nx ps b 0 = img ps b := by
  have : nxF ps b 0 = fun j => (img ps b).getD j p0 := by funext j; simp [nxF]
  rw [nx, this]; exact rgD_all _ _ (img_length ps b)
theorem nx_end {ps : List Sv} {b : Bxs} (h : b.length = ps.length) : nx ps b ps.length = bth b (img ps b) := by
  have e : (List.range ps.length).map (nxF ps b ps.length) = (List.range ps.length).map (fun j => (bth b (img ps b)).getD j p0) := by
    apply List.map_congr_left
    intro j hj
    simp [nxF, List.mem_range.1 hj]
  rw [nx, e]; exact rgD_all _ _ (by rw [bth_length]; exact h)
theorem vp_app : ∀ a c : Bxs, vp (a ++ c) = vp a ++ vp c
  | [], _ => rfl
  | p :: r, c => by simp only [vp, List.cons_append, vp_app r c]
theorem vp_tk : ∀ (l : Bxs) (i : Nat), (vp l).take (i * 2) = vp (l.take i)
  | l, 0 => by simp [vp]
  | [], i + 1 => by simp [vp]
  | p :: r, i + 1 => by
    rw [Nat.add_mul]
    simp only [vp, Nat.one_mul, List.take_succ_cons, vp_tk r i]
theorem vp_set (l : Bxs) (i : Nat) (h : i < l.length) (a c : Int) : listSet (vp l) (0 + i * 2) [.int .i64 a, .int .i64 c] = vp (l.set i (a, c)) := by
  have e : l.set i (a, c) = l.take i ++ (a, c) :: l.drop (i + 1) := by
    rw [List.set_eq_take_append_cons_drop, if_pos h]
  have d : (vp l).drop (0 + i * 2 + [Value.int .i64 a, Value.int .i64 c].length) = vp (l.drop (i + 1)) := by
    rw [show 0 + i * 2 + [Value.int .i64 a, Value.int .i64 c].length = (i + 1) * 2 by simp; omega]; exact vp_drop l (i + 1)
  rw [e, vp_app, listSet, Nat.zero_add, vp_tk, List.append_assoc]
  rw [Nat.zero_add] at d
  rw [d]; rfl
theorem nx_set {ps : List Sv} {b : Bxs} {i : Nat} (h : i < ps.length) (hl : b.length = ps.length) :
    (nx ps b i).set i (mnI (b.getD i p0).1 ((img ps b).getD i p0).1, mxI (b.getD i p0).2 ((img ps b).getD i p0).2) = nx ps b (i + 1) := by
  rw [← bth_at (b := b) (c := img ps b) (i := i) (by omega)]
  apply List.ext_getElem
  · simp
  · intro j h1 h2
    rw [List.getElem_set]
    simp only [nx, List.getElem_map, List.getElem_range]
    split
    · rename_i he; subst he; simp [nxF]
    · rename_i he
      unfold nxF
      by_cases hj : j < i
      · rw [if_pos hj, if_pos (by omega)]
      · rw [if_neg hj, if_neg (by omega)]
theorem nx_at {ps : List Sv} {b : Bxs} {i : Nat} (h : i < ps.length) : (nx ps b i).getD i p0 = (img ps b).getD i p0 := by
  rw [nx, rg_get h]; simp [nxF]
theorem bxOf_ord (ps : List Sv) (hs : List Int) : ordB ps (bxOf hs hs) := by
  intro i hi
  by_cases h : i < hs.length
  · rw [bxOf_at h]; show hs.getD i 0 ≤ hs.getD i 0; omega
  · have : (bxOf hs hs).getD i p0 = p0 := by
      simp only [List.getD]
      rw [List.getElem?_eq_none (by simp; omega)]; rfl
    rw [this]; show (0 : Int) ≤ 0; omega
theorem bth_ord {ps : List Sv} {b c : Bxs} (hl : b.length = ps.length) (ho : ordB ps b) : ordB ps (bth b c) := by
  intro i hi
  rw [bth_at (by omega)]
  have := ho i hi
  have a1 := mnI_le (b.getD i p0).1 (c.getD i p0).1
  have a2 := mxI_le (b.getD i p0).2 (c.getD i p0).2
  show mnI _ _ ≤ mxI _ _
  omega
theorem ext_bx {b c : Bxs} {n : Nat} (h1 : b.length = n) (h2 : c.length = n) (h : ∀ j, j < n → b.getD j p0 = c.getD j p0) : b = c := by
  rw [← rgD_all b n h1, ← rgD_all c n h2]
  apply List.map_congr_left
  intro j hj
  exact h j (List.mem_range.1 hj)
end Go.Abs

/- Chapter 5: the smallest box by the definition, in data. -/
namespace Go.Proofs.G5b
open Go Go.Abs Go.Proofs Go.Proofs.G5
set_option maxRecDepth 100000
theorem addr_add5 (b o : Nat) : Addr.add ⟨b, o, none⟩ 5 = ⟨b, o + 5, none⟩ := rfl
theorem mnF (x y : Int) : (if y < x then y else x) = mnI x y := rfl
theorem mxF (x y : Int) : (if y > x then y else x) = mxI x y := rfl
abbrev rbS (ps : List Sv) (hs : List Int) (c1 c2 : Nat) : Nat → Slots × Blocks
  | 0 => zRb1 hs.length c2 0 (vi hs) ps.length c1 (vs7 ps)
  | i + 1 => zRb2 hs.length c2 (i + 1) ((i + 1 : Nat) : Int) (vi hs) ps.length c1 (vp ((List.range (i + 1)).map (boF hs hs))) (vs7 ps)
theorem conRB {ps : List Sv} {hs : List Int} {rs : List D} (hR : BfR ps hs rs) (hc : (chE ps).2 = 0) : C5 23 [.agg [.sl ps.length 7 (vs7 ps)], .sl hs.length 1 (vi hs)] rs := by
  have hok := chE_ok hc
  have h0 := hok.1
  have hn : ps.length ≤ 1000 := by omega
  let inv0 : Nat × Nat × Nat → Prop := fun x => x.1 ≤ hs.length ∧ hs.length = ps.length ∧ stGo ps hs = stGo (ps.drop x.1) (hs.drop x.1)
  let st0 : Nat × Nat × Nat → Slots × Blocks := fun x => rbS ps hs x.2.1 x.2.2 x.1
  let inv2 : Bxs × Nat → Prop := fun x => x.1.length = ps.length ∧ ilB ps x.1 = true ∧ ordB ps x.1 ∧ ∃ r, Grow ps x.1 r ∧ rs = bfOf r
  let st2 : Bxs × Nat → Slots × Blocks := fun x => zRb6 ps.length ps.length x.2 (vp x.1) (vs7 ps)
  refine con_J hokK mixed [] (L := fun id s b => match id with | 0 => ∃ x, inv0 x ∧ st0 x = (s, b) | _ => ∃ x, inv2 x ∧ st2 x = (s, b)) Try.func23 rfl (by show 2 ≤ 400; omega) rfl (pts := [0, 2]) (loops := [0, 2]) (by kernel_rfl) (by kernel_rfl) (fun caps _ => ?_) (fun id q1 q2 => absurd q1 q2) (fun id hid => ?_)
  · show gRb _ _ ps.length (caps 500) (vs7 ps) hs.length (caps 501) (vi hs) _
    rw [gRb_text]
    refine bc_bne (fun h => ?_) (fun h => ?_)
    · show _ = _
      cases hR with
      | bad _ => contradiction
      | len _ _ => rfl
      | start _ _ _ => omega
      | grow _ _ _ _ _ => omega
    · exact ⟨(0, caps 500, caps 501), ⟨Nat.zero_le _, by omega, rfl⟩, rfl⟩
  · have hid' : id = 0 ∨ id = 2 := by simpa using hid
    rcases hid' with rfl | rfl
    · refine ⟨⟨Nat × Nat × Nat, st0, inv0, fun x => hs.length - x.1, fun s b h => h, [], [], by kernel_rfl, by kernel_rfl, ?_⟩⟩
      rintro ⟨i, c1, c2⟩ ⟨hi, hl, hr⟩
      simp only at hi hr
      refine ⟨fun _ _ _ => False, ?_, (fun id2 h3 => absurd h3 (by simp)), (fun id2 h3 => absurd h3 (by simp))⟩
      have wi : i < hs.length → IntKind.wrap .i64 ((i : Int) + 1) = ((i + 1 : Nat) : Int) := fun h => by rw [w64 (by omega) (by omega)]; rfl
      have bad : stGo ps hs = 22 → [D.nil, dI 22] = rs := fun e => by
        cases hR with
        | bad _ => contradiction
        | len _ _ => contradiction
        | start _ _ _ => rfl
        | grow _ _ h3 _ _ => omega
      cases i with
      | zero =>
        have hp0 : 0 < hs.length := by omega
        rw [stGo_at h0 hp0] at hr
        show rRb1 _ _ hs.length c2 ((0 : Nat) : Int) (vi hs) ps.length c1 (vs7 ps) _ _ _
        rw [rRb1_text]
        have e5 : At (vs7 ps) (0 + 0 * 7 + 5) 1 [vI ps[0].f] := vs7_one ps 0 h0 5 _ rfl
        have e6 : At (vs7 ps) (0 + 0 * 7 + 5 + 1) 1 [vI ps[0].g] := vs7_one ps 0 h0 6 _ rfl
        simp only [bc_t (show ((0 : Nat) : Int) < (hs.length : Int) by omega), bc_t (show ((0 : Nat) : Int) < (ps.length : Int) by omega), bc_t (show (0 : Int) ≤ ((0 : Nat) : Int) by omega), Int.toNat_natCast, addr_add5, at1 e5, at1 e6, at1 (vi_at hs 0 hp0), wi hp0, eq_self, true_and, and_true]
        by_cases hq : ps[0].f ≤ hs[0] ∧ hs[0] ≤ ps[0].g
        · rw [if_pos hq] at hr
          refine .inl ⟨sayWt hq, ⟨(1, c1, c2), ⟨hp0, hl, hr⟩, by show hs.length - 1 < hs.length - 0; omega, ?_⟩⟩
          rw [← gd_at (d := 0) hp0]; rfl
        · rw [if_neg hq] at hr
          refine .inr ⟨sayWf hq, ?_⟩
          exact bad hr
      | succ i =>
        show rRb2 _ _ hs.length c2 (i + 1) ((i + 1 : Nat) : Int) (vi hs) ps.length c1 (vp ((List.range (i + 1)).map (boF hs hs))) (vs7 ps) _ _ _
        rw [rRb2_text]
        refine bc_dec (fun h => ?_) (fun h => ?_)
        · have h1 : i + 1 < ps.length := by omega
          have h2 : i + 1 < hs.length := by omega
          rw [stGo_at h1 h2] at hr
          have e5 : At (vs7 ps) (0 + (i + 1) * 7 + 5) 1 [vI ps[i + 1].f] := vs7_one ps (i + 1) h1 5 _ rfl
          have e6 : At (vs7 ps) (0 + (i + 1) * 7 + 5 + 1) 1 [vI ps[i + 1].g] := vs7_one ps (i + 1) h1 6 _ rfl
          simp only [bc_t h, bc_t (show ((i + 1 : Nat) : Int) < (ps.length : Int) by omega), bc_t (show (0 : Int) ≤ ((i + 1 : Nat) : Int) by omega), Int.toNat_natCast, addr_add5, at1 e5, at1 e6, at1 (vi_at hs (i + 1) h2), wi h2, rp_take, eq_self, true_and, and_true]
          by_cases hq : ps[i + 1].f ≤ hs[i + 1] ∧ hs[i + 1] ≤ ps[i + 1].g
          · rw [if_pos hq] at hr
            refine .inl ⟨sayWt hq, ?_⟩
            refine bc_yes (by omega) (bc_yes (by omega) (bc_yes (by omega) (bc_yes (by simp) (bc_yes (by simp) ⟨(i + 2, c1, c2), ⟨h2, hl, hr⟩, by show hs.length - (i + 2) < hs.length - (i + 1); omega, ?_⟩))))
            have e := rp_snoc (boF hs hs) (i + 1)
            rw [← gd_at (d := 0) h2]
            show (_, [(501, AObj.sym (vi hs) false 1), oCh 1000 ps.length c1, (1001, AObj.sym (vp ((List.range (i + 1 + 1)).map (boF hs hs))) true 2), (500, AObj.sym (vs7 ps) false 7)]) = _
            rw [← e]
          · rw [if_neg hq] at hr
            refine .inr ⟨sayWf hq, ?_⟩
            exact bad hr
        · show (if 0 = 0 then _ else _)
          rw [if_pos rfl]
          show nRb4 _ _ (i + 1) ps.length c1 (vp ((List.range (i + 1)).map (boF hs hs))) (vs7 ps) _
          rw [nRb4_text]
          rw [stGo_end (by omega)] at hr
          have hih : i + 1 = hs.length := by omega
          have hip : i + 1 = ps.length := by omega
          refine ⟨(bxOf hs hs, c1), ⟨by simp [hl], stGo_ok hl hr, bxOf_ord ps hs, ?_⟩, ?_⟩
          · cases hR with
            | bad _ => contradiction
            | len _ _ => contradiction
            | start _ _ _ => contradiction
            | grow _ _ _ r hg => exact ⟨r, hg, rfl⟩
          · show zRb6 ps.length ps.length c1 (vp (bxOf hs hs)) (vs7 ps) = _
            rw [← hip, bxOf, ← hih]
    · refine ⟨⟨Bxs × Nat, st2, inv2, fun x => slack ps x.1, fun s b h => h, [4], [4], by kernel_rfl, by kernel_rfl, ?_⟩⟩
      rintro ⟨b, c1⟩ ⟨hl, hil, ho, r, hg, hrs⟩
      simp only at hl hil ho hg
      have hh := ilB_hgt hok.2.2 hl hil
      have hlim := (ilB_iff hl).1 hil
      let inv4 : Nat × Bool → Prop := fun y => y.1 ≤ ps.length ∧ (∀ j, j < y.1 → lim1 ps (bth b (img ps b)) j) ∧ (y.2 = false → ∀ j, j < y.1 → (bth b (img ps b)).getD j p0 = b.getD j p0) ∧ (y.2 = true → ∃ j, j < ps.length ∧ (bth b (img ps b)).getD j p0 ≠ b.getD j p0)
      let st4 : Nat × Bool → Slots × Blocks := fun y => zRb10 ps.length ps.length y.2 y.1 ps.length c1 (vp b) (vp (nx ps b y.1)) (vs7 ps)
      refine ⟨fun _ s bl => ∃ y, inv4 y ∧ st4 y = (s, bl), ?_, fun id2 q1 q2 => absurd q1 q2, fun id2 hid2 => ?_⟩
      · show rRb6 _ _ ps.length ps.length c1 (vp b) (vs7 ps) _ _ _
        rw [rRb6_text]
        have a1 := conIm hok.2.2 hl hh.1 hh.2 h0 hn
        rw [hl] at a1
        have w1 : List.take (ps.length * 2) (List.drop 0 (vp b)) = vp b := by rw [List.drop_zero, List.take_of_length_le (by simp [hl])]
        simp only [bc_t (v7le ps), bc_t (show 0 + ps.length * 2 ≤ (vp b).length by simp [hl]), vs7_whole, w1]
        refine .inr ⟨_, _, ⟨a1⟩, ⟨(0, false), ⟨Nat.zero_le _, fun j hj => absurd hj (Nat.not_lt_zero j), fun _ j hj => absurd hj (Nat.not_lt_zero j), fun h => by cases h⟩, ?_⟩⟩
        show zRb10 ps.length ps.length false ((0 : Nat) : Int) ps.length c1 (vp b) (vp (nx ps b 0)) (vs7 ps) = _
        rw [nx_zero]; rfl
      · obtain rfl := List.mem_singleton.1 hid2
        refine ⟨⟨Nat × Bool, st4, inv4, fun y => ps.length - y.1, fun s bl h => h, [], by kernel_rfl, by kernel_rfl, ?_⟩⟩
        rintro ⟨i, b2⟩ ⟨hi, hlm, hf, ht⟩
        simp only at hi hlm hf ht
        refine ⟨fun _ _ _ => False, ?_, (fun id3 h3 => absurd h3 (by simp))⟩
        have wi : i < ps.length → IntKind.wrap .i64 ((i : Int) + 1) = ((i + 1 : Nat) : Int) := fun h => by rw [w64 (by omega) (by omega)]; rfl
        show rRb10 _ _ ps.length ps.length b2 (i : Int) ps.length c1 (vp b) (vp (nx ps b i)) (vs7 ps) _ _ _
        rw [rRb10_text]
        refine bc_dec (fun h => ?_) (fun h => ?_)
        · have h1 : i < ps.length := by omega
          have h2 : i < b.length := by omega
          have h3 : i < (nx ps b i).length := by rw [nx_length]; exact h1
          have e5 : At (vs7 ps) (0 + i * 7 + 5) 1 [vI (ps.getD i sv0).f] := by rw [gd_at h1]; exact vs7_one ps i h1 5 _ rfl
          have e6 : At (vs7 ps) (0 + i * 7 + 5 + 1) 1 [vI (ps.getD i sv0).g] := by rw [gd_at h1]; exact vs7_one ps i h1 6 _ rfl
          have m1 : At (vp b) (0 + i * 2) 1 [vI (b.getD i p0).1] := by rw [gd_at h2]; exact vp_one b i h2
          have m2 : At (vp b) (0 + i * 2 + 1) 1 [vI (b.getD i p0).2] := by rw [gd_at h2]; exact vp_snd b i h2
          have k1 : At (vp (nx ps b i)) (0 + i * 2) 1 [vI ((img ps b).getD i p0).1] := by rw [← nx_at h1, gd_at h3]; exact vp_one _ i h3
          have k2 : At (vp (nx ps b i)) (0 + i * 2 + 1) 1 [vI ((img ps b).getD i p0).2] := by rw [← nx_at h1, gd_at h3]; exact vp_snd _ i h3
          simp only [bc_t h, bc_t (show (0 : Int) ≤ (i : Int) by omega), Int.toNat_natCast, addr_add5, at1 e5, at1 e6, at1 m1, at1 m2, at1 k1, at1 k2, mnF, mxF, wi h1, eq_self, true_and, and_true]
          have hbt := bth_at (b := b) (c := img ps b) (i := i) h2
          have hord := bth_ord (c := img ps b) hl ho i h1
          have q5 := hlim i h1
          unfold lim1 at q5
          have a1 := mnI_le (b.getD i p0).1 ((img ps b).getD i p0).1
          have a2 := mxI_le (b.getD i p0).2 ((img ps b).getD i p0).2
          rw [hbt] at hord
          simp only at hord
          have wset : listSet (vp (nx ps b i)) (0 + i * 2) [vI (mnI (b.getD i p0).1 ((img ps b).getD i p0).1), vI (mxI (b.getD i p0).2 ((img ps b).getD i p0).2)] = vp (nx ps b (i + 1)) := by
            rw [vp_set _ _ h3, nx_set h1 hl]
          have wlen : ∀ {i : Nat}, i < ps.length → 0 + i * 2 + 2 ≤ (vp (nx ps b i)).length := fun h => by rw [vp_length, nx_length]; omega
          have lims : (ps.getD i sv0).f ≤ mnI (b.getD i p0).1 ((img ps b).getD i p0).1 → mxI (b.getD i p0).2 ((img ps b).getD i p0).2 ≤ (ps.getD i sv0).g → ∀ j, j < i + 1 → lim1 ps (bth b (img ps b)) j := fun u1 u2 j hj => by
            by_cases hji : j < i
            · exact hlm j hji
            · obtain rfl : j = i := by omega
              unfold lim1
              rw [hbt]; simp only; omega
          have fin : ¬ ((ps.getD i sv0).f ≤ mnI (b.getD i p0).1 ((img ps b).getD i p0).1 ∧ mxI (b.getD i p0).2 ((img ps b).getD i p0).2 ≤ (ps.getD i sv0).g) → [D.nil, dI 12] = rs := fun hno => by
            cases hg with
            | stop hst =>
              exfalso; apply hno
              rw [hst] at hbt
              have e1 := congrArg Prod.fst hbt
              have e2 := congrArg Prod.snd hbt
              simp only at e1 e2
              omega
            | out _ _ => exact hrs.symm
            | step _ hin _ =>
              exfalso; apply hno
              have := (ilB_iff (by rw [bth_length]; exact hl)).1 hin i h1
              unfold lim1 at this
              rw [hbt] at this
              simp only at this
              omega
          have neq : (mnI (b.getD i p0).1 ((img ps b).getD i p0).1 ≠ (b.getD i p0).1 ∨ mxI (b.getD i p0).2 ((img ps b).getD i p0).2 ≠ (b.getD i p0).2) → ∃ j, j < ps.length ∧ (bth b (img ps b)).getD j p0 ≠ b.getD j p0 := fun hh => ⟨i, h1, fun e => by
            rw [hbt] at e
            have e1 := congrArg Prod.fst e
            have e2 := congrArg Prod.snd e
            simp only at e1 e2
            omega⟩
          cases b2 with
          | true =>
            show bcase _ _ _
            refine bc_dec (fun r1 => ?_) (fun r1 => bc_dec (fun r2 => ?_) (fun r2 => bc_yes (wlen (i := i) (by omega)) ⟨(i + 1, true), ⟨by show i + 1 ≤ ps.length; omega, ?_, ?_, ?_⟩, by show ps.length - (i + 1) < ps.length - i; omega, ?_⟩))
            · exact fin (fun q => by omega)
            · exact fin (fun q => by omega)
            · exact lims (by omega) (by omega)
            · intro h; cases h
            · exact fun _ => ht rfl
            · rw [wset]
          | false =>
            refine bc_bne (fun d1 => ?_) (fun d1 => bc_bne (fun d2 => ?_) (fun d2 => ?_))
            · skip
              refine bc_dec (fun r1 => ?_) (fun r1 => bc_dec (fun r2 => ?_) (fun r2 => bc_yes (wlen (i := i) (by omega)) ⟨(i + 1, true), ⟨by show i + 1 ≤ ps.length; omega, ?_, ?_, ?_⟩, by show ps.length - (i + 1) < ps.length - i; omega, ?_⟩))
              · exact fin (fun q => by omega)
              · exact fin (fun q => by omega)
              · exact lims (by omega) (by omega)
              · intro h; cases h
              · exact fun _ => neq (.inl d1)
              · rw [wset]
            · skip
              refine bc_dec (fun r1 => ?_) (fun r1 => bc_dec (fun r2 => ?_) (fun r2 => bc_yes (wlen (i := i) (by omega)) ⟨(i + 1, true), ⟨by show i + 1 ≤ ps.length; omega, ?_, ?_, ?_⟩, by show ps.length - (i + 1) < ps.length - i; omega, ?_⟩))
              · exact fin (fun q => by omega)
              · exact fin (fun q => by omega)
              · exact lims (by omega) (by omega)
              · intro h; cases h
              · exact fun _ => neq (.inr d2)
              · rw [wset]
            · skip
              refine bc_dec (fun r1 => ?_) (fun r1 => bc_dec (fun r2 => ?_) (fun r2 => bc_yes (wlen (i := i) (by omega)) ⟨(i + 1, false), ⟨by show i + 1 ≤ ps.length; omega, ?_, ?_, ?_⟩, by show ps.length - (i + 1) < ps.length - i; omega, ?_⟩))
              · exact fin (fun q => by omega)
              · exact fin (fun q => by omega)
              · exact lims (by omega) (by omega)
              · intro _ j hj
                by_cases hji : j < i
                · exact hf rfl j hji
                · obtain rfl : j = i := by omega
                  rw [hbt]
                  exact Prod.ext d1 d2
              · intro h; cases h
              · rw [wset]
        · show (if 4 = 4 then _ else _)
          rw [if_pos rfl]
          have hip : i = ps.length := by omega
          subst hip
          show iRb14 _ _ ps.length ps.length b2 ps.length c1 (vp b) (vp (nx ps b ps.length)) (vs7 ps) _ _ _
          rw [iRb14_text]
          have hlb : (bth b (img ps b)).length = ps.length := by rw [bth_length]; exact hl
          cases b2 with
          | true =>
            obtain ⟨j, hj, hne⟩ := ht rfl
            have hbn : bth b (img ps b) ≠ b := fun e => hne (by rw [e])
            have hin : ilB ps (bth b (img ps b)) = true := (ilB_iff hlb).2 hlm
            refine ⟨(bth b (img ps b), c1), ⟨hlb, hin, bth_ord hl ho, ?_⟩, slack_lt hl (img_length ps b) hin hbn, ?_⟩
            · cases hg with
              | stop hst => exact absurd hst hbn
              | out _ h2 => rw [hin] at h2; cases h2
              | step _ _ h3 => exact ⟨r, h3, hrs⟩
            · show zRb6 ps.length ps.length c1 (vp (bth b (img ps b))) (vs7 ps) = _
              rw [← nx_end hl]
          | false =>
            have hbe : bth b (img ps b) = b := ext_bx hlb hl (hf rfl)
            refine ⟨⟨rfl, by simp [hl]⟩, ?_⟩
            show _ = _
            cases hg with
            | stop _ => rw [hrs, bfOf, hl]
            | out h _ => exact absurd hbe h
            | step h _ _ => exact absurd hbe h
end Go.Proofs.G5b

/- What is left to show of each function, written out; the kernel reckons it. -/
namespace Go.Proofs.G5b
open Go Go.Abs Go.Proofs
set_option maxRecDepth 100000
set_option linter.unusedVariables false
def gBxsss (C : Ct) (L : AtLoop) (n0 : Nat) (c0 : Nat) (l0 : List Value) (n1 : Nat) (c1 : Nat) (l1 : List Value) (n2 : Nat) (c2 : Nat) (l2 : List Value) (k : List D → Prop) : Prop := wpFn Try.prog (hK C) L 0 4 #[.agg #[.slice (some ⟨500, 0, none⟩) n0 c0], .slice (some ⟨501, 0, none⟩) n1 c1, .slice (some ⟨502, 0, none⟩) n2 c2] (heapOf [(500, .sym l0 false 7), (501, .sym l1 false 2), (502, .sym l2 false 1)]) (dataK k)
theorem gBxsss_text (C : Ct) (L : AtLoop) (n0 : Nat) (c0 : Nat) (l0 : List Go.Value) (n1 : Nat) (c1 : Nat) (l1 : List Go.Value) (n2 : Nat) (c2 : Nat) (l2 : List Go.Value) (k : List D → Prop) : gBxsss C L n0 c0 l0 n1 c1 l1 n2 c2 l2 k =
 (((Says C 7 [] [(D.val (Value.bool true))]) ∧
 (bcase (decide (0 + n0 * 7 ≤ List.length l0))
 (((Says C 8 [(D.agg [(D.sl (n0) 7 (List.take (n0 * 7) (List.drop 0 l0)))])] [(D.val (Value.bool true))]) ∧
 (bcase (decide ((↑n1 : Int) > 7))
 (k [(D.val (Value.bool true))])
 (bcase (decide ((↑n2 : Int) > 7))
 (k [(D.val (Value.bool true))])
 (bcase (decide (0 + n0 * 7 ≤ List.length l0))
 ((Says C 10 [(D.agg [(D.sl (n0) 7 (List.take (n0 * 7) (List.drop 0 l0)))])] [(D.agg [(D.sl (n0) 7 (List.take (n0 * 7) (List.drop 0 l0)))])]) ∧
 (bcase (decide (0 + n1 * 2 ≤ List.length l1))
 ((Says C 18 [(D.sl (n1) 2 (List.take (n1 * 2) (List.drop 0 l1)))] [(D.sl (n1) 2 (List.take (n1 * 2) (List.drop 0 l1)))]) ∧
 (bcase (decide (0 + n0 * 7 ≤ List.length (List.take (n0 * 7) (List.drop 0 l0))))
 (bcase (decide (0 + n1 * 2 ≤ List.length (List.take (n1 * 2) (List.drop 0 l1))))
 (∃ n3 : Int,
 (∃ n4 : Int,
 ((Says C 17 [(D.agg [(D.sl (n0) 7 (List.take (n0 * 7) (List.drop 0 (List.take (n0 * 7) (List.drop 0 l0)))))]), (D.sl (n1) 2 (List.take (n1 * 2) (List.drop 0 (List.take (n1 * 2) (List.drop 0 l1)))))] [(D.val (vI n3)), (D.val (vI n4))]) ∧
 (bcase (decide (0 + n0 * 7 ≤ List.length l0))
 ((Says C 10 [(D.agg [(D.sl (n0) 7 (List.take (n0 * 7) (List.drop 0 l0)))])] [(D.agg [(D.sl (n0) 7 (List.take (n0 * 7) (List.drop 0 l0)))])]) ∧
 (bcase (decide (0 + n2 * 1 ≤ List.length l2))
 ((Says C 20 [(D.sl (n2) 1 (List.take (n2 * 1) (List.drop 0 l2)))] [(D.sl (n2) 1 (List.take (n2 * 1) (List.drop 0 l2)))]) ∧
 (bcase (decide (0 + n0 * 7 ≤ List.length (List.take (n0 * 7) (List.drop 0 l0))))
 (bcase (decide (0 + n2 * 1 ≤ List.length (List.take (n2 * 1) (List.drop 0 l2))))
 ((∃ n5 : Int,
 ((Says C 19 [(D.agg [(D.sl (n0) 7 (List.take (n0 * 7) (List.drop 0 (List.take (n0 * 7) (List.drop 0 l0)))))]), (D.sl (n2) 1 (List.take (n2 * 1) (List.drop 0 (List.take (n2 * 1) (List.drop 0 l2)))))] [D.nil, (D.val (vI n5))]) ∧
 (bcase (decide (0 + n0 * 7 ≤ List.length l0))
 (∃ n6 : Int,
 ((Says C 21 [(D.agg [(D.sl (n0) 7 (List.take (n0 * 7) (List.drop 0 l0)))])] [(D.val (vI n6))]) ∧
 (bcase (n6 != 0)
 (bcase (n4 == n6)
 (bcase (n5 == n6)
 (bcase (n3 == 0)
 (k [(D.val (Value.bool true))])
 (k [(D.val (Value.bool false))]))
 (k [(D.val (Value.bool false))]))
 (k [(D.val (Value.bool false))]))
 (bcase (decide (0 + n0 * 7 ≤ List.length l0))
 (bcase (decide (0 + n1 * 2 ≤ List.length l1))
 (∃ n7 : Int,
 (∃ n8 : Int,
 ((Says C 22 [(D.agg [(D.sl (n0) 7 (List.take (n0 * 7) (List.drop 0 l0)))]), (D.sl (n1) 2 (List.take (n1 * 2) (List.drop 0 l1)))] [(D.val (vI n7)), (D.val (vI n8))]) ∧
 (bcase (decide (0 + n0 * 7 ≤ List.length l0))
 (bcase (decide (0 + n2 * 1 ≤ List.length l2))
 ((∃ n9 : Int,
 ((Says C 23 [(D.agg [(D.sl (n0) 7 (List.take (n0 * 7) (List.drop 0 l0)))]), (D.sl (n2) 1 (List.take (n2 * 1) (List.drop 0 l2)))] [D.nil, (D.val (vI n9))]) ∧
 (bcase (n4 == n8)
 (bcase (n3 == n7)
 (bcase (n5 == n9)
 (((Says C 24 [D.nil, D.nil] [(D.val (Value.bool true))]) ∧
 (k [(D.val (Value.bool true))])) ∨
 ((Says C 24 [D.nil, D.nil] [(D.val (Value.bool false))]) ∧
 (k [(D.val (Value.bool false))])))
 (k [(D.val (Value.bool false))]))
 (k [(D.val (Value.bool false))]))
 (k [(D.val (Value.bool false))])))) ∨
 (∃ n9 : Nat,
 (∃ cs1 : List Go.Value,
 (∃ n10 : Int,
 ((Says C 23 [(D.agg [(D.sl (n0) 7 (List.take (n0 * 7) (List.drop 0 l0)))]), (D.sl (n2) 1 (List.take (n2 * 1) (List.drop 0 l2)))] [(D.sl (n9) 2 (cs1)), (D.val (vI n10))]) ∧
 (bcase (n4 == n8)
 (bcase (n3 == n7)
 (bcase (n5 == n10)
 (bcase (decide (0 + n9 * 2 ≤ List.length cs1))
 (((Says C 24 [D.nil, (D.sl (n9) 2 (List.take (n9 * 2) (List.drop 0 cs1)))] [(D.val (Value.bool true))]) ∧
 (k [(D.val (Value.bool true))])) ∨
 ((Says C 24 [D.nil, (D.sl (n9) 2 (List.take (n9 * 2) (List.drop 0 cs1)))] [(D.val (Value.bool false))]) ∧
 (k [(D.val (Value.bool false))])))
 False)
 (k [(D.val (Value.bool false))]))
 (k [(D.val (Value.bool false))]))
 (k [(D.val (Value.bool false))])))))))
 False)
 False))))
 False)
 False))))
 False))) ∨
 (∃ n5 : Nat,
 (∃ cs1 : List Go.Value,
 (∃ n6 : Int,
 ((Says C 19 [(D.agg [(D.sl (n0) 7 (List.take (n0 * 7) (List.drop 0 (List.take (n0 * 7) (List.drop 0 l0)))))]), (D.sl (n2) 1 (List.take (n2 * 1) (List.drop 0 (List.take (n2 * 1) (List.drop 0 l2)))))] [(D.sl (n5) 2 (cs1)), (D.val (vI n6))]) ∧
 (bcase (decide (0 + n0 * 7 ≤ List.length l0))
 (∃ n7 : Int,
 ((Says C 21 [(D.agg [(D.sl (n0) 7 (List.take (n0 * 7) (List.drop 0 l0)))])] [(D.val (vI n7))]) ∧
 (bcase (n7 != 0)
 (bcase (n4 == n7)
 (bcase (n6 == n7)
 (bcase (n3 == 0)
 (bcase ((↑n5 : Int) == 0)
 (k [(D.val (Value.bool true))])
 (k [(D.val (Value.bool false))]))
 (k [(D.val (Value.bool false))]))
 (k [(D.val (Value.bool false))]))
 (k [(D.val (Value.bool false))]))
 (bcase (decide (0 + n0 * 7 ≤ List.length l0))
 (bcase (decide (0 + n1 * 2 ≤ List.length l1))
 (∃ n8 : Int,
 (∃ n9 : Int,
 ((Says C 22 [(D.agg [(D.sl (n0) 7 (List.take (n0 * 7) (List.drop 0 l0)))]), (D.sl (n1) 2 (List.take (n1 * 2) (List.drop 0 l1)))] [(D.val (vI n8)), (D.val (vI n9))]) ∧
 (bcase (decide (0 + n0 * 7 ≤ List.length l0))
 (bcase (decide (0 + n2 * 1 ≤ List.length l2))
 ((∃ n10 : Int,
 ((Says C 23 [(D.agg [(D.sl (n0) 7 (List.take (n0 * 7) (List.drop 0 l0)))]), (D.sl (n2) 1 (List.take (n2 * 1) (List.drop 0 l2)))] [D.nil, (D.val (vI n10))]) ∧
 (bcase (n4 == n9)
 (bcase (n3 == n8)
 (bcase (n6 == n10)
 (bcase (decide (0 + n5 * 2 ≤ List.length cs1))
 (((Says C 24 [(D.sl (n5) 2 (List.take (n5 * 2) (List.drop 0 cs1))), D.nil] [(D.val (Value.bool true))]) ∧
 (k [(D.val (Value.bool true))])) ∨
 ((Says C 24 [(D.sl (n5) 2 (List.take (n5 * 2) (List.drop 0 cs1))), D.nil] [(D.val (Value.bool false))]) ∧
 (k [(D.val (Value.bool false))])))
 False)
 (k [(D.val (Value.bool false))]))
 (k [(D.val (Value.bool false))]))
 (k [(D.val (Value.bool false))])))) ∨
 (∃ n10 : Nat,
 (∃ cs2 : List Go.Value,
 (∃ n11 : Int,
 ((Says C 23 [(D.agg [(D.sl (n0) 7 (List.take (n0 * 7) (List.drop 0 l0)))]), (D.sl (n2) 1 (List.take (n2 * 1) (List.drop 0 l2)))] [(D.sl (n10) 2 (cs2)), (D.val (vI n11))]) ∧
 (bcase (n4 == n9)
 (bcase (n3 == n8)
 (bcase (n6 == n11)
 (bcase (decide (0 + n5 * 2 ≤ List.length cs1))
 (bcase (decide (0 + n10 * 2 ≤ List.length cs2))
 (((Says C 24 [(D.sl (n5) 2 (List.take (n5 * 2) (List.drop 0 cs1))), (D.sl (n10) 2 (List.take (n10 * 2) (List.drop 0 cs2)))] [(D.val (Value.bool true))]) ∧
 (k [(D.val (Value.bool true))])) ∨
 ((Says C 24 [(D.sl (n5) 2 (List.take (n5 * 2) (List.drop 0 cs1))), (D.sl (n10) 2 (List.take (n10 * 2) (List.drop 0 cs2)))] [(D.val (Value.bool false))]) ∧
 (k [(D.val (Value.bool false))])))
 False)
 False)
 (k [(D.val (Value.bool false))]))
 (k [(D.val (Value.bool false))]))
 (k [(D.val (Value.bool false))])))))))
 False)
 False))))
 False)
 False))))
 False))))))
 False)
 False))
 False))
 False))))
 False)
 False))
 False))
 False)))) ∨
 ((Says C 8 [(D.agg [(D.sl (n0) 7 (List.take (n0 * 7) (List.drop 0 l0)))])] [(D.val (Value.bool false))]) ∧
 (k [(D.val (Value.bool true))])))
 False)) ∨
 ((Says C 7 [] [(D.val (Value.bool false))]) ∧
 (k [(D.val (Value.bool false))]))) := by kernel_rfl
def gBxssn (C : Ct) (L : AtLoop) (n0 : Nat) (c0 : Nat) (l0 : List Value) (n1 : Nat) (c1 : Nat) (l1 : List Value) (k : List D → Prop) : Prop := wpFn Try.prog (hK C) L 0 4 #[.agg #[.slice (some ⟨500, 0, none⟩) n0 c0], .slice (some ⟨501, 0, none⟩) n1 c1, .slice none 0 0] (heapOf [(500, .sym l0 false 7), (501, .sym l1 false 2)]) (dataK k)
theorem gBxssn_text (C : Ct) (L : AtLoop) (n0 : Nat) (c0 : Nat) (l0 : List Go.Value) (n1 : Nat) (c1 : Nat) (l1 : List Go.Value) (k : List D → Prop) : gBxssn C L n0 c0 l0 n1 c1 l1 k =
 (((Says C 7 [] [(D.val (Value.bool true))]) ∧
 (bcase (decide (0 + n0 * 7 ≤ List.length l0))
 (((Says C 8 [(D.agg [(D.sl (n0) 7 (List.take (n0 * 7) (List.drop 0 l0)))])] [(D.val (Value.bool true))]) ∧
 (bcase (decide ((↑n1 : Int) > 7))
 (k [(D.val (Value.bool true))])
 (bcase (decide (0 + n0 * 7 ≤ List.length l0))
 ((Says C 10 [(D.agg [(D.sl (n0) 7 (List.take (n0 * 7) (List.drop 0 l0)))])] [(D.agg [(D.sl (n0) 7 (List.take (n0 * 7) (List.drop 0 l0)))])]) ∧
 (bcase (decide (0 + n1 * 2 ≤ List.length l1))
 ((Says C 18 [(D.sl (n1) 2 (List.take (n1 * 2) (List.drop 0 l1)))] [(D.sl (n1) 2 (List.take (n1 * 2) (List.drop 0 l1)))]) ∧
 (bcase (decide (0 + n0 * 7 ≤ List.length (List.take (n0 * 7) (List.drop 0 l0))))
 (bcase (decide (0 + n1 * 2 ≤ List.length (List.take (n1 * 2) (List.drop 0 l1))))
 (∃ n2 : Int,
 (∃ n3 : Int,
 ((Says C 17 [(D.agg [(D.sl (n0) 7 (List.take (n0 * 7) (List.drop 0 (List.take (n0 * 7) (List.drop 0 l0)))))]), (D.sl (n1) 2 (List.take (n1 * 2) (List.drop 0 (List.take (n1 * 2) (List.drop 0 l1)))))] [(D.val (vI n2)), (D.val (vI n3))]) ∧
 (bcase (decide (0 + n0 * 7 ≤ List.length l0))
 ((Says C 10 [(D.agg [(D.sl (n0) 7 (List.take (n0 * 7) (List.drop 0 l0)))])] [(D.agg [(D.sl (n0) 7 (List.take (n0 * 7) (List.drop 0 l0)))])]) ∧
 ((Says C 20 [D.nil] [(D.sl 0 1 [])]) ∧
 (bcase (decide (0 + n0 * 7 ≤ List.length (List.take (n0 * 7) (List.drop 0 l0))))
 ((∃ n4 : Int,
 ((Says C 19 [(D.agg [(D.sl (n0) 7 (List.take (n0 * 7) (List.drop 0 (List.take (n0 * 7) (List.drop 0 l0)))))]), (D.sl 0 1 [])] [D.nil, (D.val (vI n4))]) ∧
 (bcase (decide (0 + n0 * 7 ≤ List.length l0))
 (∃ n5 : Int,
 ((Says C 21 [(D.agg [(D.sl (n0) 7 (List.take (n0 * 7) (List.drop 0 l0)))])] [(D.val (vI n5))]) ∧
 (bcase (n5 != 0)
 (bcase (n3 == n5)
 (bcase (n4 == n5)
 (bcase (n2 == 0)
 (k [(D.val (Value.bool true))])
 (k [(D.val (Value.bool false))]))
 (k [(D.val (Value.bool false))]))
 (k [(D.val (Value.bool false))]))
 (bcase (decide (0 + n0 * 7 ≤ List.length l0))
 (bcase (decide (0 + n1 * 2 ≤ List.length l1))
 (∃ n6 : Int,
 (∃ n7 : Int,
 ((Says C 22 [(D.agg [(D.sl (n0) 7 (List.take (n0 * 7) (List.drop 0 l0)))]), (D.sl (n1) 2 (List.take (n1 * 2) (List.drop 0 l1)))] [(D.val (vI n6)), (D.val (vI n7))]) ∧
 (bcase (decide (0 + n0 * 7 ≤ List.length l0))
 ((∃ n8 : Int,
 ((Says C 23 [(D.agg [(D.sl (n0) 7 (List.take (n0 * 7) (List.drop 0 l0)))]), D.nil] [D.nil, (D.val (vI n8))]) ∧
 (bcase (n3 == n7)
 (bcase (n2 == n6)
 (bcase (n4 == n8)
 (((Says C 24 [D.nil, D.nil] [(D.val (Value.bool true))]) ∧
 (k [(D.val (Value.bool true))])) ∨
 ((Says C 24 [D.nil, D.nil] [(D.val (Value.bool false))]) ∧
 (k [(D.val (Value.bool false))])))
 (k [(D.val (Value.bool false))]))
 (k [(D.val (Value.bool false))]))
 (k [(D.val (Value.bool false))])))) ∨
 (∃ n8 : Nat,
 (∃ cs1 : List Go.Value,
 (∃ n9 : Int,
 ((Says C 23 [(D.agg [(D.sl (n0) 7 (List.take (n0 * 7) (List.drop 0 l0)))]), D.nil] [(D.sl (n8) 2 (cs1)), (D.val (vI n9))]) ∧
 (bcase (n3 == n7)
 (bcase (n2 == n6)
 (bcase (n4 == n9)
 (bcase (decide (0 + n8 * 2 ≤ List.length cs1))
 (((Says C 24 [D.nil, (D.sl (n8) 2 (List.take (n8 * 2) (List.drop 0 cs1)))] [(D.val (Value.bool true))]) ∧
 (k [(D.val (Value.bool true))])) ∨
 ((Says C 24 [D.nil, (D.sl (n8) 2 (List.take (n8 * 2) (List.drop 0 cs1)))] [(D.val (Value.bool false))]) ∧
 (k [(D.val (Value.bool false))])))
 False)
 (k [(D.val (Value.bool false))]))
 (k [(D.val (Value.bool false))]))
 (k [(D.val (Value.bool false))])))))))
 False))))
 False)
 False))))
 False))) ∨
 (∃ n4 : Nat,
 (∃ cs1 : List Go.Value,
 (∃ n5 : Int,
 ((Says C 19 [(D.agg [(D.sl (n0) 7 (List.take (n0 * 7) (List.drop 0 (List.take (n0 * 7) (List.drop 0 l0)))))]), (D.sl 0 1 [])] [(D.sl (n4) 2 (cs1)), (D.val (vI n5))]) ∧
 (bcase (decide (0 + n0 * 7 ≤ List.length l0))
 (∃ n6 : Int,
 ((Says C 21 [(D.agg [(D.sl (n0) 7 (List.take (n0 * 7) (List.drop 0 l0)))])] [(D.val (vI n6))]) ∧
 (bcase (n6 != 0)
 (bcase (n3 == n6)
 (bcase (n5 == n6)
 (bcase (n2 == 0)
 (bcase ((↑n4 : Int) == 0)
 (k [(D.val (Value.bool true))])
 (k [(D.val (Value.bool false))]))
 (k [(D.val (Value.bool false))]))
 (k [(D.val (Value.bool false))]))
 (k [(D.val (Value.bool false))]))
 (bcase (decide (0 + n0 * 7 ≤ List.length l0))
 (bcase (decide (0 + n1 * 2 ≤ List.length l1))
 (∃ n7 : Int,
 (∃ n8 : Int,
 ((Says C 22 [(D.agg [(D.sl (n0) 7 (List.take (n0 * 7) (List.drop 0 l0)))]), (D.sl (n1) 2 (List.take (n1 * 2) (List.drop 0 l1)))] [(D.val (vI n7)), (D.val (vI n8))]) ∧
 (bcase (decide (0 + n0 * 7 ≤ List.length l0))
 ((∃ n9 : Int,
 ((Says C 23 [(D.agg [(D.sl (n0) 7 (List.take (n0 * 7) (List.drop 0 l0)))]), D.nil] [D.nil, (D.val (vI n9))]) ∧
 (bcase (n3 == n8)
 (bcase (n2 == n7)
 (bcase (n5 == n9)
 (bcase (decide (0 + n4 * 2 ≤ List.length cs1))
 (((Says C 24 [(D.sl (n4) 2 (List.take (n4 * 2) (List.drop 0 cs1))), D.nil] [(D.val (Value.bool true))]) ∧
 (k [(D.val (Value.bool true))])) ∨
 ((Says C 24 [(D.sl (n4) 2 (List.take (n4 * 2) (List.drop 0 cs1))), D.nil] [(D.val (Value.bool false))]) ∧
 (k [(D.val (Value.bool false))])))
 False)
 (k [(D.val (Value.bool false))]))
 (k [(D.val (Value.bool false))]))
 (k [(D.val (Value.bool false))])))) ∨
 (∃ n9 : Nat,
 (∃ cs2 : List Go.Value,
 (∃ n10 : Int,
 ((Says C 23 [(D.agg [(D.sl (n0) 7 (List.take (n0 * 7) (List.drop 0 l0)))]), D.nil] [(D.sl (n9) 2 (cs2)), (D.val (vI n10))]) ∧
 (bcase (n3 == n8)
 (bcase (n2 == n7)
 (bcase (n5 == n10)
 (bcase (decide (0 + n4 * 2 ≤ List.length cs1))
 (bcase (decide (0 + n9 * 2 ≤ List.length cs2))
 (((Says C 24 [(D.sl (n4) 2 (List.take (n4 * 2) (List.drop 0 cs1))), (D.sl (n9) 2 (List.take (n9 * 2) (List.drop 0 cs2)))] [(D.val (Value.bool true))]) ∧
 (k [(D.val (Value.bool true))])) ∨
 ((Says C 24 [(D.sl (n4) 2 (List.take (n4 * 2) (List.drop 0 cs1))), (D.sl (n9) 2 (List.take (n9 * 2) (List.drop 0 cs2)))] [(D.val (Value.bool false))]) ∧
 (k [(D.val (Value.bool false))])))
 False)
 False)
 (k [(D.val (Value.bool false))]))
 (k [(D.val (Value.bool false))]))
 (k [(D.val (Value.bool false))])))))))
 False))))
 False)
 False))))
 False))))))
 False)))
 False))))
 False)
 False))
 False))
 False))) ∨
 ((Says C 8 [(D.agg [(D.sl (n0) 7 (List.take (n0 * 7) (List.drop 0 l0)))])] [(D.val (Value.bool false))]) ∧
 (k [(D.val (Value.bool true))])))
 False)) ∨
 ((Says C 7 [] [(D.val (Value.bool false))]) ∧
 (k [(D.val (Value.bool false))]))) := by kernel_rfl
def gBxsns (C : Ct) (L : AtLoop) (n0 : Nat) (c0 : Nat) (l0 : List Value) (n2 : Nat) (c2 : Nat) (l2 : List Value) (k : List D → Prop) : Prop := wpFn Try.prog (hK C) L 0 4 #[.agg #[.slice (some ⟨500, 0, none⟩) n0 c0], .slice none 0 0, .slice (some ⟨501, 0, none⟩) n2 c2] (heapOf [(500, .sym l0 false 7), (501, .sym l2 false 1)]) (dataK k)
theorem gBxsns_text (C : Ct) (L : AtLoop) (n0 : Nat) (c0 : Nat) (l0 : List Go.Value) (n2 : Nat) (c2 : Nat) (l2 : List Go.Value) (k : List D → Prop) : gBxsns C L n0 c0 l0 n2 c2 l2 k =
 (((Says C 7 [] [(D.val (Value.bool true))]) ∧
 (bcase (decide (0 + n0 * 7 ≤ List.length l0))
 (((Says C 8 [(D.agg [(D.sl (n0) 7 (List.take (n0 * 7) (List.drop 0 l0)))])] [(D.val (Value.bool true))]) ∧
 (bcase (decide ((↑n2 : Int) > 7))
 (k [(D.val (Value.bool true))])
 (bcase (decide (0 + n0 * 7 ≤ List.length l0))
 ((Says C 10 [(D.agg [(D.sl (n0) 7 (List.take (n0 * 7) (List.drop 0 l0)))])] [(D.agg [(D.sl (n0) 7 (List.take (n0 * 7) (List.drop 0 l0)))])]) ∧
 ((Says C 18 [D.nil] [(D.sl 0 2 [])]) ∧
 (bcase (decide (0 + n0 * 7 ≤ List.length (List.take (n0 * 7) (List.drop 0 l0))))
 (∃ n1 : Int,
 (∃ n3 : Int,
 ((Says C 17 [(D.agg [(D.sl (n0) 7 (List.take (n0 * 7) (List.drop 0 (List.take (n0 * 7) (List.drop 0 l0)))))]), (D.sl 0 2 [])] [(D.val (vI n1)), (D.val (vI n3))]) ∧
 (bcase (decide (0 + n0 * 7 ≤ List.length l0))
 ((Says C 10 [(D.agg [(D.sl (n0) 7 (List.take (n0 * 7) (List.drop 0 l0)))])] [(D.agg [(D.sl (n0) 7 (List.take (n0 * 7) (List.drop 0 l0)))])]) ∧
 (bcase (decide (0 + n2 * 1 ≤ List.length l2))
 ((Says C 20 [(D.sl (n2) 1 (List.take (n2 * 1) (List.drop 0 l2)))] [(D.sl (n2) 1 (List.take (n2 * 1) (List.drop 0 l2)))]) ∧
 (bcase (decide (0 + n0 * 7 ≤ List.length (List.take (n0 * 7) (List.drop 0 l0))))
 (bcase (decide (0 + n2 * 1 ≤ List.length (List.take (n2 * 1) (List.drop 0 l2))))
 ((∃ n4 : Int,
 ((Says C 19 [(D.agg [(D.sl (n0) 7 (List.take (n0 * 7) (List.drop 0 (List.take (n0 * 7) (List.drop 0 l0)))))]), (D.sl (n2) 1 (List.take (n2 * 1) (List.drop 0 (List.take (n2 * 1) (List.drop 0 l2)))))] [D.nil, (D.val (vI n4))]) ∧
 (bcase (decide (0 + n0 * 7 ≤ List.length l0))
 (∃ n5 : Int,
 ((Says C 21 [(D.agg [(D.sl (n0) 7 (List.take (n0 * 7) (List.drop 0 l0)))])] [(D.val (vI n5))]) ∧
 (bcase (n5 != 0)
 (bcase (n3 == n5)
 (bcase (n4 == n5)
 (bcase (n1 == 0)
 (k [(D.val (Value.bool true))])
 (k [(D.val (Value.bool false))]))
 (k [(D.val (Value.bool false))]))
 (k [(D.val (Value.bool false))]))
 (bcase (decide (0 + n0 * 7 ≤ List.length l0))
 (∃ n6 : Int,
 (∃ n7 : Int,
 ((Says C 22 [(D.agg [(D.sl (n0) 7 (List.take (n0 * 7) (List.drop 0 l0)))]), D.nil] [(D.val (vI n6)), (D.val (vI n7))]) ∧
 (bcase (decide (0 + n0 * 7 ≤ List.length l0))
 (bcase (decide (0 + n2 * 1 ≤ List.length l2))
 ((∃ n8 : Int,
 ((Says C 23 [(D.agg [(D.sl (n0) 7 (List.take (n0 * 7) (List.drop 0 l0)))]), (D.sl (n2) 1 (List.take (n2 * 1) (List.drop 0 l2)))] [D.nil, (D.val (vI n8))]) ∧
 (bcase (n3 == n7)
 (bcase (n1 == n6)
 (bcase (n4 == n8)
 (((Says C 24 [D.nil, D.nil] [(D.val (Value.bool true))]) ∧
 (k [(D.val (Value.bool true))])) ∨
 ((Says C 24 [D.nil, D.nil] [(D.val (Value.bool false))]) ∧
 (k [(D.val (Value.bool false))])))
 (k [(D.val (Value.bool false))]))
 (k [(D.val (Value.bool false))]))
 (k [(D.val (Value.bool false))])))) ∨
 (∃ n8 : Nat,
 (∃ cs1 : List Go.Value,
 (∃ n9 : Int,
 ((Says C 23 [(D.agg [(D.sl (n0) 7 (List.take (n0 * 7) (List.drop 0 l0)))]), (D.sl (n2) 1 (List.take (n2 * 1) (List.drop 0 l2)))] [(D.sl (n8) 2 (cs1)), (D.val (vI n9))]) ∧
 (bcase (n3 == n7)
 (bcase (n1 == n6)
 (bcase (n4 == n9)
 (bcase (decide (0 + n8 * 2 ≤ List.length cs1))
 (((Says C 24 [D.nil, (D.sl (n8) 2 (List.take (n8 * 2) (List.drop 0 cs1)))] [(D.val (Value.bool true))]) ∧
 (k [(D.val (Value.bool true))])) ∨
 ((Says C 24 [D.nil, (D.sl (n8) 2 (List.take (n8 * 2) (List.drop 0 cs1)))] [(D.val (Value.bool false))]) ∧
 (k [(D.val (Value.bool false))])))
 False)
 (k [(D.val (Value.bool false))]))
 (k [(D.val (Value.bool false))]))
 (k [(D.val (Value.bool false))])))))))
 False)
 False))))
 False))))
 False))) ∨
 (∃ n4 : Nat,
 (∃ cs1 : List Go.Value,
 (∃ n5 : Int,
 ((Says C 19 [(D.agg [(D.sl (n0) 7 (List.take (n0 * 7) (List.drop 0 (List.take (n0 * 7) (List.drop 0 l0)))))]), (D.sl (n2) 1 (List.take (n2 * 1) (List.drop 0 (List.take (n2 * 1) (List.drop 0 l2)))))] [(D.sl (n4) 2 (cs1)), (D.val (vI n5))]) ∧
 (bcase (decide (0 + n0 * 7 ≤ List.length l0))
 (∃ n6 : Int,
 ((Says C 21 [(D.agg [(D.sl (n0) 7 (List.take (n0 * 7) (List.drop 0 l0)))])] [(D.val (vI n6))]) ∧
 (bcase (n6 != 0)
 (bcase (n3 == n6)
 (bcase (n5 == n6)
 (bcase (n1 == 0)
 (bcase ((↑n4 : Int) == 0)
 (k [(D.val (Value.bool true))])
 (k [(D.val (Value.bool false))]))
 (k [(D.val (Value.bool false))]))
 (k [(D.val (Value.bool false))]))
 (k [(D.val (Value.bool false))]))
 (bcase (decide (0 + n0 * 7 ≤ List.length l0))
 (∃ n7 : Int,
 (∃ n8 : Int,
 ((Says C 22 [(D.agg [(D.sl (n0) 7 (List.take (n0 * 7) (List.drop 0 l0)))]), D.nil] [(D.val (vI n7)), (D.val (vI n8))]) ∧
 (bcase (decide (0 + n0 * 7 ≤ List.length l0))
 (bcase (decide (0 + n2 * 1 ≤ List.length l2))
 ((∃ n9 : Int,
 ((Says C 23 [(D.agg [(D.sl (n0) 7 (List.take (n0 * 7) (List.drop 0 l0)))]), (D.sl (n2) 1 (List.take (n2 * 1) (List.drop 0 l2)))] [D.nil, (D.val (vI n9))]) ∧
 (bcase (n3 == n8)
 (bcase (n1 == n7)
 (bcase (n5 == n9)
 (bcase (decide (0 + n4 * 2 ≤ List.length cs1))
 (((Says C 24 [(D.sl (n4) 2 (List.take (n4 * 2) (List.drop 0 cs1))), D.nil] [(D.val (Value.bool true))]) ∧
 (k [(D.val (Value.bool true))])) ∨
 ((Says C 24 [(D.sl (n4) 2 (List.take (n4 * 2) (List.drop 0 cs1))), D.nil] [(D.val (Value.bool false))]) ∧
 (k [(D.val (Value.bool false))])))
 False)
 (k [(D.val (Value.bool false))]))
 (k [(D.val (Value.bool false))]))
 (k [(D.val (Value.bool false))])))) ∨
 (∃ n9 : Nat,
 (∃ cs2 : List Go.Value,
 (∃ n10 : Int,
 ((Says C 23 [(D.agg [(D.sl (n0) 7 (List.take (n0 * 7) (List.drop 0 l0)))]), (D.sl (n2) 1 (List.take (n2 * 1) (List.drop 0 l2)))] [(D.sl (n9) 2 (cs2)), (D.val (vI n10))]) ∧
 (bcase (n3 == n8)
 (bcase (n1 == n7)
 (bcase (n5 == n10)
 (bcase (decide (0 + n4 * 2 ≤ List.length cs1))
 (bcase (decide (0 + n9 * 2 ≤ List.length cs2))
 (((Says C 24 [(D.sl (n4) 2 (List.take (n4 * 2) (List.drop 0 cs1))), (D.sl (n9) 2 (List.take (n9 * 2) (List.drop 0 cs2)))] [(D.val (Value.bool true))]) ∧
 (k [(D.val (Value.bool true))])) ∨
 ((Says C 24 [(D.sl (n4) 2 (List.take (n4 * 2) (List.drop 0 cs1))), (D.sl (n9) 2 (List.take (n9 * 2) (List.drop 0 cs2)))] [(D.val (Value.bool false))]) ∧
 (k [(D.val (Value.bool false))])))
 False)
 False)
 (k [(D.val (Value.bool false))]))
 (k [(D.val (Value.bool false))]))
 (k [(D.val (Value.bool false))])))))))
 False)
 False))))
 False))))
 False))))))
 False)
 False))
 False))
 False))))
 False)))
 False))) ∨
 ((Says C 8 [(D.agg [(D.sl (n0) 7 (List.take (n0 * 7) (List.drop 0 l0)))])] [(D.val (Value.bool false))]) ∧
 (k [(D.val (Value.bool true))])))
 False)) ∨
 ((Says C 7 [] [(D.val (Value.bool false))]) ∧
 (k [(D.val (Value.bool false))]))) := by kernel_rfl
def gBxsnn (C : Ct) (L : AtLoop) (n0 : Nat) (c0 : Nat) (l0 : List Value) (k : List D → Prop) : Prop := wpFn Try.prog (hK C) L 0 4 #[.agg #[.slice (some ⟨500, 0, none⟩) n0 c0], .slice none 0 0, .slice none 0 0] (heapOf [(500, .sym l0 false 7)]) (dataK k)
theorem gBxsnn_text (C : Ct) (L : AtLoop) (n0 : Nat) (c0 : Nat) (l0 : List Go.Value) (k : List D → Prop) : gBxsnn C L n0 c0 l0 k =
 (((Says C 7 [] [(D.val (Value.bool true))]) ∧
 (bcase (decide (0 + n0 * 7 ≤ List.length l0))
 (((Says C 8 [(D.agg [(D.sl (n0) 7 (List.take (n0 * 7) (List.drop 0 l0)))])] [(D.val (Value.bool true))]) ∧
 (bcase (decide (0 + n0 * 7 ≤ List.length l0))
 ((Says C 10 [(D.agg [(D.sl (n0) 7 (List.take (n0 * 7) (List.drop 0 l0)))])] [(D.agg [(D.sl (n0) 7 (List.take (n0 * 7) (List.drop 0 l0)))])]) ∧
 ((Says C 18 [D.nil] [(D.sl 0 2 [])]) ∧
 (bcase (decide (0 + n0 * 7 ≤ List.length (List.take (n0 * 7) (List.drop 0 l0))))
 (∃ n1 : Int,
 (∃ n2 : Int,
 ((Says C 17 [(D.agg [(D.sl (n0) 7 (List.take (n0 * 7) (List.drop 0 (List.take (n0 * 7) (List.drop 0 l0)))))]), (D.sl 0 2 [])] [(D.val (vI n1)), (D.val (vI n2))]) ∧
 (bcase (decide (0 + n0 * 7 ≤ List.length l0))
 ((Says C 10 [(D.agg [(D.sl (n0) 7 (List.take (n0 * 7) (List.drop 0 l0)))])] [(D.agg [(D.sl (n0) 7 (List.take (n0 * 7) (List.drop 0 l0)))])]) ∧
 ((Says C 20 [D.nil] [(D.sl 0 1 [])]) ∧
 (bcase (decide (0 + n0 * 7 ≤ List.length (List.take (n0 * 7) (List.drop 0 l0))))
 ((∃ n3 : Int,
 ((Says C 19 [(D.agg [(D.sl (n0) 7 (List.take (n0 * 7) (List.drop 0 (List.take (n0 * 7) (List.drop 0 l0)))))]), (D.sl 0 1 [])] [D.nil, (D.val (vI n3))]) ∧
 (bcase (decide (0 + n0 * 7 ≤ List.length l0))
 (∃ n4 : Int,
 ((Says C 21 [(D.agg [(D.sl (n0) 7 (List.take (n0 * 7) (List.drop 0 l0)))])] [(D.val (vI n4))]) ∧
 (bcase (n4 != 0)
 (bcase (n2 == n4)
 (bcase (n3 == n4)
 (bcase (n1 == 0)
 (k [(D.val (Value.bool true))])
 (k [(D.val (Value.bool false))]))
 (k [(D.val (Value.bool false))]))
 (k [(D.val (Value.bool false))]))
 (bcase (decide (0 + n0 * 7 ≤ List.length l0))
 (∃ n5 : Int,
 (∃ n6 : Int,
 ((Says C 22 [(D.agg [(D.sl (n0) 7 (List.take (n0 * 7) (List.drop 0 l0)))]), D.nil] [(D.val (vI n5)), (D.val (vI n6))]) ∧
 (bcase (decide (0 + n0 * 7 ≤ List.length l0))
 ((∃ n7 : Int,
 ((Says C 23 [(D.agg [(D.sl (n0) 7 (List.take (n0 * 7) (List.drop 0 l0)))]), D.nil] [D.nil, (D.val (vI n7))]) ∧
 (bcase (n2 == n6)
 (bcase (n1 == n5)
 (bcase (n3 == n7)
 (((Says C 24 [D.nil, D.nil] [(D.val (Value.bool true))]) ∧
 (k [(D.val (Value.bool true))])) ∨
 ((Says C 24 [D.nil, D.nil] [(D.val (Value.bool false))]) ∧
 (k [(D.val (Value.bool false))])))
 (k [(D.val (Value.bool false))]))
 (k [(D.val (Value.bool false))]))
 (k [(D.val (Value.bool false))])))) ∨
 (∃ n7 : Nat,
 (∃ cs1 : List Go.Value,
 (∃ n8 : Int,
 ((Says C 23 [(D.agg [(D.sl (n0) 7 (List.take (n0 * 7) (List.drop 0 l0)))]), D.nil] [(D.sl (n7) 2 (cs1)), (D.val (vI n8))]) ∧
 (bcase (n2 == n6)
 (bcase (n1 == n5)
 (bcase (n3 == n8)
 (bcase (decide (0 + n7 * 2 ≤ List.length cs1))
 (((Says C 24 [D.nil, (D.sl (n7) 2 (List.take (n7 * 2) (List.drop 0 cs1)))] [(D.val (Value.bool true))]) ∧
 (k [(D.val (Value.bool true))])) ∨
 ((Says C 24 [D.nil, (D.sl (n7) 2 (List.take (n7 * 2) (List.drop 0 cs1)))] [(D.val (Value.bool false))]) ∧
 (k [(D.val (Value.bool false))])))
 False)
 (k [(D.val (Value.bool false))]))
 (k [(D.val (Value.bool false))]))
 (k [(D.val (Value.bool false))])))))))
 False))))
 False))))
 False))) ∨
 (∃ n3 : Nat,
 (∃ cs1 : List Go.Value,
 (∃ n4 : Int,
 ((Says C 19 [(D.agg [(D.sl (n0) 7 (List.take (n0 * 7) (List.drop 0 (List.take (n0 * 7) (List.drop 0 l0)))))]), (D.sl 0 1 [])] [(D.sl (n3) 2 (cs1)), (D.val (vI n4))]) ∧
 (bcase (decide (0 + n0 * 7 ≤ List.length l0))
 (∃ n5 : Int,
 ((Says C 21 [(D.agg [(D.sl (n0) 7 (List.take (n0 * 7) (List.drop 0 l0)))])] [(D.val (vI n5))]) ∧
 (bcase (n5 != 0)
 (bcase (n2 == n5)
 (bcase (n4 == n5)
 (bcase (n1 == 0)
 (bcase ((↑n3 : Int) == 0)
 (k [(D.val (Value.bool true))])
 (k [(D.val (Value.bool false))]))
 (k [(D.val (Value.bool false))]))
 (k [(D.val (Value.bool false))]))
 (k [(D.val (Value.bool false))]))
 (bcase (decide (0 + n0 * 7 ≤ List.length l0))
 (∃ n6 : Int,
 (∃ n7 : Int,
 ((Says C 22 [(D.agg [(D.sl (n0) 7 (List.take (n0 * 7) (List.drop 0 l0)))]), D.nil] [(D.val (vI n6)), (D.val (vI n7))]) ∧
 (bcase (decide (0 + n0 * 7 ≤ List.length l0))
 ((∃ n8 : Int,
 ((Says C 23 [(D.agg [(D.sl (n0) 7 (List.take (n0 * 7) (List.drop 0 l0)))]), D.nil] [D.nil, (D.val (vI n8))]) ∧
 (bcase (n2 == n7)
 (bcase (n1 == n6)
 (bcase (n4 == n8)
 (bcase (decide (0 + n3 * 2 ≤ List.length cs1))
 (((Says C 24 [(D.sl (n3) 2 (List.take (n3 * 2) (List.drop 0 cs1))), D.nil] [(D.val (Value.bool true))]) ∧
 (k [(D.val (Value.bool true))])) ∨
 ((Says C 24 [(D.sl (n3) 2 (List.take (n3 * 2) (List.drop 0 cs1))), D.nil] [(D.val (Value.bool false))]) ∧
 (k [(D.val (Value.bool false))])))
 False)
 (k [(D.val (Value.bool false))]))
 (k [(D.val (Value.bool false))]))
 (k [(D.val (Value.bool false))])))) ∨
 (∃ n8 : Nat,
 (∃ cs2 : List Go.Value,
 (∃ n9 : Int,
 ((Says C 23 [(D.agg [(D.sl (n0) 7 (List.take (n0 * 7) (List.drop 0 l0)))]), D.nil] [(D.sl (n8) 2 (cs2)), (D.val (vI n9))]) ∧
 (bcase (n2 == n7)
 (bcase (n1 == n6)
 (bcase (n4 == n9)
 (bcase (decide (0 + n3 * 2 ≤ List.length cs1))
 (bcase (decide (0 + n8 * 2 ≤ List.length cs2))
 (((Says C 24 [(D.sl (n3) 2 (List.take (n3 * 2) (List.drop 0 cs1))), (D.sl (n8) 2 (List.take (n8 * 2) (List.drop 0 cs2)))] [(D.val (Value.bool true))]) ∧
 (k [(D.val (Value.bool true))])) ∨
 ((Says C 24 [(D.sl (n3) 2 (List.take (n3 * 2) (List.drop 0 cs1))), (D.sl (n8) 2 (List.take (n8 * 2) (List.drop 0 cs2)))] [(D.val (Value.bool false))]) ∧
 (k [(D.val (Value.bool false))])))
 False)
 False)
 (k [(D.val (Value.bool false))]))
 (k [(D.val (Value.bool false))]))
 (k [(D.val (Value.bool false))])))))))
 False))))
 False))))
 False))))))
 False)))
 False))))
 False)))
 False)) ∨
 ((Says C 8 [(D.agg [(D.sl (n0) 7 (List.take (n0 * 7) (List.drop 0 l0)))])] [(D.val (Value.bool false))]) ∧
 (k [(D.val (Value.bool true))])))
 False)) ∨
 ((Says C 7 [] [(D.val (Value.bool false))]) ∧
 (k [(D.val (Value.bool false))]))) := by kernel_rfl
def gBxnss (C : Ct) (L : AtLoop) (n1 : Nat) (c1 : Nat) (l1 : List Value) (n2 : Nat) (c2 : Nat) (l2 : List Value) (k : List D → Prop) : Prop := wpFn Try.prog (hK C) L 0 4 #[.agg #[.slice none 0 0], .slice (some ⟨500, 0, none⟩) n1 c1, .slice (some ⟨501, 0, none⟩) n2 c2] (heapOf [(500, .sym l1 false 2), (501, .sym l2 false 1)]) (dataK k)
theorem gBxnss_text (C : Ct) (L : AtLoop) (n1 : Nat) (c1 : Nat) (l1 : List Go.Value) (n2 : Nat) (c2 : Nat) (l2 : List Go.Value) (k : List D → Prop) : gBxnss C L n1 c1 l1 n2 c2 l2 k =
 (((Says C 7 [] [(D.val (Value.bool true))]) ∧
 (((Says C 8 [(D.agg [D.nil])] [(D.val (Value.bool true))]) ∧
 (bcase (decide ((↑n1 : Int) > 7))
 (k [(D.val (Value.bool true))])
 (bcase (decide ((↑n2 : Int) > 7))
 (k [(D.val (Value.bool true))])
 ((Says C 10 [(D.agg [D.nil])] [(D.agg [(D.sl 0 7 [])])]) ∧
 (bcase (decide (0 + n1 * 2 ≤ List.length l1))
 ((Says C 18 [(D.sl (n1) 2 (List.take (n1 * 2) (List.drop 0 l1)))] [(D.sl (n1) 2 (List.take (n1 * 2) (List.drop 0 l1)))]) ∧
 (bcase (decide (0 + n1 * 2 ≤ List.length (List.take (n1 * 2) (List.drop 0 l1))))
 (∃ n3 : Int,
 (∃ n4 : Int,
 ((Says C 17 [(D.agg [(D.sl 0 7 [])]), (D.sl (n1) 2 (List.take (n1 * 2) (List.drop 0 (List.take (n1 * 2) (List.drop 0 l1)))))] [(D.val (vI n3)), (D.val (vI n4))]) ∧
 ((Says C 10 [(D.agg [D.nil])] [(D.agg [(D.sl 0 7 [])])]) ∧
 (bcase (decide (0 + n2 * 1 ≤ List.length l2))
 ((Says C 20 [(D.sl (n2) 1 (List.take (n2 * 1) (List.drop 0 l2)))] [(D.sl (n2) 1 (List.take (n2 * 1) (List.drop 0 l2)))]) ∧
 (bcase (decide (0 + n2 * 1 ≤ List.length (List.take (n2 * 1) (List.drop 0 l2))))
 ((∃ n5 : Int,
 ((Says C 19 [(D.agg [(D.sl 0 7 [])]), (D.sl (n2) 1 (List.take (n2 * 1) (List.drop 0 (List.take (n2 * 1) (List.drop 0 l2)))))] [D.nil, (D.val (vI n5))]) ∧
 (∃ n6 : Int,
 ((Says C 21 [(D.agg [D.nil])] [(D.val (vI n6))]) ∧
 (bcase (n6 != 0)
 (bcase (n4 == n6)
 (bcase (n5 == n6)
 (bcase (n3 == 0)
 (k [(D.val (Value.bool true))])
 (k [(D.val (Value.bool false))]))
 (k [(D.val (Value.bool false))]))
 (k [(D.val (Value.bool false))]))
 (bcase (decide (0 + n1 * 2 ≤ List.length l1))
 (∃ n7 : Int,
 (∃ n8 : Int,
 ((Says C 22 [(D.agg [D.nil]), (D.sl (n1) 2 (List.take (n1 * 2) (List.drop 0 l1)))] [(D.val (vI n7)), (D.val (vI n8))]) ∧
 (bcase (decide (0 + n2 * 1 ≤ List.length l2))
 ((∃ n9 : Int,
 ((Says C 23 [(D.agg [D.nil]), (D.sl (n2) 1 (List.take (n2 * 1) (List.drop 0 l2)))] [D.nil, (D.val (vI n9))]) ∧
 (bcase (n4 == n8)
 (bcase (n3 == n7)
 (bcase (n5 == n9)
 (((Says C 24 [D.nil, D.nil] [(D.val (Value.bool true))]) ∧
 (k [(D.val (Value.bool true))])) ∨
 ((Says C 24 [D.nil, D.nil] [(D.val (Value.bool false))]) ∧
 (k [(D.val (Value.bool false))])))
 (k [(D.val (Value.bool false))]))
 (k [(D.val (Value.bool false))]))
 (k [(D.val (Value.bool false))])))) ∨
 (∃ n9 : Nat,
 (∃ cs1 : List Go.Value,
 (∃ n10 : Int,
 ((Says C 23 [(D.agg [D.nil]), (D.sl (n2) 1 (List.take (n2 * 1) (List.drop 0 l2)))] [(D.sl (n9) 2 (cs1)), (D.val (vI n10))]) ∧
 (bcase (n4 == n8)
 (bcase (n3 == n7)
 (bcase (n5 == n10)
 (bcase (decide (0 + n9 * 2 ≤ List.length cs1))
 (((Says C 24 [D.nil, (D.sl (n9) 2 (List.take (n9 * 2) (List.drop 0 cs1)))] [(D.val (Value.bool true))]) ∧
 (k [(D.val (Value.bool true))])) ∨
 ((Says C 24 [D.nil, (D.sl (n9) 2 (List.take (n9 * 2) (List.drop 0 cs1)))] [(D.val (Value.bool false))]) ∧
 (k [(D.val (Value.bool false))])))
 False)
 (k [(D.val (Value.bool false))]))
 (k [(D.val (Value.bool false))]))
 (k [(D.val (Value.bool false))])))))))
 False))))
 False)))))) ∨
 (∃ n5 : Nat,
 (∃ cs1 : List Go.Value,
 (∃ n6 : Int,
 ((Says C 19 [(D.agg [(D.sl 0 7 [])]), (D.sl (n2) 1 (List.take (n2 * 1) (List.drop 0 (List.take (n2 * 1) (List.drop 0 l2)))))] [(D.sl (n5) 2 (cs1)), (D.val (vI n6))]) ∧
 (∃ n7 : Int,
 ((Says C 21 [(D.agg [D.nil])] [(D.val (vI n7))]) ∧
 (bcase (n7 != 0)
 (bcase (n4 == n7)
 (bcase (n6 == n7)
 (bcase (n3 == 0)
 (bcase ((↑n5 : Int) == 0)
 (k [(D.val (Value.bool true))])
 (k [(D.val (Value.bool false))]))
 (k [(D.val (Value.bool false))]))
 (k [(D.val (Value.bool false))]))
 (k [(D.val (Value.bool false))]))
 (bcase (decide (0 + n1 * 2 ≤ List.length l1))
 (∃ n8 : Int,
 (∃ n9 : Int,
 ((Says C 22 [(D.agg [D.nil]), (D.sl (n1) 2 (List.take (n1 * 2) (List.drop 0 l1)))] [(D.val (vI n8)), (D.val (vI n9))]) ∧
 (bcase (decide (0 + n2 * 1 ≤ List.length l2))
 ((∃ n10 : Int,
 ((Says C 23 [(D.agg [D.nil]), (D.sl (n2) 1 (List.take (n2 * 1) (List.drop 0 l2)))] [D.nil, (D.val (vI n10))]) ∧
 (bcase (n4 == n9)
 (bcase (n3 == n8)
 (bcase (n6 == n10)
 (bcase (decide (0 + n5 * 2 ≤ List.length cs1))
 (((Says C 24 [(D.sl (n5) 2 (List.take (n5 * 2) (List.drop 0 cs1))), D.nil] [(D.val (Value.bool true))]) ∧
 (k [(D.val (Value.bool true))])) ∨
 ((Says C 24 [(D.sl (n5) 2 (List.take (n5 * 2) (List.drop 0 cs1))), D.nil] [(D.val (Value.bool false))]) ∧
 (k [(D.val (Value.bool false))])))
 False)
 (k [(D.val (Value.bool false))]))
 (k [(D.val (Value.bool false))]))
 (k [(D.val (Value.bool false))])))) ∨
 (∃ n10 : Nat,
 (∃ cs2 : List Go.Value,
 (∃ n11 : Int,
 ((Says C 23 [(D.agg [D.nil]), (D.sl (n2) 1 (List.take (n2 * 1) (List.drop 0 l2)))] [(D.sl (n10) 2 (cs2)), (D.val (vI n11))]) ∧
 (bcase (n4 == n9)
 (bcase (n3 == n8)
 (bcase (n6 == n11)
 (bcase (decide (0 + n5 * 2 ≤ List.length cs1))
 (bcase (decide (0 + n10 * 2 ≤ List.length cs2))
 (((Says C 24 [(D.sl (n5) 2 (List.take (n5 * 2) (List.drop 0 cs1))), (D.sl (n10) 2 (List.take (n10 * 2) (List.drop 0 cs2)))] [(D.val (Value.bool true))]) ∧
 (k [(D.val (Value.bool true))])) ∨
 ((Says C 24 [(D.sl (n5) 2 (List.take (n5 * 2) (List.drop 0 cs1))), (D.sl (n10) 2 (List.take (n10 * 2) (List.drop 0 cs2)))] [(D.val (Value.bool false))]) ∧
 (k [(D.val (Value.bool false))])))
 False)
 False)
 (k [(D.val (Value.bool false))]))
 (k [(D.val (Value.bool false))]))
 (k [(D.val (Value.bool false))])))))))
 False))))
 False)))))))))
 False))
 False)))))
 False))
 False))))) ∨
 ((Says C 8 [(D.agg [D.nil])] [(D.val (Value.bool false))]) ∧
 (k [(D.val (Value.bool true))])))) ∨
 ((Says C 7 [] [(D.val (Value.bool false))]) ∧
 (k [(D.val (Value.bool false))]))) := by kernel_rfl
def gBxnsn (C : Ct) (L : AtLoop) (n1 : Nat) (c1 : Nat) (l1 : List Value) (k : List D → Prop) : Prop := wpFn Try.prog (hK C) L 0 4 #[.agg #[.slice none 0 0], .slice (some ⟨500, 0, none⟩) n1 c1, .slice none 0 0] (heapOf [(500, .sym l1 false 2)]) (dataK k)
theorem gBxnsn_text (C : Ct) (L : AtLoop) (n1 : Nat) (c1 : Nat) (l1 : List Go.Value) (k : List D → Prop) : gBxnsn C L n1 c1 l1 k =
 (((Says C 7 [] [(D.val (Value.bool true))]) ∧
 (((Says C 8 [(D.agg [D.nil])] [(D.val (Value.bool true))]) ∧
 (bcase (decide ((↑n1 : Int) > 7))
 (k [(D.val (Value.bool true))])
 ((Says C 10 [(D.agg [D.nil])] [(D.agg [(D.sl 0 7 [])])]) ∧
 (bcase (decide (0 + n1 * 2 ≤ List.length l1))
 ((Says C 18 [(D.sl (n1) 2 (List.take (n1 * 2) (List.drop 0 l1)))] [(D.sl (n1) 2 (List.take (n1 * 2) (List.drop 0 l1)))]) ∧
 (bcase (decide (0 + n1 * 2 ≤ List.length (List.take (n1 * 2) (List.drop 0 l1))))
 (∃ n2 : Int,
 (∃ n3 : Int,
 ((Says C 17 [(D.agg [(D.sl 0 7 [])]), (D.sl (n1) 2 (List.take (n1 * 2) (List.drop 0 (List.take (n1 * 2) (List.drop 0 l1)))))] [(D.val (vI n2)), (D.val (vI n3))]) ∧
 ((Says C 10 [(D.agg [D.nil])] [(D.agg [(D.sl 0 7 [])])]) ∧
 ((Says C 20 [D.nil] [(D.sl 0 1 [])]) ∧
 ((∃ n4 : Int,
 ((Says C 19 [(D.agg [(D.sl 0 7 [])]), (D.sl 0 1 [])] [D.nil, (D.val (vI n4))]) ∧
 (∃ n5 : Int,
 ((Says C 21 [(D.agg [D.nil])] [(D.val (vI n5))]) ∧
 (bcase (n5 != 0)
 (bcase (n3 == n5)
 (bcase (n4 == n5)
 (bcase (n2 == 0)
 (k [(D.val (Value.bool true))])
 (k [(D.val (Value.bool false))]))
 (k [(D.val (Value.bool false))]))
 (k [(D.val (Value.bool false))]))
 (bcase (decide (0 + n1 * 2 ≤ List.length l1))
 (∃ n6 : Int,
 (∃ n7 : Int,
 ((Says C 22 [(D.agg [D.nil]), (D.sl (n1) 2 (List.take (n1 * 2) (List.drop 0 l1)))] [(D.val (vI n6)), (D.val (vI n7))]) ∧
 ((∃ n8 : Int,
 ((Says C 23 [(D.agg [D.nil]), D.nil] [D.nil, (D.val (vI n8))]) ∧
 (bcase (n3 == n7)
 (bcase (n2 == n6)
 (bcase (n4 == n8)
 (((Says C 24 [D.nil, D.nil] [(D.val (Value.bool true))]) ∧
 (k [(D.val (Value.bool true))])) ∨
 ((Says C 24 [D.nil, D.nil] [(D.val (Value.bool false))]) ∧
 (k [(D.val (Value.bool false))])))
 (k [(D.val (Value.bool false))]))
 (k [(D.val (Value.bool false))]))
 (k [(D.val (Value.bool false))])))) ∨
 (∃ n8 : Nat,
 (∃ cs1 : List Go.Value,
 (∃ n9 : Int,
 ((Says C 23 [(D.agg [D.nil]), D.nil] [(D.sl (n8) 2 (cs1)), (D.val (vI n9))]) ∧
 (bcase (n3 == n7)
 (bcase (n2 == n6)
 (bcase (n4 == n9)
 (bcase (decide (0 + n8 * 2 ≤ List.length cs1))
 (((Says C 24 [D.nil, (D.sl (n8) 2 (List.take (n8 * 2) (List.drop 0 cs1)))] [(D.val (Value.bool true))]) ∧
 (k [(D.val (Value.bool true))])) ∨
 ((Says C 24 [D.nil, (D.sl (n8) 2 (List.take (n8 * 2) (List.drop 0 cs1)))] [(D.val (Value.bool false))]) ∧
 (k [(D.val (Value.bool false))])))
 False)
 (k [(D.val (Value.bool false))]))
 (k [(D.val (Value.bool false))]))
 (k [(D.val (Value.bool false))]))))))))))
 False)))))) ∨
 (∃ n4 : Nat,
 (∃ cs1 : List Go.Value,
 (∃ n5 : Int,
 ((Says C 19 [(D.agg [(D.sl 0 7 [])]), (D.sl 0 1 [])] [(D.sl (n4) 2 (cs1)), (D.val (vI n5))]) ∧
 (∃ n6 : Int,
 ((Says C 21 [(D.agg [D.nil])] [(D.val (vI n6))]) ∧
 (bcase (n6 != 0)
 (bcase (n3 == n6)
 (bcase (n5 == n6)
 (bcase (n2 == 0)
 (bcase ((↑n4 : Int) == 0)
 (k [(D.val (Value.bool true))])
 (k [(D.val (Value.bool false))]))
 (k [(D.val (Value.bool false))]))
 (k [(D.val (Value.bool false))]))
 (k [(D.val (Value.bool false))]))
 (bcase (decide (0 + n1 * 2 ≤ List.length l1))
 (∃ n7 : Int,
 (∃ n8 : Int,
 ((Says C 22 [(D.agg [D.nil]), (D.sl (n1) 2 (List.take (n1 * 2) (List.drop 0 l1)))] [(D.val (vI n7)), (D.val (vI n8))]) ∧
 ((∃ n9 : Int,
 ((Says C 23 [(D.agg [D.nil]), D.nil] [D.nil, (D.val (vI n9))]) ∧
 (bcase (n3 == n8)
 (bcase (n2 == n7)
 (bcase (n5 == n9)
 (bcase (decide (0 + n4 * 2 ≤ List.length cs1))
 (((Says C 24 [(D.sl (n4) 2 (List.take (n4 * 2) (List.drop 0 cs1))), D.nil] [(D.val (Value.bool true))]) ∧
 (k [(D.val (Value.bool true))])) ∨
 ((Says C 24 [(D.sl (n4) 2 (List.take (n4 * 2) (List.drop 0 cs1))), D.nil] [(D.val (Value.bool false))]) ∧
 (k [(D.val (Value.bool false))])))
 False)
 (k [(D.val (Value.bool false))]))
 (k [(D.val (Value.bool false))]))
 (k [(D.val (Value.bool false))])))) ∨
 (∃ n9 : Nat,
 (∃ cs2 : List Go.Value,
 (∃ n10 : Int,
 ((Says C 23 [(D.agg [D.nil]), D.nil] [(D.sl (n9) 2 (cs2)), (D.val (vI n10))]) ∧
 (bcase (n3 == n8)
 (bcase (n2 == n7)
 (bcase (n5 == n10)
 (bcase (decide (0 + n4 * 2 ≤ List.length cs1))
 (bcase (decide (0 + n9 * 2 ≤ List.length cs2))
 (((Says C 24 [(D.sl (n4) 2 (List.take (n4 * 2) (List.drop 0 cs1))), (D.sl (n9) 2 (List.take (n9 * 2) (List.drop 0 cs2)))] [(D.val (Value.bool true))]) ∧
 (k [(D.val (Value.bool true))])) ∨
 ((Says C 24 [(D.sl (n4) 2 (List.take (n4 * 2) (List.drop 0 cs1))), (D.sl (n9) 2 (List.take (n9 * 2) (List.drop 0 cs2)))] [(D.val (Value.bool false))]) ∧
 (k [(D.val (Value.bool false))])))
 False)
 False)
 (k [(D.val (Value.bool false))]))
 (k [(D.val (Value.bool false))]))
 (k [(D.val (Value.bool false))]))))))))))
 False))))))))))))))
 False))
 False)))) ∨
 ((Says C 8 [(D.agg [D.nil])] [(D.val (Value.bool false))]) ∧
 (k [(D.val (Value.bool true))])))) ∨
 ((Says C 7 [] [(D.val (Value.bool false))]) ∧
 (k [(D.val (Value.bool false))]))) := by kernel_rfl
def gBxnns (C : Ct) (L : AtLoop) (n2 : Nat) (c2 : Nat) (l2 : List Value) (k : List D → Prop) : Prop := wpFn Try.prog (hK C) L 0 4 #[.agg #[.slice none 0 0], .slice none 0 0, .slice (some ⟨500, 0, none⟩) n2 c2] (heapOf [(500, .sym l2 false 1)]) (dataK k)
theorem gBxnns_text (C : Ct) (L : AtLoop) (n2 : Nat) (c2 : Nat) (l2 : List Go.Value) (k : List D → Prop) : gBxnns C L n2 c2 l2 k =
 (((Says C 7 [] [(D.val (Value.bool true))]) ∧
 (((Says C 8 [(D.agg [D.nil])] [(D.val (Value.bool true))]) ∧
 (bcase (decide ((↑n2 : Int) > 7))
 (k [(D.val (Value.bool true))])
 ((Says C 10 [(D.agg [D.nil])] [(D.agg [(D.sl 0 7 [])])]) ∧
 ((Says C 18 [D.nil] [(D.sl 0 2 [])]) ∧
 (∃ n1 : Int,
 (∃ n3 : Int,
 ((Says C 17 [(D.agg [(D.sl 0 7 [])]), (D.sl 0 2 [])] [(D.val (vI n1)), (D.val (vI n3))]) ∧
 ((Says C 10 [(D.agg [D.nil])] [(D.agg [(D.sl 0 7 [])])]) ∧
 (bcase (decide (0 + n2 * 1 ≤ List.length l2))
 ((Says C 20 [(D.sl (n2) 1 (List.take (n2 * 1) (List.drop 0 l2)))] [(D.sl (n2) 1 (List.take (n2 * 1) (List.drop 0 l2)))]) ∧
 (bcase (decide (0 + n2 * 1 ≤ List.length (List.take (n2 * 1) (List.drop 0 l2))))
 ((∃ n4 : Int,
 ((Says C 19 [(D.agg [(D.sl 0 7 [])]), (D.sl (n2) 1 (List.take (n2 * 1) (List.drop 0 (List.take (n2 * 1) (List.drop 0 l2)))))] [D.nil, (D.val (vI n4))]) ∧
 (∃ n5 : Int,
 ((Says C 21 [(D.agg [D.nil])] [(D.val (vI n5))]) ∧
 (bcase (n5 != 0)
 (bcase (n3 == n5)
 (bcase (n4 == n5)
 (bcase (n1 == 0)
 (k [(D.val (Value.bool true))])
 (k [(D.val (Value.bool false))]))
 (k [(D.val (Value.bool false))]))
 (k [(D.val (Value.bool false))]))
 (∃ n6 : Int,
 (∃ n7 : Int,
 ((Says C 22 [(D.agg [D.nil]), D.nil] [(D.val (vI n6)), (D.val (vI n7))]) ∧
 (bcase (decide (0 + n2 * 1 ≤ List.length l2))
 ((∃ n8 : Int,
 ((Says C 23 [(D.agg [D.nil]), (D.sl (n2) 1 (List.take (n2 * 1) (List.drop 0 l2)))] [D.nil, (D.val (vI n8))]) ∧
 (bcase (n3 == n7)
 (bcase (n1 == n6)
 (bcase (n4 == n8)
 (((Says C 24 [D.nil, D.nil] [(D.val (Value.bool true))]) ∧
 (k [(D.val (Value.bool true))])) ∨
 ((Says C 24 [D.nil, D.nil] [(D.val (Value.bool false))]) ∧
 (k [(D.val (Value.bool false))])))
 (k [(D.val (Value.bool false))]))
 (k [(D.val (Value.bool false))]))
 (k [(D.val (Value.bool false))])))) ∨
 (∃ n8 : Nat,
 (∃ cs1 : List Go.Value,
 (∃ n9 : Int,
 ((Says C 23 [(D.agg [D.nil]), (D.sl (n2) 1 (List.take (n2 * 1) (List.drop 0 l2)))] [(D.sl (n8) 2 (cs1)), (D.val (vI n9))]) ∧
 (bcase (n3 == n7)
 (bcase (n1 == n6)
 (bcase (n4 == n9)
 (bcase (decide (0 + n8 * 2 ≤ List.length cs1))
 (((Says C 24 [D.nil, (D.sl (n8) 2 (List.take (n8 * 2) (List.drop 0 cs1)))] [(D.val (Value.bool true))]) ∧
 (k [(D.val (Value.bool true))])) ∨
 ((Says C 24 [D.nil, (D.sl (n8) 2 (List.take (n8 * 2) (List.drop 0 cs1)))] [(D.val (Value.bool false))]) ∧
 (k [(D.val (Value.bool false))])))
 False)
 (k [(D.val (Value.bool false))]))
 (k [(D.val (Value.bool false))]))
 (k [(D.val (Value.bool false))])))))))
 False))))))))) ∨
 (∃ n4 : Nat,
 (∃ cs1 : List Go.Value,
 (∃ n5 : Int,
 ((Says C 19 [(D.agg [(D.sl 0 7 [])]), (D.sl (n2) 1 (List.take (n2 * 1) (List.drop 0 (List.take (n2 * 1) (List.drop 0 l2)))))] [(D.sl (n4) 2 (cs1)), (D.val (vI n5))]) ∧
 (∃ n6 : Int,
 ((Says C 21 [(D.agg [D.nil])] [(D.val (vI n6))]) ∧
 (bcase (n6 != 0)
 (bcase (n3 == n6)
 (bcase (n5 == n6)
 (bcase (n1 == 0)
 (bcase ((↑n4 : Int) == 0)
 (k [(D.val (Value.bool true))])
 (k [(D.val (Value.bool false))]))
 (k [(D.val (Value.bool false))]))
 (k [(D.val (Value.bool false))]))
 (k [(D.val (Value.bool false))]))
 (∃ n7 : Int,
 (∃ n8 : Int,
 ((Says C 22 [(D.agg [D.nil]), D.nil] [(D.val (vI n7)), (D.val (vI n8))]) ∧
 (bcase (decide (0 + n2 * 1 ≤ List.length l2))
 ((∃ n9 : Int,
 ((Says C 23 [(D.agg [D.nil]), (D.sl (n2) 1 (List.take (n2 * 1) (List.drop 0 l2)))] [D.nil, (D.val (vI n9))]) ∧
 (bcase (n3 == n8)
 (bcase (n1 == n7)
 (bcase (n5 == n9)
 (bcase (decide (0 + n4 * 2 ≤ List.length cs1))
 (((Says C 24 [(D.sl (n4) 2 (List.take (n4 * 2) (List.drop 0 cs1))), D.nil] [(D.val (Value.bool true))]) ∧
 (k [(D.val (Value.bool true))])) ∨
 ((Says C 24 [(D.sl (n4) 2 (List.take (n4 * 2) (List.drop 0 cs1))), D.nil] [(D.val (Value.bool false))]) ∧
 (k [(D.val (Value.bool false))])))
 False)
 (k [(D.val (Value.bool false))]))
 (k [(D.val (Value.bool false))]))
 (k [(D.val (Value.bool false))])))) ∨
 (∃ n9 : Nat,
 (∃ cs2 : List Go.Value,
 (∃ n10 : Int,
 ((Says C 23 [(D.agg [D.nil]), (D.sl (n2) 1 (List.take (n2 * 1) (List.drop 0 l2)))] [(D.sl (n9) 2 (cs2)), (D.val (vI n10))]) ∧
 (bcase (n3 == n8)
 (bcase (n1 == n7)
 (bcase (n5 == n10)
 (bcase (decide (0 + n4 * 2 ≤ List.length cs1))
 (bcase (decide (0 + n9 * 2 ≤ List.length cs2))
 (((Says C 24 [(D.sl (n4) 2 (List.take (n4 * 2) (List.drop 0 cs1))), (D.sl (n9) 2 (List.take (n9 * 2) (List.drop 0 cs2)))] [(D.val (Value.bool true))]) ∧
 (k [(D.val (Value.bool true))])) ∨
 ((Says C 24 [(D.sl (n4) 2 (List.take (n4 * 2) (List.drop 0 cs1))), (D.sl (n9) 2 (List.take (n9 * 2) (List.drop 0 cs2)))] [(D.val (Value.bool false))]) ∧
 (k [(D.val (Value.bool false))])))
 False)
 False)
 (k [(D.val (Value.bool false))]))
 (k [(D.val (Value.bool false))]))
 (k [(D.val (Value.bool false))])))))))
 False))))))))))))
 False))
 False))))))))) ∨
 ((Says C 8 [(D.agg [D.nil])] [(D.val (Value.bool false))]) ∧
 (k [(D.val (Value.bool true))])))) ∨
 ((Says C 7 [] [(D.val (Value.bool false))]) ∧
 (k [(D.val (Value.bool false))]))) := by kernel_rfl
def gBxnnn (C : Ct) (L : AtLoop) (k : List D → Prop) : Prop := wpFn Try.prog (hK C) L 0 4 #[.agg #[.slice none 0 0], .slice none 0 0, .slice none 0 0] (heapOf []) (dataK k)
theorem gBxnnn_text (C : Ct) (L : AtLoop) (k : List D → Prop) : gBxnnn C L k =
 (((Says C 7 [] [(D.val (Value.bool true))]) ∧
 (((Says C 8 [(D.agg [D.nil])] [(D.val (Value.bool true))]) ∧
 ((Says C 10 [(D.agg [D.nil])] [(D.agg [(D.sl 0 7 [])])]) ∧
 ((Says C 18 [D.nil] [(D.sl 0 2 [])]) ∧
 (∃ n1 : Int,
 (∃ n2 : Int,
 ((Says C 17 [(D.agg [(D.sl 0 7 [])]), (D.sl 0 2 [])] [(D.val (vI n1)), (D.val (vI n2))]) ∧
 ((Says C 10 [(D.agg [D.nil])] [(D.agg [(D.sl 0 7 [])])]) ∧
 ((Says C 20 [D.nil] [(D.sl 0 1 [])]) ∧
 ((∃ n3 : Int,
 ((Says C 19 [(D.agg [(D.sl 0 7 [])]), (D.sl 0 1 [])] [D.nil, (D.val (vI n3))]) ∧
 (∃ n4 : Int,
 ((Says C 21 [(D.agg [D.nil])] [(D.val (vI n4))]) ∧
 (bcase (n4 != 0)
 (bcase (n2 == n4)
 (bcase (n3 == n4)
 (bcase (n1 == 0)
 (k [(D.val (Value.bool true))])
 (k [(D.val (Value.bool false))]))
 (k [(D.val (Value.bool false))]))
 (k [(D.val (Value.bool false))]))
 (∃ n5 : Int,
 (∃ n6 : Int,
 ((Says C 22 [(D.agg [D.nil]), D.nil] [(D.val (vI n5)), (D.val (vI n6))]) ∧
 ((∃ n7 : Int,
 ((Says C 23 [(D.agg [D.nil]), D.nil] [D.nil, (D.val (vI n7))]) ∧
 (bcase (n2 == n6)
 (bcase (n1 == n5)
 (bcase (n3 == n7)
 (((Says C 24 [D.nil, D.nil] [(D.val (Value.bool true))]) ∧
 (k [(D.val (Value.bool true))])) ∨
 ((Says C 24 [D.nil, D.nil] [(D.val (Value.bool false))]) ∧
 (k [(D.val (Value.bool false))])))
 (k [(D.val (Value.bool false))]))
 (k [(D.val (Value.bool false))]))
 (k [(D.val (Value.bool false))])))) ∨
 (∃ n7 : Nat,
 (∃ cs1 : List Go.Value,
 (∃ n8 : Int,
 ((Says C 23 [(D.agg [D.nil]), D.nil] [(D.sl (n7) 2 (cs1)), (D.val (vI n8))]) ∧
 (bcase (n2 == n6)
 (bcase (n1 == n5)
 (bcase (n3 == n8)
 (bcase (decide (0 + n7 * 2 ≤ List.length cs1))
 (((Says C 24 [D.nil, (D.sl (n7) 2 (List.take (n7 * 2) (List.drop 0 cs1)))] [(D.val (Value.bool true))]) ∧
 (k [(D.val (Value.bool true))])) ∨
 ((Says C 24 [D.nil, (D.sl (n7) 2 (List.take (n7 * 2) (List.drop 0 cs1)))] [(D.val (Value.bool false))]) ∧
 (k [(D.val (Value.bool false))])))
 False)
 (k [(D.val (Value.bool false))]))
 (k [(D.val (Value.bool false))]))
 (k [(D.val (Value.bool false))]))))))))))))))) ∨
 (∃ n3 : Nat,
 (∃ cs1 : List Go.Value,
 (∃ n4 : Int,
 ((Says C 19 [(D.agg [(D.sl 0 7 [])]), (D.sl 0 1 [])] [(D.sl (n3) 2 (cs1)), (D.val (vI n4))]) ∧
 (∃ n5 : Int,
 ((Says C 21 [(D.agg [D.nil])] [(D.val (vI n5))]) ∧
 (bcase (n5 != 0)
 (bcase (n2 == n5)
 (bcase (n4 == n5)
 (bcase (n1 == 0)
 (bcase ((↑n3 : Int) == 0)
 (k [(D.val (Value.bool true))])
 (k [(D.val (Value.bool false))]))
 (k [(D.val (Value.bool false))]))
 (k [(D.val (Value.bool false))]))
 (k [(D.val (Value.bool false))]))
 (∃ n6 : Int,
 (∃ n7 : Int,
 ((Says C 22 [(D.agg [D.nil]), D.nil] [(D.val (vI n6)), (D.val (vI n7))]) ∧
 ((∃ n8 : Int,
 ((Says C 23 [(D.agg [D.nil]), D.nil] [D.nil, (D.val (vI n8))]) ∧
 (bcase (n2 == n7)
 (bcase (n1 == n6)
 (bcase (n4 == n8)
 (bcase (decide (0 + n3 * 2 ≤ List.length cs1))
 (((Says C 24 [(D.sl (n3) 2 (List.take (n3 * 2) (List.drop 0 cs1))), D.nil] [(D.val (Value.bool true))]) ∧
 (k [(D.val (Value.bool true))])) ∨
 ((Says C 24 [(D.sl (n3) 2 (List.take (n3 * 2) (List.drop 0 cs1))), D.nil] [(D.val (Value.bool false))]) ∧
 (k [(D.val (Value.bool false))])))
 False)
 (k [(D.val (Value.bool false))]))
 (k [(D.val (Value.bool false))]))
 (k [(D.val (Value.bool false))])))) ∨
 (∃ n8 : Nat,
 (∃ cs2 : List Go.Value,
 (∃ n9 : Int,
 ((Says C 23 [(D.agg [D.nil]), D.nil] [(D.sl (n8) 2 (cs2)), (D.val (vI n9))]) ∧
 (bcase (n2 == n7)
 (bcase (n1 == n6)
 (bcase (n4 == n9)
 (bcase (decide (0 + n3 * 2 ≤ List.length cs1))
 (bcase (decide (0 + n8 * 2 ≤ List.length cs2))
 (((Says C 24 [(D.sl (n3) 2 (List.take (n3 * 2) (List.drop 0 cs1))), (D.sl (n8) 2 (List.take (n8 * 2) (List.drop 0 cs2)))] [(D.val (Value.bool true))]) ∧
 (k [(D.val (Value.bool true))])) ∨
 ((Says C 24 [(D.sl (n3) 2 (List.take (n3 * 2) (List.drop 0 cs1))), (D.sl (n8) 2 (List.take (n8 * 2) (List.drop 0 cs2)))] [(D.val (Value.bool false))]) ∧
 (k [(D.val (Value.bool false))])))
 False)
 False)
 (k [(D.val (Value.bool false))]))
 (k [(D.val (Value.bool false))]))
 (k [(D.val (Value.bool false))])))))))))))))))))))))))))) ∨
 ((Says C 8 [(D.agg [D.nil])] [(D.val (Value.bool false))]) ∧
 (k [(D.val (Value.bool true))])))) ∨
 ((Says C 7 [] [(D.val (Value.bool false))]) ∧
 (k [(D.val (Value.bool false))]))) := by kernel_rfl
def gRCn (C : Ct) (L : AtLoop) (n0 : Nat) (c0 : Nat) (l0 : List Value) (k : List D → Prop) : Prop := wpFn Try.prog (hK C) L 0 22 #[.agg #[.slice (some ⟨500, 0, none⟩) n0 c0], .slice none 0 0] (heapOf [(500, .sym l0 false 7)]) (dataK k)
theorem gRCn_text (C : Ct) (L : AtLoop) (n0 : Nat) (c0 : Nat) (l0 : List Go.Value) (k : List D → Prop) : gRCn C L n0 c0 l0 k =
 (bcase ((↑0 : Int) != (↑n0 : Int))
 (k [(D.val (vI (0 : Int))), (D.val (vI (10 : Int)))])
 (L 0 [(Prod.mk 1 (Go.Value.slice Option.none 0 0)), (Prod.mk 2 (Go.Value.pointer (Option.some (Go.Addr.mk 1000 0 Option.none)))), (Prod.mk 6 (vI (0 : Int)))] [(Prod.mk 1000 (AObj.cells [(Go.Value.slice (Option.some (Go.Addr.mk 500 0 Option.none)) (n0) (c0))] 24 false 1)), (Prod.mk 500 (AObj.sym (l0) false 7))])) := by kernel_rfl
def gRBn (C : Ct) (L : AtLoop) (n0 : Nat) (c0 : Nat) (l0 : List Value) (k : List D → Prop) : Prop := jFn Try.prog (hK C) L [] 23 #[.agg #[.slice (some ⟨500, 0, none⟩) n0 c0], .slice none 0 0] (heapOf [(500, .sym l0 false 7)]) (dataK k)
theorem gRBn_text (C : Ct) (L : AtLoop) (n0 : Nat) (c0 : Nat) (l0 : List Go.Value) (k : List D → Prop) : gRBn C L n0 c0 l0 k =
 (bcase ((↑0 : Int) != (↑n0 : Int))
 (k [D.nil, (D.val (vI (10 : Int)))])
 (L 0 [(Prod.mk 1 (Go.Value.slice Option.none 0 0)), (Prod.mk 2 (Go.Value.pointer (Option.some (Go.Addr.mk 1000 0 Option.none)))), (Prod.mk 6 (Go.Value.slice Option.none 0 0)), (Prod.mk 7 (vI (0 : Int)))] [(Prod.mk 1000 (AObj.cells [(Go.Value.slice (Option.some (Go.Addr.mk 500 0 Option.none)) (n0) (c0))] 24 false 1)), (Prod.mk 500 (AObj.sym (l0) false 7))])) := by kernel_rfl
def gRgn (C : Ct) (L : AtLoop) (k : List D → Prop) : Prop := wpFn Try.prog (hK C) L 0 24 #[.slice none 0 0, .slice none 0 0] (heapOf []) (dataK k)
theorem gRgn_text (C : Ct) (L : AtLoop) (k : List D → Prop) : gRgn C L k =
 (L 0 [(Prod.mk 0 (Go.Value.slice Option.none 0 0)), (Prod.mk 1 (Go.Value.slice Option.none 0 0)), (Prod.mk 5 (vI (0 : Int)))] []) := by kernel_rfl
abbrev zRgn1 (x0 : Int) : Slots × Blocks := ([(0, (Value.slice none 0 0)), (1, (Value.slice none 0 0)), (5, (Value.int .i64 x0))], [])
def rRgn1 (C : Ct) (L : AtLoop) (x0 : Int) (B : Bx) (X : Xx) (k : List D → Prop) : Prop := wpRound Try.prog (hK C) L 24 0 [(0, (Value.slice none 0 0)), (1, (Value.slice none 0 0)), (5, (Value.int .i64 x0))] [] B X (dataK k)
theorem rRgn1_text (C : Ct) (L : AtLoop) (x0 : Int) (B : Bx) (X : Xx) (k : List D → Prop) : rRgn1 C L x0 B X k =
 (bcase (decide (x0 < (↑0 : Int)))
 False
 (X 0 [] [])) := by kernel_rfl
def nRgn2 (C : Ct) (L : AtLoop) (k : List D → Prop) : Prop := wpNext Try.prog (hK C) L 24 0 .normal [] [] (dataK k)
theorem nRgn2_text (C : Ct) (L : AtLoop) (k : List D → Prop) : nRgn2 C L k =
 (k [(D.val (Value.bool true))]) := by kernel_rfl
end Go.Proofs.G5b

/- GaugeBoxes in data. -/
namespace Go.Proofs.G5b
open Go Go.Abs Go.Proofs Go.Proofs.G5
set_option maxRecDepth 100000
theorem bf_all {ps : List Sv} (hc : (chE ps).2 = 0) (hs : List Int) : ∃ rs, BfR ps hs rs ∧ ((∃ e, rs = [.nil, dI e]) ∨ ∃ b : Bxs, b.length < 1000000 ∧ rs = [.sl b.length 2 (vp b), dI 0]) := by
  have hok := chE_ok hc
  by_cases hl : hs.length = ps.length
  · by_cases h3 : stGo ps hs = 0
    · obtain ⟨r, hg⟩ := grow_all (ps := ps) (slack ps (bxOf hs hs)) (b := bxOf hs hs) (Nat.le_refl _) (by simp [hl])
      refine ⟨bfOf r, .grow hc hl h3 r hg, ?_⟩
      cases r with
      | none => exact .inl ⟨12, rfl⟩
      | some b =>
        have := (grow_facts hg (by simp [hl]) (stGo_ok hl h3) (bxOf_ord ps hs) b rfl).1
        exact .inr ⟨b, by omega, rfl⟩
    · exact ⟨_, .start hc hl h3, .inl ⟨22, rfl⟩⟩
  · exact ⟨_, .len hc hl, .inl ⟨10, rfl⟩⟩
theorem conRCn (ps : List Sv) (h0 : 0 < ps.length) : C5 22 [.agg [.sl ps.length 7 (vs7 ps)], .nil] [dI 0, dI 10] := by
  refine con_of (L := fun _ _ _ => False) hokK mixed Try.func22 rfl (by show 1 ≤ 400; omega) rfl (ids := [0, 2]) (by kernel_rfl) rfl (fun caps => ?_) (fun id hid => ?_)
  · show gRCn _ _ ps.length (caps 500) (vs7 ps) _
    rw [gRCn_text]
    exact bc_bne (fun _ => rfl) (fun h2 => absurd h2 (by omega))
  · have hid' : id = 0 ∨ id = 2 := by simpa using hid
    rcases hid' with rfl | rfl
    all_goals exact ⟨Unit, fun _ => ([], []), fun _ => False, fun _ => 0, ⟨fun s b h => h.elim, by kernel_rfl, fun _ h => h.elim⟩⟩
theorem conRBn (ps : List Sv) (h0 : 0 < ps.length) : C5 23 [.agg [.sl ps.length 7 (vs7 ps)], .nil] [.nil, dI 10] := by
  refine con_J hokK mixed [] (L := fun _ _ _ => False) Try.func23 rfl (by show 1 ≤ 400; omega) rfl (pts := [0, 2]) (loops := [0, 2]) (by kernel_rfl) (by kernel_rfl) (fun caps _ => ?_) (fun id q1 q2 => absurd q1 q2) (fun id hid => ?_)
  · show gRBn _ _ ps.length (caps 500) (vs7 ps) _
    rw [gRBn_text]
    exact bc_bne (fun _ => rfl) (fun h2 => absurd h2 (by omega))
  · have hid' : id = 0 ∨ id = 2 := by simpa using hid
    rcases hid' with rfl | rfl
    · exact ⟨⟨Unit, fun _ => ([], []), fun _ => False, fun _ => 0, fun s b h => h.elim, [], [], by kernel_rfl, by kernel_rfl, fun _ h => h.elim⟩⟩
    · exact ⟨⟨Unit, fun _ => ([], []), fun _ => False, fun _ => 0, fun s b h => h.elim, [4], [4], by kernel_rfl, by kernel_rfl, fun _ h => h.elim⟩⟩
theorem conRgN : C5 24 [.nil, .nil] [.val (.bool true)] := by
  refine con_of (L := fun _ s b' => zRgn1 0 = (s, b')) hokK mixed Try.func24 rfl (by show 0 ≤ 400; omega) rfl (ids := [0]) (by kernel_rfl) rfl (fun caps => ?_) (fun id hid => ?_)
  · show gRgn _ _ _
    rw [gRgn_text]
  · obtain rfl := List.mem_singleton.1 hid
    refine ⟨Unit, fun _ => zRgn1 0, fun _ => True, fun _ => 0, ⟨fun s b h => ⟨(), trivial, h⟩, by kernel_rfl, ?_⟩⟩
    rintro _ _
    show rRgn1 _ _ 0 _ _ _
    rw [rRgn1_text, bc_f (by omega)]
    show (if 0 = 0 then _ else _)
    rw [if_pos rfl]
    show nRgn2 _ _ _
    rw [nRgn2_text]
theorem conRgT (b : Bxs) (h : b.length < 1000000000) : C5 24 [.sl b.length 2 (vp b), .sl b.length 2 (vp b)] [.val (.bool true)] := by
  have := conRg b b h
  rwa [decide_eq_true rfl] at this
theorem cbP_nil {ps : List Sv} (hc : (chE ps).2 = 0) : cbD ps [] = [dI 0, dI 10] := by
  have := (chE_ok hc).1
  rw [cbD, cbP, if_neg (fun x => x hc), if_pos (by simp only [List.length_nil]; omega)]
theorem conXsss (ps : List Sv) (b : Bxs) (hs : List Int) : C5 4 [.agg [.sl ps.length 7 (vs7 ps)], .sl b.length 2 (vp b), .sl hs.length 1 (vi hs)] [.val (.bool true)] := by
  refine con_flat hokK mixed Try.func4 rfl (by show 3 ≤ 400; omega) rfl (by kernel_rfl) (fun caps => ?_)
  show gBxsss _ _ ps.length (caps 500) (vs7 ps) b.length (caps 501) (vp b) hs.length (caps 502) (vi hs) _
  rw [gBxsss_text]
  try simp only [bc_t (v7le ps), vs7_whole, bc_t (vple b), vp_whole, bc_t (v1le hs), vi_whole, eq_self, true_and, and_true]
  refine .inl ⟨⟨con6⟩, ?_⟩
  by_cases h7 : ps.length ≤ 7
  case neg =>
    refine .inr ⟨?_⟩
    have := conSm ps
    rwa [decide_eq_false h7] at this
  have cSm := conSm ps
  rw [decide_eq_true h7] at cSm
  refine .inl ⟨⟨cSm⟩, ?_⟩
  refine bc_dec (fun _ => trivial) (fun hb => ?_)
  refine bc_dec (fun _ => trivial) (fun hc => ?_)
  have c17 := conCB ps b (by omega)
  refine ⟨⟨conCpC ps (by omega)⟩, ⟨conCR b (by omega)⟩, ?_⟩
  by_cases he : (chE ps).2 = 0
  case neg =>
    have c19 := conBF (hs := hs) (.bad he) (by omega)
    rw [cbD, cbP, if_pos he] at c17
    exact ⟨_, _, ⟨c17⟩, ⟨conCpC ps (by omega)⟩, ⟨conCIx hs (by omega)⟩, .inl ⟨_, ⟨c19⟩, _, ⟨conCE ps (by omega)⟩, bc_bne (fun _ => bc_beq (fun _ => bc_beq (fun _ => bc_beq (fun _ => trivial) (fun h => absurd rfl h)) (fun h => absurd rfl h)) (fun h => absurd rfl h)) (fun h => absurd h he)⟩⟩
  have hok := chE_ok he
  obtain ⟨rs, hR, hrs⟩ := bf_all he hs
  have c19 := conBF hR (by omega)
  have c23 := conRB hR he
  rcases hrs with ⟨e, rfl⟩ | ⟨b', hb', rfl⟩
  · exact ⟨_, _, ⟨c17⟩, ⟨conCpC ps (by omega)⟩, ⟨conCIx hs (by omega)⟩, .inl ⟨_, ⟨c19⟩, _, ⟨conCE ps (by omega)⟩, bc_bne (fun h => absurd he h) (fun _ => ⟨_, _, ⟨conRC b he⟩, .inl ⟨_, ⟨c23⟩, bc_beq (fun _ => bc_beq (fun _ => bc_beq (fun _ => .inl ⟨conRgN⟩) (fun h => absurd rfl h)) (fun h => absurd rfl h)) (fun h => absurd rfl h)⟩⟩)⟩⟩
  · refine ⟨_, _, ⟨c17⟩, ⟨conCpC ps (by omega)⟩, ⟨conCIx hs (by omega)⟩, .inr ⟨_, _, _, ⟨c19⟩, _, ⟨conCE ps (by omega)⟩, bc_bne (fun h => absurd he h) (fun _ => ⟨_, _, ⟨conRC b he⟩, .inr ⟨_, _, _, ⟨c23⟩, bc_beq (fun _ => bc_beq (fun _ => bc_beq (fun _ => ?_) (fun h => absurd rfl h)) (fun h => absurd rfl h)) (fun h => absurd rfl h)⟩⟩)⟩⟩
    simp only [bc_t (vple b'), vp_whole]
    exact .inl ⟨conRgT b' (by omega)⟩
theorem conXssn (ps : List Sv) (b : Bxs) : C5 4 [.agg [.sl ps.length 7 (vs7 ps)], .sl b.length 2 (vp b), .nil] [.val (.bool true)] := by
  refine con_flat hokK mixed Try.func4 rfl (by show 2 ≤ 400; omega) rfl (by kernel_rfl) (fun caps => ?_)
  show gBxssn _ _ ps.length (caps 500) (vs7 ps) b.length (caps 501) (vp b) _
  rw [gBxssn_text]
  try simp only [bc_t (v7le ps), vs7_whole, bc_t (vple b), vp_whole, eq_self, true_and, and_true]
  refine .inl ⟨⟨con6⟩, ?_⟩
  by_cases h7 : ps.length ≤ 7
  case neg =>
    refine .inr ⟨?_⟩
    have := conSm ps
    rwa [decide_eq_false h7] at this
  have cSm := conSm ps
  rw [decide_eq_true h7] at cSm
  refine .inl ⟨⟨cSm⟩, ?_⟩
  refine bc_dec (fun _ => trivial) (fun hb => ?_)
  have c17 := conCB ps b (by omega)
  refine ⟨⟨conCpC ps (by omega)⟩, ⟨conCR b (by omega)⟩, ?_⟩
  by_cases he : (chE ps).2 = 0
  case neg =>
    have c19 := conBF (hs := []) (.bad he) (by omega)
    rw [cbD, cbP, if_pos he] at c17
    exact ⟨_, _, ⟨c17⟩, ⟨conCpC ps (by omega)⟩, ⟨conCIxn⟩, .inl ⟨_, ⟨c19⟩, _, ⟨conCE ps (by omega)⟩, bc_bne (fun _ => bc_beq (fun _ => bc_beq (fun _ => bc_beq (fun _ => trivial) (fun h => absurd rfl h)) (fun h => absurd rfl h)) (fun h => absurd rfl h)) (fun h => absurd h he)⟩⟩
  have hok := chE_ok he
  have c19 := conBF (hs := []) (.len he (by simp only [List.length_nil]; omega)) (by omega)
  exact ⟨_, _, ⟨c17⟩, ⟨conCpC ps (by omega)⟩, ⟨conCIxn⟩, .inl ⟨_, ⟨c19⟩, _, ⟨conCE ps (by omega)⟩, bc_bne (fun h => absurd he h) (fun _ => ⟨_, _, ⟨conRC b he⟩, .inl ⟨_, ⟨conRBn ps hok.1⟩, bc_beq (fun _ => bc_beq (fun _ => bc_beq (fun _ => .inl ⟨conRgN⟩) (fun h => absurd rfl h)) (fun h => absurd rfl h)) (fun h => absurd rfl h)⟩⟩)⟩⟩
theorem conXsns (ps : List Sv) (hs : List Int) : C5 4 [.agg [.sl ps.length 7 (vs7 ps)], .nil, .sl hs.length 1 (vi hs)] [.val (.bool true)] := by
  refine con_flat hokK mixed Try.func4 rfl (by show 2 ≤ 400; omega) rfl (by kernel_rfl) (fun caps => ?_)
  show gBxsns _ _ ps.length (caps 500) (vs7 ps) hs.length (caps 501) (vi hs) _
  rw [gBxsns_text]
  try simp only [bc_t (v7le ps), vs7_whole, bc_t (v1le hs), vi_whole, eq_self, true_and, and_true]
  refine .inl ⟨⟨con6⟩, ?_⟩
  by_cases h7 : ps.length ≤ 7
  case neg =>
    refine .inr ⟨?_⟩
    have := conSm ps
    rwa [decide_eq_false h7] at this
  have cSm := conSm ps
  rw [decide_eq_true h7] at cSm
  refine .inl ⟨⟨cSm⟩, ?_⟩
  refine bc_dec (fun _ => trivial) (fun hc => ?_)
  have c17 := conCB ps [] (by omega)
  refine ⟨⟨conCpC ps (by omega)⟩, ⟨conCRn⟩, ?_⟩
  by_cases he : (chE ps).2 = 0
  case neg =>
    have c19 := conBF (hs := hs) (.bad he) (by omega)
    rw [cbD, cbP, if_pos he] at c17
    exact ⟨_, _, ⟨c17⟩, ⟨conCpC ps (by omega)⟩, ⟨conCIx hs (by omega)⟩, .inl ⟨_, ⟨c19⟩, _, ⟨conCE ps (by omega)⟩, bc_bne (fun _ => bc_beq (fun _ => bc_beq (fun _ => bc_beq (fun _ => trivial) (fun h => absurd rfl h)) (fun h => absurd rfl h)) (fun h => absurd rfl h)) (fun h => absurd h he)⟩⟩
  have hok := chE_ok he
  rw [cbP_nil he] at c17
  obtain ⟨rs, hR, hrs⟩ := bf_all he hs
  have c19 := conBF hR (by omega)
  have c23 := conRB hR he
  rcases hrs with ⟨e, rfl⟩ | ⟨b', hb', rfl⟩
  · exact ⟨_, _, ⟨c17⟩, ⟨conCpC ps (by omega)⟩, ⟨conCIx hs (by omega)⟩, .inl ⟨_, ⟨c19⟩, _, ⟨conCE ps (by omega)⟩, bc_bne (fun h => absurd he h) (fun _ => ⟨_, _, ⟨conRCn ps hok.1⟩, .inl ⟨_, ⟨c23⟩, bc_beq (fun _ => bc_beq (fun _ => bc_beq (fun _ => .inl ⟨conRgN⟩) (fun h => absurd rfl h)) (fun h => absurd rfl h)) (fun h => absurd rfl h)⟩⟩)⟩⟩
  · refine ⟨_, _, ⟨c17⟩, ⟨conCpC ps (by omega)⟩, ⟨conCIx hs (by omega)⟩, .inr ⟨_, _, _, ⟨c19⟩, _, ⟨conCE ps (by omega)⟩, bc_bne (fun h => absurd he h) (fun _ => ⟨_, _, ⟨conRCn ps hok.1⟩, .inr ⟨_, _, _, ⟨c23⟩, bc_beq (fun _ => bc_beq (fun _ => bc_beq (fun _ => ?_) (fun h => absurd rfl h)) (fun h => absurd rfl h)) (fun h => absurd rfl h)⟩⟩)⟩⟩
    simp only [bc_t (vple b'), vp_whole]
    exact .inl ⟨conRgT b' (by omega)⟩
theorem conXsnn (ps : List Sv) : C5 4 [.agg [.sl ps.length 7 (vs7 ps)], .nil, .nil] [.val (.bool true)] := by
  refine con_flat hokK mixed Try.func4 rfl (by show 1 ≤ 400; omega) rfl (by kernel_rfl) (fun caps => ?_)
  show gBxsnn _ _ ps.length (caps 500) (vs7 ps) _
  rw [gBxsnn_text]
  try simp only [bc_t (v7le ps), vs7_whole, eq_self, true_and, and_true]
  refine .inl ⟨⟨con6⟩, ?_⟩
  by_cases h7 : ps.length ≤ 7
  case neg =>
    refine .inr ⟨?_⟩
    have := conSm ps
    rwa [decide_eq_false h7] at this
  have cSm := conSm ps
  rw [decide_eq_true h7] at cSm
  refine .inl ⟨⟨cSm⟩, ?_⟩
  have c17 := conCB ps [] (by omega)
  refine ⟨⟨conCpC ps (by omega)⟩, ⟨conCRn⟩, ?_⟩
  by_cases he : (chE ps).2 = 0
  case neg =>
    have c19 := conBF (hs := []) (.bad he) (by omega)
    rw [cbD, cbP, if_pos he] at c17
    exact ⟨_, _, ⟨c17⟩, ⟨conCpC ps (by omega)⟩, ⟨conCIxn⟩, .inl ⟨_, ⟨c19⟩, _, ⟨conCE ps (by omega)⟩, bc_bne (fun _ => bc_beq (fun _ => bc_beq (fun _ => bc_beq (fun _ => trivial) (fun h => absurd rfl h)) (fun h => absurd rfl h)) (fun h => absurd rfl h)) (fun h => absurd h he)⟩⟩
  have hok := chE_ok he
  rw [cbP_nil he] at c17
  have c19 := conBF (hs := []) (.len he (by simp only [List.length_nil]; omega)) (by omega)
  exact ⟨_, _, ⟨c17⟩, ⟨conCpC ps (by omega)⟩, ⟨conCIxn⟩, .inl ⟨_, ⟨c19⟩, _, ⟨conCE ps (by omega)⟩, bc_bne (fun h => absurd he h) (fun _ => ⟨_, _, ⟨conRCn ps hok.1⟩, .inl ⟨_, ⟨conRBn ps hok.1⟩, bc_beq (fun _ => bc_beq (fun _ => bc_beq (fun _ => .inl ⟨conRgN⟩) (fun h => absurd rfl h)) (fun h => absurd rfl h)) (fun h => absurd rfl h)⟩⟩)⟩⟩
theorem conXnss (b : Bxs) (hs : List Int) : C5 4 [.agg [.nil], .sl b.length 2 (vp b), .sl hs.length 1 (vi hs)] [.val (.bool true)] := by
  refine con_flat hokK mixed Try.func4 rfl (by show 2 ≤ 400; omega) rfl (by kernel_rfl) (fun caps => ?_)
  show gBxnss _ _ b.length (caps 500) (vp b) hs.length (caps 501) (vi hs) _
  rw [gBxnss_text]
  try simp only [bc_t (vple b), vp_whole, bc_t (v1le hs), vi_whole, eq_self, true_and, and_true]
  refine .inl ⟨⟨con6⟩, ?_⟩
  refine .inl ⟨⟨conSmn⟩, ?_⟩
  refine bc_dec (fun _ => trivial) (fun hb => ?_)
  refine bc_dec (fun _ => trivial) (fun hc => ?_)
  have c17 := conCB [] b (by simp)
  refine ⟨⟨conCpCn⟩, ⟨conCR b (by omega)⟩, ?_⟩
  have c19 := conBF (ps := []) (hs := hs) (.bad (by decide)) (by simp)
  exact ⟨_, _, ⟨c17⟩, ⟨conCpCn⟩, ⟨conCIx hs (by omega)⟩, .inl ⟨_, ⟨c19⟩, _, ⟨conCEn⟩, bc_bne (fun _ => bc_beq (fun _ => bc_beq (fun _ => bc_beq (fun _ => trivial) (fun h => absurd rfl h)) (fun h => absurd rfl h)) (fun h => absurd rfl h)) (fun h => absurd h (by decide))⟩⟩
theorem conXnsn (b : Bxs) : C5 4 [.agg [.nil], .sl b.length 2 (vp b), .nil] [.val (.bool true)] := by
  refine con_flat hokK mixed Try.func4 rfl (by show 1 ≤ 400; omega) rfl (by kernel_rfl) (fun caps => ?_)
  show gBxnsn _ _ b.length (caps 500) (vp b) _
  rw [gBxnsn_text]
  try simp only [bc_t (vple b), vp_whole, eq_self, true_and, and_true]
  refine .inl ⟨⟨con6⟩, ?_⟩
  refine .inl ⟨⟨conSmn⟩, ?_⟩
  refine bc_dec (fun _ => trivial) (fun hb => ?_)
  have c17 := conCB [] b (by simp)
  refine ⟨⟨conCpCn⟩, ⟨conCR b (by omega)⟩, ?_⟩
  have c19 := conBF (ps := []) (hs := []) (.bad (by decide)) (by simp)
  exact ⟨_, _, ⟨c17⟩, ⟨conCpCn⟩, ⟨conCIxn⟩, .inl ⟨_, ⟨c19⟩, _, ⟨conCEn⟩, bc_bne (fun _ => bc_beq (fun _ => bc_beq (fun _ => bc_beq (fun _ => trivial) (fun h => absurd rfl h)) (fun h => absurd rfl h)) (fun h => absurd rfl h)) (fun h => absurd h (by decide))⟩⟩
theorem conXnns (hs : List Int) : C5 4 [.agg [.nil], .nil, .sl hs.length 1 (vi hs)] [.val (.bool true)] := by
  refine con_flat hokK mixed Try.func4 rfl (by show 1 ≤ 400; omega) rfl (by kernel_rfl) (fun caps => ?_)
  show gBxnns _ _ hs.length (caps 500) (vi hs) _
  rw [gBxnns_text]
  try simp only [bc_t (v1le hs), vi_whole, eq_self, true_and, and_true]
  refine .inl ⟨⟨con6⟩, ?_⟩
  refine .inl ⟨⟨conSmn⟩, ?_⟩
  refine bc_dec (fun _ => trivial) (fun hc => ?_)
  have c17 := conCB [] [] (by simp)
  refine ⟨⟨conCpCn⟩, ⟨conCRn⟩, ?_⟩
  have c19 := conBF (ps := []) (hs := hs) (.bad (by decide)) (by simp)
  exact ⟨_, _, ⟨c17⟩, ⟨conCpCn⟩, ⟨conCIx hs (by omega)⟩, .inl ⟨_, ⟨c19⟩, _, ⟨conCEn⟩, bc_bne (fun _ => bc_beq (fun _ => bc_beq (fun _ => bc_beq (fun _ => trivial) (fun h => absurd rfl h)) (fun h => absurd rfl h)) (fun h => absurd rfl h)) (fun h => absurd h (by decide))⟩⟩
theorem conXnnn : C5 4 [.agg [.nil], .nil, .nil] [.val (.bool true)] := by
  refine con_flat hokK mixed Try.func4 rfl (by show 0 ≤ 400; omega) rfl (by kernel_rfl) (fun caps => ?_)
  show gBxnnn _ _ _
  rw [gBxnnn_text]
  try simp only [eq_self, true_and, and_true]
  refine .inl ⟨⟨con6⟩, ?_⟩
  refine .inl ⟨⟨conSmn⟩, ?_⟩
  have c17 := conCB [] [] (by simp)
  refine ⟨⟨conCpCn⟩, ⟨conCRn⟩, ?_⟩
  have c19 := conBF (ps := []) (hs := []) (.bad (by decide)) (by simp)
  exact ⟨_, _, ⟨c17⟩, ⟨conCpCn⟩, ⟨conCIxn⟩, .inl ⟨_, ⟨c19⟩, _, ⟨conCEn⟩, bc_bne (fun _ => bc_beq (fun _ => bc_beq (fun _ => bc_beq (fun _ => trivial) (fun h => absurd rfl h)) (fun h => absurd rfl h)) (fun h => absurd rfl h)) (fun h => absurd h (by decide))⟩⟩
end Go.Proofs.G5b

/- GaugeBoxes: whatever the input, it returns true, and the input reads as it did. No condition. -/
namespace Go.Proofs.Ytekodcjnlkfipaa.K
open Go Go.Abs Go.RowKit Go.ChangeShapes Go.WideShapes Go.ChangeAt Go.Proofs Go.Flat Go.Proofs.G5b
set_option maxRecDepth 100000
theorem shapes4 : Try.f4.params.toList.mapM (argSh Try.prog) = some [.agg [22], .one 43, .one 25] := by kernel_rfl
theorem box_args {ds : List D} (h : ShDs Try.prog [.agg [22], .one 43, .one 25] ds) : ∃ a b c : D, ds = [.agg [a], b, c] ∧ (a = .nil ∨ ∃ l : List Sv, a = .sl l.length 7 (vs7 l)) ∧ (b = .nil ∨ ∃ l : List (Int × Int), b = .sl l.length 2 (vp l)) ∧ (c = .nil ∨ ∃ l : List Int, c = .sl l.length 1 (vi l)) := by
  cases h with | cons h1 t => cases t with | cons h2 t => cases t with | cons h3 t =>
  cases t
  obtain ⟨d1, rfl, h1⟩ := h1
  cases h1 with | cons h1 t =>
  cases t
  exact ⟨_, _, _, rfl, leaf_svs Try.underlying22 (by kernel_rfl) h1, leaf_prs Try.underlying43 (by kernel_rfl) h2, leaf_ints Try.underlying25 (by kernel_rfl) h3⟩
theorem all4 (ds : List D) (h : ShDs Try.prog [.agg [22], .one 43, .one 25] ds) : Con Try.prog 4 ds [.val (.bool true)] := by
  obtain ⟨a, b, c, rfl, ha, hb, hc⟩ := box_args h
  rcases ha with rfl | ⟨l, rfl⟩ <;> rcases hb with rfl | ⟨m, rfl⟩ <;> rcases hc with rfl | ⟨o, rfl⟩
  · exact conXnnn
  · exact conXnns o
  · exact conXnsn m
  · exact conXnss m o
  · exact conXsnn l
  · exact conXsns l o
  · exact conXssn l m
  · exact conXsss l m o
theorem lifted4 (os : Os) (started : os.Started) (H : Type) (enc : TypeId × Value → H) :
    ReturnsInHanded {} Try.checked os 4 .any (Rows.gaugeBoxesSpec.pre6 enc Try.prog Try.f4 Rows.gaugeBoxesRow.domain false) (Rows.gaugeBoxesSpec.post enc Try.prog Try.f4 false true false false) := by
  refine returnsInHanded_of_change (C := Try.checked) own started (by kernel_rfl) Try.func4
    (ChangeSpec.witness6 (enc := enc) (C := Try.checked) false ⟨#[], #[.agg #[.slice none 0 0], .slice none 0 0, .slice none 0 0], []⟩ 8 (by kernel_rfl) (by kernel_rfl) (by kernel_rfl) (by kernel_rfl)) ?_
  intro W base args ds gs before hval hW _ _
  exact law_shapes (tb := 4) (s := Rows.gaugeBoxesSpec) shapes4 all4 laidP mapsP slicesP (tsP (by kernel_rfl)) rfl Try.underlying4 rfl (fun ds h => by
    match ds, h with
    | [_, _, _], _ => exact ⟨rfl, rfl, rfl⟩) hval hW
theorem gaugeBoxes_holds : Rows.GaugeBoxesSaid :=
  OpenClaim.holds_of_wide 4 Try.f4 rfl rfl rfl rfl rfl rfl rfl ⟨rfl, rfl, rfl, rfl, rfl⟩ rfl rfl rfl rfl rfl (by kernel_rfl) Try.func4 (by kernel_rfl)
    (of_decide_eq_true (by kernel_rfl)) (by unfold Func.isWrapper; first | (rw [if_pos (by decide +kernel)]; kernel_rfl) | (rw [if_neg (by decide +kernel)]; exact ⟨rfl, rfl⟩))
    (fun os started H enc _ => lifted4 os started H enc)
#print axioms gaugeBoxes_holds
end Go.Proofs.Ytekodcjnlkfipaa.K
