/- Texts of the proof, put together: GbTB, GbB5. -/
import Derived.Test.YtekodcjnlkfipaaP7
/- What is left to show of each function, written out; the kernel reckons it. -/
namespace Go.Proofs.G5b
open Go Go.Abs Go.Proofs
set_option maxRecDepth 100000
set_option linter.unusedVariables false
abbrev T501 (l : List Value) : Nat × AObj := (501, .sym l false 2)
abbrev S1000 (n : Nat) : Value := .slice (some ⟨1000, 0, none⟩) n n
def copyRg : List D → Option (List D) := fun ds => match ds with | [.sl n es cs] => some [.sl n es cs] | [.nil] => some [.sl 0 2 []] | _ => none
def preK (C : Ct) : FuncId → Option Handler := fun g => if g == 66 then some (stateH (witAll 3 56 30)) else if g == 20 then some (fixH C copyInts) else if g == 18 then some (fixH C copyRg) else if g == 10 then some (fixH C copyChain) else if [7, 37, 38, 34, 35, 42, 9, 13, 67, 43, 41, 16, 11, 14, 15, 26, 21, 8, 45, 46, 47, 48, 49, 17, 19, 50, 22, 23, 24].contains g then some (saidH Try.prog C) else none
abbrev hK (C : Ct) : Handler := handlerX Try.prog (preK C) 12 6
def gBa (C : Ct) (L : AtLoop) (n0 : Nat) (c0 : Nat) (l0 : List Value) (n1 : Nat) (c1 : Nat) (l1 : List Value) (k : List D → Prop) : Prop := jFn Try.prog (hK C) L [] 45 #[.slice (some ⟨500, 0, none⟩) n0 c0, .slice (some ⟨501, 0, none⟩) n1 c1] (heapOf [(500, .sym l0 false 7), (501, .sym l1 false 2)]) (dataK k)
theorem gBa_text (C : Ct) (L : AtLoop) (n0 : Nat) (c0 : Nat) (l0 : List Go.Value) (n1 : Nat) (c1 : Nat) (l1 : List Go.Value) (k : List D → Prop) : gBa C L n0 c0 l0 n1 c1 l1 k =
 (L 0 [(Prod.mk 0 (Go.Value.slice (Option.some (Go.Addr.mk 500 0 Option.none)) (n0) (c0))), (Prod.mk 1 (Go.Value.slice (Option.some (Go.Addr.mk 501 0 Option.none)) (n1) (c1))), (Prod.mk 5 (Go.Value.pointer (Option.some (Go.Addr.mk 1000 0 Option.none)))), (Prod.mk 9 (vI (0 : Int)))] [(Prod.mk 500 (AObj.sym (l0) false 7)), (Prod.mk 501 (AObj.sym (l1) false 2)), (Prod.mk 1000 (AObj.cells [(Go.Value.slice Option.none 0 0), (Go.Value.slice Option.none 0 0), (Go.Value.slice Option.none 0 0), (Go.Value.slice Option.none 0 0)] 123 false 2))]) := by kernel_rfl
abbrev zBa1 (n0 : Nat) (c1 : Nat) (n2 : Nat) (c3 : Nat) (l4 : List Value) (l5 : List Value) : Slots × Blocks := ([(0, (Value.slice (some ⟨500, 0, none⟩) n0 c1)), (1, (Value.slice (some ⟨501, 0, none⟩) n2 c3)), (5, (Value.pointer (some ⟨1000, 0, none⟩))), (9, (Value.int .i64 (0)))], [(500, (AObj.sym l4 false 7)), (501, (AObj.sym l5 false 2)), (1000, (AObj.cells [(Value.slice none 0 0), (Value.slice none 0 0), (Value.slice none 0 0), (Value.slice none 0 0)] 123 false 2))])
def rBa1 (C : Ct) (L : AtLoop) (n0 : Nat) (c1 : Nat) (n2 : Nat) (c3 : Nat) (l4 : List Value) (l5 : List Value) (B : Bx) (X : Xx) (k : List D → Prop) : Prop := jRound Try.prog (hK C) L [] 45 0 [(0, (Value.slice (some ⟨500, 0, none⟩) n0 c1)), (1, (Value.slice (some ⟨501, 0, none⟩) n2 c3)), (5, (Value.pointer (some ⟨1000, 0, none⟩))), (9, (Value.int .i64 (0)))] [(500, (AObj.sym l4 false 7)), (501, (AObj.sym l5 false 2)), (1000, (AObj.cells [(Value.slice none 0 0), (Value.slice none 0 0), (Value.slice none 0 0), (Value.slice none 0 0)] 123 false 2))] B X (dataK k)
theorem rBa1_text (C : Ct) (L : AtLoop) (n0 : Nat) (c1 : Nat) (n2 : Nat) (c3 : Nat) (l4 : List Go.Value) (l5 : List Go.Value) (B : Bx) (X : Xx) (k : List D → Prop) : rBa1 C L n0 c1 n2 c3 l4 l5 B X k =
 (L 2 [(Prod.mk 0 (Go.Value.slice (Option.some (Go.Addr.mk 500 0 Option.none)) (n0) (c1))), (Prod.mk 1 (Go.Value.slice (Option.some (Go.Addr.mk 501 0 Option.none)) (n2) (c3))), (Prod.mk 5 (Go.Value.pointer (Option.some (Go.Addr.mk 1000 0 Option.none)))), (Prod.mk 6 (vI (0 : Int))), (Prod.mk 9 (vI (0 : Int))), (Prod.mk 12 (Go.Value.slice (Option.some (Go.Addr.mk 501 0 Option.none)) (n2) (c3))), (Prod.mk 13 (vI ((↑n2 : Int)))), (Prod.mk 14 (vI (0 : Int)))] [(Prod.mk 500 (AObj.sym (l4) false 7)), (Prod.mk 501 (AObj.sym (l5) false 2)), (Prod.mk 1000 (AObj.cells [(Go.Value.slice Option.none 0 0), (Go.Value.slice Option.none 0 0), (Go.Value.slice Option.none 0 0), (Go.Value.slice Option.none 0 0)] 123 false 2))]) := by kernel_rfl
abbrev zBa2 (n0 : Nat) (c1 : Nat) (n2 : Nat) (c3 : Nat) (n4 : Nat) (c5 : Nat) (x6 : Int) (x7 : Int) (l8 : List Value) (l9 : List Value) : Slots × Blocks := ([(0, (Value.slice (some ⟨500, 0, none⟩) n0 c1)), (1, (Value.slice (some ⟨501, 0, none⟩) n2 c3)), (5, (Value.pointer (some ⟨1000, 0, none⟩))), (6, (Value.int .i64 (0))), (9, (Value.int .i64 (0))), (12, (Value.slice (some ⟨501, 0, none⟩) n4 c5)), (13, (Value.int .i64 x6)), (14, (Value.int .i64 x7))], [(500, (AObj.sym l8 false 7)), (501, (AObj.sym l9 false 2)), (1000, (AObj.cells [(Value.slice none 0 0), (Value.slice none 0 0), (Value.slice none 0 0), (Value.slice none 0 0)] 123 false 2))])
def rBa2 (C : Ct) (L : AtLoop) (n0 : Nat) (c1 : Nat) (n2 : Nat) (c3 : Nat) (n4 : Nat) (c5 : Nat) (x6 : Int) (x7 : Int) (l8 : List Value) (l9 : List Value) (B : Bx) (X : Xx) (k : List D → Prop) : Prop := jRound2 Try.prog (hK C) L [] 45 0 2 [(0, (Value.slice (some ⟨500, 0, none⟩) n0 c1)), (1, (Value.slice (some ⟨501, 0, none⟩) n2 c3)), (5, (Value.pointer (some ⟨1000, 0, none⟩))), (6, (Value.int .i64 (0))), (9, (Value.int .i64 (0))), (12, (Value.slice (some ⟨501, 0, none⟩) n4 c5)), (13, (Value.int .i64 x6)), (14, (Value.int .i64 x7))] [(500, (AObj.sym l8 false 7)), (501, (AObj.sym l9 false 2)), (1000, (AObj.cells [(Value.slice none 0 0), (Value.slice none 0 0), (Value.slice none 0 0), (Value.slice none 0 0)] 123 false 2))] B X (dataK k)
theorem rBa2_text (C : Ct) (L : AtLoop) (n0 : Nat) (c1 : Nat) (n2 : Nat) (c3 : Nat) (n4 : Nat) (c5 : Nat) (x6 : Int) (x7 : Int) (l8 : List Go.Value) (l9 : List Go.Value) (B : Bx) (X : Xx) (k : List D → Prop) : rBa2 C L n0 c1 n2 c3 n4 c5 x6 x7 l8 l9 B X k =
 (bcase (decide (x7 < x6))
 (bcase (decide (0 ≤ x7))
 (bcase (decide (x7 < (↑n4 : Int)))
 (∃ n1 : Int,
 (∃ n3 : Int,
 ((At (l9) (0 + Int.toNat x7 * 2) 2 [(vI n1), (vI n3)]) ∧
 ((((vI (0 : Int)) = (vI (0 : Int))) ∧
 (((Go.Value.agg [(vI n1), (vI n3)].toArray) = (Go.Value.agg [(vI n1), (vI n3)].toArray)) ∧
 (((Go.Value.slice Option.none 0 0) = (Go.Value.slice Option.none 0 0)) ∧
 (((Go.Value.pointer (Option.some (Go.Addr.mk 1000 0 Option.none))) = (Go.Value.pointer (Option.some (Go.Addr.mk 1000 0 Option.none)))) ∧
 (((Go.Value.pointer (Option.some (Go.Addr.mk 1000 0 Option.none))) = (Go.Value.pointer (Option.some (Go.Addr.mk 1000 0 Option.none)))) ∧
 (((vI (0 : Int)) = (vI (0 : Int))) ∧
 (((vI (0 : Int)) = (vI (0 : Int))) ∧
 True))))))) ∧
 (((((Go.Value.slice (Option.some (Go.Addr.mk 1004 0 Option.none)) 1 1) = (Go.Value.slice (Option.some (Go.Addr.mk 1004 0 Option.none)) 1 1)) ∧
 ((Option.some (AObj.cells [(vI n1)] 3 false 1)) = (Option.some (AObj.cells [(vI n1)] 3 false 1)))) ∧
 (((vI n1) = (vI n1)) ∧
 (((vI (0 : Int)) = (vI (0 : Int))) ∧
 (((Go.Value.slice Option.none 0 0) = (Go.Value.slice Option.none 0 0)) ∧
 (((Go.Value.pointer (Option.some (Go.Addr.mk 1000 0 Option.none))) = (Go.Value.pointer (Option.some (Go.Addr.mk 1000 0 Option.none)))) ∧
 (((Go.Value.pointer (Option.some (Go.Addr.mk 1000 0 Option.none))) = (Go.Value.pointer (Option.some (Go.Addr.mk 1000 0 Option.none)))) ∧
 (((vI (0 : Int)) = (vI (0 : Int))) ∧
 (((vI (0 : Int)) = (vI (0 : Int))) ∧
 True)))))))) ∧
 ((((Go.Value.pointer (Option.some (Go.Addr.mk 1000 0 Option.none))) = (Go.Value.pointer (Option.some (Go.Addr.mk 1000 0 Option.none)))) ∧
 (((Go.Value.pointer (Option.some (Go.Addr.mk 1000 0 Option.none))) = (Go.Value.pointer (Option.some (Go.Addr.mk 1000 0 Option.none)))) ∧
 (((vI n1) = (vI n1)) ∧
 (((vI (0 : Int)) = (vI (0 : Int))) ∧
 (((Go.Value.pointer (Option.some (Go.Addr.mk 1000 0 Option.none))) = (Go.Value.pointer (Option.some (Go.Addr.mk 1000 0 Option.none)))) ∧
 (((Go.Value.pointer (Option.some (Go.Addr.mk 1000 0 Option.none))) = (Go.Value.pointer (Option.some (Go.Addr.mk 1000 0 Option.none)))) ∧
 (((vI (0 : Int)) = (vI (0 : Int))) ∧
 (((vI (0 : Int)) = (vI (0 : Int))) ∧
 True)))))))) ∧
 ((((Go.Value.pointer (Option.some (Go.Addr.mk 1000 0 Option.none))) = (Go.Value.pointer (Option.some (Go.Addr.mk 1000 0 Option.none)))) ∧
 True) ∧
 (bcase (decide (0 ≤ x7))
 (bcase (decide (x7 < (↑n0 : Int)))
 (∃ n5 : Int,
 (∃ n6 : Int,
 ((At (l8) (Go.Addr.off { block := 500, off := 0 + Int.toNat x7 * 7 } + 3) 2 [(vI n5), (vI n6)]) ∧
 ((((vI (0 : Int)) = (vI (0 : Int))) ∧
 ((∃ n7 : Int,
 (∃ n8 : Int,
 ((At (l8) (Go.Addr.off { block := 500, off := 0 + Int.toNat x7 * 7 } + 3) 2 [(vI n7), (vI n8)]) ∧
 ((Go.Value.agg [(vI n7), (vI n8)].toArray) = (Go.Value.agg [(vI n5), (vI n6)].toArray))))) ∧
 (((Go.Value.pointer (Option.some (Go.Addr.mk 500 (Go.Addr.off { block := 500, off := 0 + Int.toNat x7 * 7 } + 3) Option.none))) = (Go.Value.pointer (Option.some (Go.Addr.mk 500 (Go.Addr.off { block := 500, off := 0 + Int.toNat x7 * 7 } + 3) Option.none)))) ∧
 ((bcase (decide (0 ≤ x7))
 (bcase (decide (x7 < (↑n0 : Int)))
 ((Go.Value.pointer (Option.some (Go.Addr.mk 500 (0 + Int.toNat x7 * 7) Option.none))) = (Go.Value.pointer (Option.some (Go.Addr.mk 500 (0 + Int.toNat x7 * 7) Option.none))))
 False)
 False) ∧
 (((vI x7) = (vI x7)) ∧
 (((Go.Value.slice (Option.some (Go.Addr.mk 500 0 Option.none)) (n0) (c1)) = (Go.Value.slice (Option.some (Go.Addr.mk 500 0 Option.none)) (n0) (c1))) ∧
 (((Go.Value.slice Option.none 0 0) = (Go.Value.slice Option.none 0 0)) ∧
 (((Go.Value.pointer (Option.some (Go.Addr.mk 1000 1 Option.none))) = (Go.Value.pointer (Option.some (Go.Addr.mk 1000 1 Option.none)))) ∧
 (((Go.Value.pointer (Option.some (Go.Addr.mk 1000 0 Option.none))) = (Go.Value.pointer (Option.some (Go.Addr.mk 1000 0 Option.none)))) ∧
 (((vI (0 : Int)) = (vI (0 : Int))) ∧
 (((vI (0 : Int)) = (vI (0 : Int))) ∧
 True))))))))))) ∧
 (((((Go.Value.slice (Option.some (Go.Addr.mk 1008 0 Option.none)) 1 1) = (Go.Value.slice (Option.some (Go.Addr.mk 1008 0 Option.none)) 1 1)) ∧
 ((Option.some (AObj.cells [(vI n5)] 3 false 1)) = (Option.some (AObj.cells [(vI n5)] 3 false 1)))) ∧
 (((vI n5) = (vI n5)) ∧
 (((vI (0 : Int)) = (vI (0 : Int))) ∧
 (((Go.Value.pointer (Option.some (Go.Addr.mk 500 (Go.Addr.off { block := 500, off := 0 + Int.toNat x7 * 7 } + 3) Option.none))) = (Go.Value.pointer (Option.some (Go.Addr.mk 500 (Go.Addr.off { block := 500, off := 0 + Int.toNat x7 * 7 } + 3) Option.none)))) ∧
 ((bcase (decide (0 ≤ x7))
 (bcase (decide (x7 < (↑n0 : Int)))
 ((Go.Value.pointer (Option.some (Go.Addr.mk 500 (0 + Int.toNat x7 * 7) Option.none))) = (Go.Value.pointer (Option.some (Go.Addr.mk 500 (0 + Int.toNat x7 * 7) Option.none))))
 False)
 False) ∧
 (((vI x7) = (vI x7)) ∧
 (((Go.Value.slice (Option.some (Go.Addr.mk 500 0 Option.none)) (n0) (c1)) = (Go.Value.slice (Option.some (Go.Addr.mk 500 0 Option.none)) (n0) (c1))) ∧
 (((Go.Value.slice Option.none 0 0) = (Go.Value.slice Option.none 0 0)) ∧
 (((Go.Value.pointer (Option.some (Go.Addr.mk 1000 1 Option.none))) = (Go.Value.pointer (Option.some (Go.Addr.mk 1000 1 Option.none)))) ∧
 (((Go.Value.pointer (Option.some (Go.Addr.mk 1000 0 Option.none))) = (Go.Value.pointer (Option.some (Go.Addr.mk 1000 0 Option.none)))) ∧
 (((vI (0 : Int)) = (vI (0 : Int))) ∧
 (((vI (0 : Int)) = (vI (0 : Int))) ∧
 True)))))))))))) ∧
 ((((Go.Value.pointer (Option.some (Go.Addr.mk 1000 1 Option.none))) = (Go.Value.pointer (Option.some (Go.Addr.mk 1000 1 Option.none)))) ∧
 (((Go.Value.pointer (Option.some (Go.Addr.mk 1000 0 Option.none))) = (Go.Value.pointer (Option.some (Go.Addr.mk 1000 0 Option.none)))) ∧
 (((vI n5) = (vI n5)) ∧
 (((vI (0 : Int)) = (vI (0 : Int))) ∧
 (((Go.Value.pointer (Option.some (Go.Addr.mk 500 (Go.Addr.off { block := 500, off := 0 + Int.toNat x7 * 7 } + 3) Option.none))) = (Go.Value.pointer (Option.some (Go.Addr.mk 500 (Go.Addr.off { block := 500, off := 0 + Int.toNat x7 * 7 } + 3) Option.none)))) ∧
 ((bcase (decide (0 ≤ x7))
 (bcase (decide (x7 < (↑n0 : Int)))
 ((Go.Value.pointer (Option.some (Go.Addr.mk 500 (0 + Int.toNat x7 * 7) Option.none))) = (Go.Value.pointer (Option.some (Go.Addr.mk 500 (0 + Int.toNat x7 * 7) Option.none))))
 False)
 False) ∧
 (((vI x7) = (vI x7)) ∧
 (((Go.Value.slice (Option.some (Go.Addr.mk 500 0 Option.none)) (n0) (c1)) = (Go.Value.slice (Option.some (Go.Addr.mk 500 0 Option.none)) (n0) (c1))) ∧
 (((Go.Value.pointer (Option.some (Go.Addr.mk 1000 1 Option.none))) = (Go.Value.pointer (Option.some (Go.Addr.mk 1000 1 Option.none)))) ∧
 (((Go.Value.pointer (Option.some (Go.Addr.mk 1000 0 Option.none))) = (Go.Value.pointer (Option.some (Go.Addr.mk 1000 0 Option.none)))) ∧
 (((vI (0 : Int)) = (vI (0 : Int))) ∧
 (((vI (0 : Int)) = (vI (0 : Int))) ∧
 True)))))))))))) ∧
 ((((Go.Value.pointer (Option.some (Go.Addr.mk 1000 0 Option.none))) = (Go.Value.pointer (Option.some (Go.Addr.mk 1000 0 Option.none)))) ∧
 True) ∧
 (B [(Prod.mk 0 (Go.Value.slice (Option.some (Go.Addr.mk 500 0 Option.none)) (n0) (c1))), (Prod.mk 1 (Go.Value.slice (Option.some (Go.Addr.mk 501 0 Option.none)) (n2) (c3))), (Prod.mk 5 (Go.Value.pointer (Option.some (Go.Addr.mk 1000 0 Option.none)))), (Prod.mk 6 (vI (0 : Int))), (Prod.mk 9 (vI (0 : Int))), (Prod.mk 12 (Go.Value.slice (Option.some (Go.Addr.mk 501 0 Option.none)) (n4) (c5))), (Prod.mk 13 (vI x6)), (Prod.mk 14 (vI (IntKind.wrap .i64 (x7 + 1))))] [(Prod.mk 500 (AObj.sym (l8) false 7)), (Prod.mk 501 (AObj.sym (l9) false 2)), (Prod.mk 1000 (AObj.cells [(Go.Value.slice (Option.some (Go.Addr.mk 1001 0 Option.none)) 1 1), (Go.Value.slice (Option.some (Go.Addr.mk 1002 0 Option.none)) 1 1), (Go.Value.slice Option.none 0 0), (Go.Value.slice Option.none 0 0)] 123 false 2)), (Prod.mk 1001 (AObj.sym [(vI n1)] true 1)), (Prod.mk 1002 (AObj.sym [(vI n5)] true 1))]))))))))
 False)
 False))))))))
 False)
 False)
 (X 2 [(Prod.mk 0 (Go.Value.slice (Option.some (Go.Addr.mk 500 0 Option.none)) (n0) (c1))), (Prod.mk 1 (Go.Value.slice (Option.some (Go.Addr.mk 501 0 Option.none)) (n2) (c3))), (Prod.mk 5 (Go.Value.pointer (Option.some (Go.Addr.mk 1000 0 Option.none)))), (Prod.mk 9 (vI (0 : Int)))] [(Prod.mk 500 (AObj.sym (l8) false 7)), (Prod.mk 501 (AObj.sym (l9) false 2)), (Prod.mk 1000 (AObj.cells [(Go.Value.slice Option.none 0 0), (Go.Value.slice Option.none 0 0), (Go.Value.slice Option.none 0 0), (Go.Value.slice Option.none 0 0)] 123 false 2))])) := by kernel_rfl
abbrev zBa3 (n0 : Nat) (c1 : Nat) (n2 : Nat) (c3 : Nat) (n4 : Nat) (c5 : Nat) (x6 : Int) (x7 : Int) (l8 : List Value) (l9 : List Value) (n10 : Nat) (n11 : Nat) (l12 : List Value) (l13 : List Value) : Slots × Blocks := ([(0, (Value.slice (some ⟨500, 0, none⟩) n0 c1)), (1, (Value.slice (some ⟨501, 0, none⟩) n2 c3)), (5, (Value.pointer (some ⟨1000, 0, none⟩))), (6, (Value.int .i64 (0))), (9, (Value.int .i64 (0))), (12, (Value.slice (some ⟨501, 0, none⟩) n4 c5)), (13, (Value.int .i64 x6)), (14, (Value.int .i64 x7))], [(500, (AObj.sym l8 false 7)), (501, (AObj.sym l9 false 2)), (1000, (AObj.cells [(Value.slice (some ⟨1001, 0, none⟩) n10 n10), (Value.slice (some ⟨1002, 0, none⟩) n11 n11), (Value.slice none 0 0), (Value.slice none 0 0)] 123 false 2)), (1001, (AObj.sym l12 true 1)), (1002, (AObj.sym l13 true 1))])
def rBa3 (C : Ct) (L : AtLoop) (n0 : Nat) (c1 : Nat) (n2 : Nat) (c3 : Nat) (n4 : Nat) (c5 : Nat) (x6 : Int) (x7 : Int) (l8 : List Value) (l9 : List Value) (n10 : Nat) (n11 : Nat) (l12 : List Value) (l13 : List Value) (B : Bx) (X : Xx) (k : List D → Prop) : Prop := jRound2 Try.prog (hK C) L [] 45 0 2 [(0, (Value.slice (some ⟨500, 0, none⟩) n0 c1)), (1, (Value.slice (some ⟨501, 0, none⟩) n2 c3)), (5, (Value.pointer (some ⟨1000, 0, none⟩))), (6, (Value.int .i64 (0))), (9, (Value.int .i64 (0))), (12, (Value.slice (some ⟨501, 0, none⟩) n4 c5)), (13, (Value.int .i64 x6)), (14, (Value.int .i64 x7))] [(500, (AObj.sym l8 false 7)), (501, (AObj.sym l9 false 2)), (1000, (AObj.cells [(Value.slice (some ⟨1001, 0, none⟩) n10 n10), (Value.slice (some ⟨1002, 0, none⟩) n11 n11), (Value.slice none 0 0), (Value.slice none 0 0)] 123 false 2)), (1001, (AObj.sym l12 true 1)), (1002, (AObj.sym l13 true 1))] B X (dataK k)
theorem rBa3_text (C : Ct) (L : AtLoop) (n0 : Nat) (c1 : Nat) (n2 : Nat) (c3 : Nat) (n4 : Nat) (c5 : Nat) (x6 : Int) (x7 : Int) (l8 : List Go.Value) (l9 : List Go.Value) (n10 : Nat) (n11 : Nat) (l12 : List Go.Value) (l13 : List Go.Value) (B : Bx) (X : Xx) (k : List D → Prop) : rBa3 C L n0 c1 n2 c3 n4 c5 x6 x7 l8 l9 n10 n11 l12 l13 B X k =
 (bcase (decide (x7 < x6))
 (bcase (decide (0 ≤ x7))
 (bcase (decide (x7 < (↑n4 : Int)))
 (∃ n1 : Int,
 (∃ n3 : Int,
 ((At (l9) (0 + Int.toNat x7 * 2) 2 [(vI n1), (vI n3)]) ∧
 ((((vI (0 : Int)) = (vI (0 : Int))) ∧
 (((Go.Value.agg [(vI n1), (vI n3)].toArray) = (Go.Value.agg [(vI n1), (vI n3)].toArray)) ∧
 (((Go.Value.slice (Option.some (Go.Addr.mk 1001 0 Option.none)) (n10) (n10)) = (Go.Value.slice (Option.some (Go.Addr.mk 1001 0 Option.none)) (n10) (n10))) ∧
 (((Go.Value.pointer (Option.some (Go.Addr.mk 1000 0 Option.none))) = (Go.Value.pointer (Option.some (Go.Addr.mk 1000 0 Option.none)))) ∧
 (((Go.Value.pointer (Option.some (Go.Addr.mk 1000 0 Option.none))) = (Go.Value.pointer (Option.some (Go.Addr.mk 1000 0 Option.none)))) ∧
 (((vI (0 : Int)) = (vI (0 : Int))) ∧
 (((vI (0 : Int)) = (vI (0 : Int))) ∧
 True))))))) ∧
 (((((Go.Value.slice (Option.some (Go.Addr.mk 1006 0 Option.none)) 1 1) = (Go.Value.slice (Option.some (Go.Addr.mk 1006 0 Option.none)) 1 1)) ∧
 ((Option.some (AObj.cells [(vI n1)] 3 false 1)) = (Option.some (AObj.cells [(vI n1)] 3 false 1)))) ∧
 (((vI n1) = (vI n1)) ∧
 (((vI (0 : Int)) = (vI (0 : Int))) ∧
 (((Go.Value.slice (Option.some (Go.Addr.mk 1001 0 Option.none)) (n10) (n10)) = (Go.Value.slice (Option.some (Go.Addr.mk 1001 0 Option.none)) (n10) (n10))) ∧
 (((Go.Value.pointer (Option.some (Go.Addr.mk 1000 0 Option.none))) = (Go.Value.pointer (Option.some (Go.Addr.mk 1000 0 Option.none)))) ∧
 (((Go.Value.pointer (Option.some (Go.Addr.mk 1000 0 Option.none))) = (Go.Value.pointer (Option.some (Go.Addr.mk 1000 0 Option.none)))) ∧
 (((vI (0 : Int)) = (vI (0 : Int))) ∧
 (((vI (0 : Int)) = (vI (0 : Int))) ∧
 True)))))))) ∧
 (bcase (decide (n10 < n10 + 1))
 (bcase (decide ((2 * (n10 + 1) + 768) * 8 ≤ 281474976710656))
 (bcase (decide (n10 + 1 ≤ 1099511627776))
 (bcase (decide (0 + n10 * 1 ≤ List.length l12))
 (bcase (decide (0 + n10 * 1 = List.length l12))
 ((((Go.Value.pointer (Option.some (Go.Addr.mk 1000 0 Option.none))) = (Go.Value.pointer (Option.some (Go.Addr.mk 1000 0 Option.none)))) ∧
 (((Go.Value.pointer (Option.some (Go.Addr.mk 1000 0 Option.none))) = (Go.Value.pointer (Option.some (Go.Addr.mk 1000 0 Option.none)))) ∧
 (((vI n1) = (vI n1)) ∧
 (((vI (0 : Int)) = (vI (0 : Int))) ∧
 (((Go.Value.pointer (Option.some (Go.Addr.mk 1000 0 Option.none))) = (Go.Value.pointer (Option.some (Go.Addr.mk 1000 0 Option.none)))) ∧
 (((Go.Value.pointer (Option.some (Go.Addr.mk 1000 0 Option.none))) = (Go.Value.pointer (Option.some (Go.Addr.mk 1000 0 Option.none)))) ∧
 (((vI (0 : Int)) = (vI (0 : Int))) ∧
 (((vI (0 : Int)) = (vI (0 : Int))) ∧
 True)))))))) ∧
 ((((Go.Value.pointer (Option.some (Go.Addr.mk 1000 0 Option.none))) = (Go.Value.pointer (Option.some (Go.Addr.mk 1000 0 Option.none)))) ∧
 True) ∧
 (bcase (decide (0 ≤ x7))
 (bcase (decide (x7 < (↑n0 : Int)))
 (∃ n5 : Int,
 (∃ n6 : Int,
 ((At (l8) (Go.Addr.off { block := 500, off := 0 + Int.toNat x7 * 7 } + 3) 2 [(vI n5), (vI n6)]) ∧
 ((((vI (0 : Int)) = (vI (0 : Int))) ∧
 ((∃ n7 : Int,
 (∃ n8 : Int,
 ((At (l8) (Go.Addr.off { block := 500, off := 0 + Int.toNat x7 * 7 } + 3) 2 [(vI n7), (vI n8)]) ∧
 ((Go.Value.agg [(vI n7), (vI n8)].toArray) = (Go.Value.agg [(vI n5), (vI n6)].toArray))))) ∧
 (((Go.Value.pointer (Option.some (Go.Addr.mk 500 (Go.Addr.off { block := 500, off := 0 + Int.toNat x7 * 7 } + 3) Option.none))) = (Go.Value.pointer (Option.some (Go.Addr.mk 500 (Go.Addr.off { block := 500, off := 0 + Int.toNat x7 * 7 } + 3) Option.none)))) ∧
 ((bcase (decide (0 ≤ x7))
 (bcase (decide (x7 < (↑n0 : Int)))
 ((Go.Value.pointer (Option.some (Go.Addr.mk 500 (0 + Int.toNat x7 * 7) Option.none))) = (Go.Value.pointer (Option.some (Go.Addr.mk 500 (0 + Int.toNat x7 * 7) Option.none))))
 False)
 False) ∧
 (((vI x7) = (vI x7)) ∧
 (((Go.Value.slice (Option.some (Go.Addr.mk 500 0 Option.none)) (n0) (c1)) = (Go.Value.slice (Option.some (Go.Addr.mk 500 0 Option.none)) (n0) (c1))) ∧
 (((Go.Value.slice (Option.some (Go.Addr.mk 1002 0 Option.none)) (n11) (n11)) = (Go.Value.slice (Option.some (Go.Addr.mk 1002 0 Option.none)) (n11) (n11))) ∧
 (((Go.Value.pointer (Option.some (Go.Addr.mk 1000 1 Option.none))) = (Go.Value.pointer (Option.some (Go.Addr.mk 1000 1 Option.none)))) ∧
 (((Go.Value.pointer (Option.some (Go.Addr.mk 1000 0 Option.none))) = (Go.Value.pointer (Option.some (Go.Addr.mk 1000 0 Option.none)))) ∧
 (((vI (0 : Int)) = (vI (0 : Int))) ∧
 (((vI (0 : Int)) = (vI (0 : Int))) ∧
 True))))))))))) ∧
 (((((Go.Value.slice (Option.some (Go.Addr.mk 1010 0 Option.none)) 1 1) = (Go.Value.slice (Option.some (Go.Addr.mk 1010 0 Option.none)) 1 1)) ∧
 ((Option.some (AObj.cells [(vI n5)] 3 false 1)) = (Option.some (AObj.cells [(vI n5)] 3 false 1)))) ∧
 (((vI n5) = (vI n5)) ∧
 (((vI (0 : Int)) = (vI (0 : Int))) ∧
 (((Go.Value.pointer (Option.some (Go.Addr.mk 500 (Go.Addr.off { block := 500, off := 0 + Int.toNat x7 * 7 } + 3) Option.none))) = (Go.Value.pointer (Option.some (Go.Addr.mk 500 (Go.Addr.off { block := 500, off := 0 + Int.toNat x7 * 7 } + 3) Option.none)))) ∧
 ((bcase (decide (0 ≤ x7))
 (bcase (decide (x7 < (↑n0 : Int)))
 ((Go.Value.pointer (Option.some (Go.Addr.mk 500 (0 + Int.toNat x7 * 7) Option.none))) = (Go.Value.pointer (Option.some (Go.Addr.mk 500 (0 + Int.toNat x7 * 7) Option.none))))
 False)
 False) ∧
 (((vI x7) = (vI x7)) ∧
 (((Go.Value.slice (Option.some (Go.Addr.mk 500 0 Option.none)) (n0) (c1)) = (Go.Value.slice (Option.some (Go.Addr.mk 500 0 Option.none)) (n0) (c1))) ∧
 (((Go.Value.slice (Option.some (Go.Addr.mk 1002 0 Option.none)) (n11) (n11)) = (Go.Value.slice (Option.some (Go.Addr.mk 1002 0 Option.none)) (n11) (n11))) ∧
 (((Go.Value.pointer (Option.some (Go.Addr.mk 1000 1 Option.none))) = (Go.Value.pointer (Option.some (Go.Addr.mk 1000 1 Option.none)))) ∧
 (((Go.Value.pointer (Option.some (Go.Addr.mk 1000 0 Option.none))) = (Go.Value.pointer (Option.some (Go.Addr.mk 1000 0 Option.none)))) ∧
 (((vI (0 : Int)) = (vI (0 : Int))) ∧
 (((vI (0 : Int)) = (vI (0 : Int))) ∧
 True)))))))))))) ∧
 (bcase (decide (n11 < n11 + 1))
 (bcase (decide ((2 * (n11 + 1) + 768) * 8 ≤ 281474976710656))
 (bcase (decide (n11 + 1 ≤ 1099511627776))
 (bcase (decide (0 + n11 * 1 ≤ List.length l13))
 (bcase (decide (0 + n11 * 1 = List.length l13))
 ((((Go.Value.pointer (Option.some (Go.Addr.mk 1000 1 Option.none))) = (Go.Value.pointer (Option.some (Go.Addr.mk 1000 1 Option.none)))) ∧
 (((Go.Value.pointer (Option.some (Go.Addr.mk 1000 0 Option.none))) = (Go.Value.pointer (Option.some (Go.Addr.mk 1000 0 Option.none)))) ∧
 (((vI n5) = (vI n5)) ∧
 (((vI (0 : Int)) = (vI (0 : Int))) ∧
 (((Go.Value.pointer (Option.some (Go.Addr.mk 500 (Go.Addr.off { block := 500, off := 0 + Int.toNat x7 * 7 } + 3) Option.none))) = (Go.Value.pointer (Option.some (Go.Addr.mk 500 (Go.Addr.off { block := 500, off := 0 + Int.toNat x7 * 7 } + 3) Option.none)))) ∧
 ((bcase (decide (0 ≤ x7))
 (bcase (decide (x7 < (↑n0 : Int)))
 ((Go.Value.pointer (Option.some (Go.Addr.mk 500 (0 + Int.toNat x7 * 7) Option.none))) = (Go.Value.pointer (Option.some (Go.Addr.mk 500 (0 + Int.toNat x7 * 7) Option.none))))
 False)
 False) ∧
 (((vI x7) = (vI x7)) ∧
 (((Go.Value.slice (Option.some (Go.Addr.mk 500 0 Option.none)) (n0) (c1)) = (Go.Value.slice (Option.some (Go.Addr.mk 500 0 Option.none)) (n0) (c1))) ∧
 (((Go.Value.pointer (Option.some (Go.Addr.mk 1000 1 Option.none))) = (Go.Value.pointer (Option.some (Go.Addr.mk 1000 1 Option.none)))) ∧
 (((Go.Value.pointer (Option.some (Go.Addr.mk 1000 0 Option.none))) = (Go.Value.pointer (Option.some (Go.Addr.mk 1000 0 Option.none)))) ∧
 (((vI (0 : Int)) = (vI (0 : Int))) ∧
 (((vI (0 : Int)) = (vI (0 : Int))) ∧
 True)))))))))))) ∧
 ((((Go.Value.pointer (Option.some (Go.Addr.mk 1000 0 Option.none))) = (Go.Value.pointer (Option.some (Go.Addr.mk 1000 0 Option.none)))) ∧
 True) ∧
 (B [(Prod.mk 0 (Go.Value.slice (Option.some (Go.Addr.mk 500 0 Option.none)) (n0) (c1))), (Prod.mk 1 (Go.Value.slice (Option.some (Go.Addr.mk 501 0 Option.none)) (n2) (c3))), (Prod.mk 5 (Go.Value.pointer (Option.some (Go.Addr.mk 1000 0 Option.none)))), (Prod.mk 6 (vI (0 : Int))), (Prod.mk 9 (vI (0 : Int))), (Prod.mk 12 (Go.Value.slice (Option.some (Go.Addr.mk 501 0 Option.none)) (n4) (c5))), (Prod.mk 13 (vI x6)), (Prod.mk 14 (vI (IntKind.wrap .i64 (x7 + 1))))] [(Prod.mk 500 (AObj.sym (l8) false 7)), (Prod.mk 501 (AObj.sym (l9) false 2)), (Prod.mk 1000 (AObj.cells [(Go.Value.slice (Option.some (Go.Addr.mk 1001 0 Option.none)) (n10 + 1) (n10 + 1)), (Go.Value.slice (Option.some (Go.Addr.mk 1002 0 Option.none)) (n11 + 1) (n11 + 1)), (Go.Value.slice Option.none 0 0), (Go.Value.slice Option.none 0 0)] 123 false 2)), (Prod.mk 1001 (AObj.sym ((List.take (n10 * 1) (List.drop 0 l12)) ++ [(vI n1)]) true 1)), (Prod.mk 1002 (AObj.sym ((List.take (n11 * 1) (List.drop 0 l13)) ++ [(vI n5)]) true 1))])))
 False)
 False)
 False)
 False)
 False))))))
 False)
 False)))
 False)
 False)
 False)
 False)
 False))))))
 False)
 False)
 (X 2 [(Prod.mk 0 (Go.Value.slice (Option.some (Go.Addr.mk 500 0 Option.none)) (n0) (c1))), (Prod.mk 1 (Go.Value.slice (Option.some (Go.Addr.mk 501 0 Option.none)) (n2) (c3))), (Prod.mk 5 (Go.Value.pointer (Option.some (Go.Addr.mk 1000 0 Option.none)))), (Prod.mk 9 (vI (0 : Int)))] [(Prod.mk 500 (AObj.sym (l8) false 7)), (Prod.mk 501 (AObj.sym (l9) false 2)), (Prod.mk 1000 (AObj.cells [(Go.Value.slice (Option.some (Go.Addr.mk 1001 0 Option.none)) (n10) (n10)), (Go.Value.slice (Option.some (Go.Addr.mk 1002 0 Option.none)) (n11) (n11)), (Go.Value.slice Option.none 0 0), (Go.Value.slice Option.none 0 0)] 123 false 2)), (Prod.mk 1001 (AObj.sym (l12) true 1)), (Prod.mk 1002 (AObj.sym (l13) true 1))])) := by kernel_rfl
def iBa5 (C : Ct) (L : AtLoop) (n0 : Nat) (c1 : Nat) (n2 : Nat) (c3 : Nat) (l4 : List Value) (l5 : List Value) (n6 : Nat) (n7 : Nat) (l8 : List Value) (l9 : List Value) (B : Bx) (X : Xx) (k : List D → Prop) : Prop := jIn Try.prog (hK C) L [] 45 0 2 .normal [(0, (Value.slice (some ⟨500, 0, none⟩) n0 c1)), (1, (Value.slice (some ⟨501, 0, none⟩) n2 c3)), (5, (Value.pointer (some ⟨1000, 0, none⟩))), (9, (Value.int .i64 (0)))] [(500, (AObj.sym l4 false 7)), (501, (AObj.sym l5 false 2)), (1000, (AObj.cells [(Value.slice (some ⟨1001, 0, none⟩) n6 n6), (Value.slice (some ⟨1002, 0, none⟩) n7 n7), (Value.slice none 0 0), (Value.slice none 0 0)] 123 false 2)), (1001, (AObj.sym l8 true 1)), (1002, (AObj.sym l9 true 1))] B X (dataK k)
theorem iBa5_text (C : Ct) (L : AtLoop) (n0 : Nat) (c1 : Nat) (n2 : Nat) (c3 : Nat) (l4 : List Go.Value) (l5 : List Go.Value) (n6 : Nat) (n7 : Nat) (l8 : List Go.Value) (l9 : List Go.Value) (B : Bx) (X : Xx) (k : List D → Prop) : iBa5 C L n0 c1 n2 c3 l4 l5 n6 n7 l8 l9 B X k =
 (B [(Prod.mk 0 (Go.Value.slice (Option.some (Go.Addr.mk 500 0 Option.none)) (n0) (c1))), (Prod.mk 1 (Go.Value.slice (Option.some (Go.Addr.mk 501 0 Option.none)) (n2) (c3))), (Prod.mk 5 (Go.Value.pointer (Option.some (Go.Addr.mk 1000 0 Option.none)))), (Prod.mk 9 (vI (1 : Int)))] [(Prod.mk 500 (AObj.sym (l4) false 7)), (Prod.mk 501 (AObj.sym (l5) false 2)), (Prod.mk 1000 (AObj.cells [(Go.Value.slice (Option.some (Go.Addr.mk 1001 0 Option.none)) (n6) (n6)), (Go.Value.slice (Option.some (Go.Addr.mk 1002 0 Option.none)) (n7) (n7)), (Go.Value.slice Option.none 0 0), (Go.Value.slice Option.none 0 0)] 123 false 2)), (Prod.mk 1001 (AObj.sym (l8) true 1)), (Prod.mk 1002 (AObj.sym (l9) true 1))]) := by kernel_rfl
abbrev zBa7 (n0 : Nat) (c1 : Nat) (n2 : Nat) (c3 : Nat) (l4 : List Value) (l5 : List Value) (n6 : Nat) (n7 : Nat) (l8 : List Value) (l9 : List Value) : Slots × Blocks := ([(0, (Value.slice (some ⟨500, 0, none⟩) n0 c1)), (1, (Value.slice (some ⟨501, 0, none⟩) n2 c3)), (5, (Value.pointer (some ⟨1000, 0, none⟩))), (9, (Value.int .i64 (1)))], [(500, (AObj.sym l4 false 7)), (501, (AObj.sym l5 false 2)), (1000, (AObj.cells [(Value.slice (some ⟨1001, 0, none⟩) n6 n6), (Value.slice (some ⟨1002, 0, none⟩) n7 n7), (Value.slice none 0 0), (Value.slice none 0 0)] 123 false 2)), (1001, (AObj.sym l8 true 1)), (1002, (AObj.sym l9 true 1))])
def rBa7 (C : Ct) (L : AtLoop) (n0 : Nat) (c1 : Nat) (n2 : Nat) (c3 : Nat) (l4 : List Value) (l5 : List Value) (n6 : Nat) (n7 : Nat) (l8 : List Value) (l9 : List Value) (B : Bx) (X : Xx) (k : List D → Prop) : Prop := jRound Try.prog (hK C) L [] 45 0 [(0, (Value.slice (some ⟨500, 0, none⟩) n0 c1)), (1, (Value.slice (some ⟨501, 0, none⟩) n2 c3)), (5, (Value.pointer (some ⟨1000, 0, none⟩))), (9, (Value.int .i64 (1)))] [(500, (AObj.sym l4 false 7)), (501, (AObj.sym l5 false 2)), (1000, (AObj.cells [(Value.slice (some ⟨1001, 0, none⟩) n6 n6), (Value.slice (some ⟨1002, 0, none⟩) n7 n7), (Value.slice none 0 0), (Value.slice none 0 0)] 123 false 2)), (1001, (AObj.sym l8 true 1)), (1002, (AObj.sym l9 true 1))] B X (dataK k)
theorem rBa7_text (C : Ct) (L : AtLoop) (n0 : Nat) (c1 : Nat) (n2 : Nat) (c3 : Nat) (l4 : List Go.Value) (l5 : List Go.Value) (n6 : Nat) (n7 : Nat) (l8 : List Go.Value) (l9 : List Go.Value) (B : Bx) (X : Xx) (k : List D → Prop) : rBa7 C L n0 c1 n2 c3 l4 l5 n6 n7 l8 l9 B X k =
 (L 2 [(Prod.mk 0 (Go.Value.slice (Option.some (Go.Addr.mk 500 0 Option.none)) (n0) (c1))), (Prod.mk 1 (Go.Value.slice (Option.some (Go.Addr.mk 501 0 Option.none)) (n2) (c3))), (Prod.mk 5 (Go.Value.pointer (Option.some (Go.Addr.mk 1000 0 Option.none)))), (Prod.mk 6 (vI (1 : Int))), (Prod.mk 9 (vI (1 : Int))), (Prod.mk 12 (Go.Value.slice (Option.some (Go.Addr.mk 501 0 Option.none)) (n2) (c3))), (Prod.mk 13 (vI ((↑n2 : Int)))), (Prod.mk 14 (vI (0 : Int)))] [(Prod.mk 500 (AObj.sym (l4) false 7)), (Prod.mk 501 (AObj.sym (l5) false 2)), (Prod.mk 1000 (AObj.cells [(Go.Value.slice (Option.some (Go.Addr.mk 1001 0 Option.none)) (n6) (n6)), (Go.Value.slice (Option.some (Go.Addr.mk 1002 0 Option.none)) (n7) (n7)), (Go.Value.slice Option.none 0 0), (Go.Value.slice Option.none 0 0)] 123 false 2)), (Prod.mk 1001 (AObj.sym (l8) true 1)), (Prod.mk 1002 (AObj.sym (l9) true 1))]) := by kernel_rfl
abbrev zBa9 (n0 : Nat) (c1 : Nat) (n2 : Nat) (c3 : Nat) (n4 : Nat) (c5 : Nat) (x6 : Int) (x7 : Int) (l8 : List Value) (l9 : List Value) (n10 : Nat) (n11 : Nat) (l12 : List Value) (l13 : List Value) : Slots × Blocks := ([(0, (Value.slice (some ⟨500, 0, none⟩) n0 c1)), (1, (Value.slice (some ⟨501, 0, none⟩) n2 c3)), (5, (Value.pointer (some ⟨1000, 0, none⟩))), (6, (Value.int .i64 (1))), (9, (Value.int .i64 (1))), (12, (Value.slice (some ⟨501, 0, none⟩) n4 c5)), (13, (Value.int .i64 x6)), (14, (Value.int .i64 x7))], [(500, (AObj.sym l8 false 7)), (501, (AObj.sym l9 false 2)), (1000, (AObj.cells [(Value.slice (some ⟨1001, 0, none⟩) n10 n10), (Value.slice (some ⟨1002, 0, none⟩) n11 n11), (Value.slice none 0 0), (Value.slice none 0 0)] 123 false 2)), (1001, (AObj.sym l12 true 1)), (1002, (AObj.sym l13 true 1))])
def rBa9 (C : Ct) (L : AtLoop) (n0 : Nat) (c1 : Nat) (n2 : Nat) (c3 : Nat) (n4 : Nat) (c5 : Nat) (x6 : Int) (x7 : Int) (l8 : List Value) (l9 : List Value) (n10 : Nat) (n11 : Nat) (l12 : List Value) (l13 : List Value) (B : Bx) (X : Xx) (k : List D → Prop) : Prop := jRound2 Try.prog (hK C) L [] 45 0 2 [(0, (Value.slice (some ⟨500, 0, none⟩) n0 c1)), (1, (Value.slice (some ⟨501, 0, none⟩) n2 c3)), (5, (Value.pointer (some ⟨1000, 0, none⟩))), (6, (Value.int .i64 (1))), (9, (Value.int .i64 (1))), (12, (Value.slice (some ⟨501, 0, none⟩) n4 c5)), (13, (Value.int .i64 x6)), (14, (Value.int .i64 x7))] [(500, (AObj.sym l8 false 7)), (501, (AObj.sym l9 false 2)), (1000, (AObj.cells [(Value.slice (some ⟨1001, 0, none⟩) n10 n10), (Value.slice (some ⟨1002, 0, none⟩) n11 n11), (Value.slice none 0 0), (Value.slice none 0 0)] 123 false 2)), (1001, (AObj.sym l12 true 1)), (1002, (AObj.sym l13 true 1))] B X (dataK k)
theorem rBa9_text (C : Ct) (L : AtLoop) (n0 : Nat) (c1 : Nat) (n2 : Nat) (c3 : Nat) (n4 : Nat) (c5 : Nat) (x6 : Int) (x7 : Int) (l8 : List Go.Value) (l9 : List Go.Value) (n10 : Nat) (n11 : Nat) (l12 : List Go.Value) (l13 : List Go.Value) (B : Bx) (X : Xx) (k : List D → Prop) : rBa9 C L n0 c1 n2 c3 n4 c5 x6 x7 l8 l9 n10 n11 l12 l13 B X k =
 (bcase (decide (x7 < x6))
 (bcase (decide (0 ≤ x7))
 (bcase (decide (x7 < (↑n4 : Int)))
 (∃ n1 : Int,
 (∃ n3 : Int,
 ((At (l9) (0 + Int.toNat x7 * 2) 2 [(vI n1), (vI n3)]) ∧
 ((((vI (1 : Int)) = (vI (1 : Int))) ∧
 (((Go.Value.agg [(vI n1), (vI n3)].toArray) = (Go.Value.agg [(vI n1), (vI n3)].toArray)) ∧
 (((Go.Value.slice Option.none 0 0) = (Go.Value.slice Option.none 0 0)) ∧
 (((Go.Value.pointer (Option.some (Go.Addr.mk 1000 2 Option.none))) = (Go.Value.pointer (Option.some (Go.Addr.mk 1000 2 Option.none)))) ∧
 (((Go.Value.pointer (Option.some (Go.Addr.mk 1000 2 Option.none))) = (Go.Value.pointer (Option.some (Go.Addr.mk 1000 2 Option.none)))) ∧
 (((vI (1 : Int)) = (vI (1 : Int))) ∧
 (((vI (1 : Int)) = (vI (1 : Int))) ∧
 True))))))) ∧
 (((((Go.Value.slice (Option.some (Go.Addr.mk 1006 0 Option.none)) 1 1) = (Go.Value.slice (Option.some (Go.Addr.mk 1006 0 Option.none)) 1 1)) ∧
 ((Option.some (AObj.cells [(vI n3)] 3 false 1)) = (Option.some (AObj.cells [(vI n3)] 3 false 1)))) ∧
 (((vI n3) = (vI n3)) ∧
 (((vI (1 : Int)) = (vI (1 : Int))) ∧
 (((Go.Value.slice Option.none 0 0) = (Go.Value.slice Option.none 0 0)) ∧
 (((Go.Value.pointer (Option.some (Go.Addr.mk 1000 2 Option.none))) = (Go.Value.pointer (Option.some (Go.Addr.mk 1000 2 Option.none)))) ∧
 (((Go.Value.pointer (Option.some (Go.Addr.mk 1000 2 Option.none))) = (Go.Value.pointer (Option.some (Go.Addr.mk 1000 2 Option.none)))) ∧
 (((vI (1 : Int)) = (vI (1 : Int))) ∧
 (((vI (1 : Int)) = (vI (1 : Int))) ∧
 True)))))))) ∧
 ((((Go.Value.pointer (Option.some (Go.Addr.mk 1000 2 Option.none))) = (Go.Value.pointer (Option.some (Go.Addr.mk 1000 2 Option.none)))) ∧
 (((Go.Value.pointer (Option.some (Go.Addr.mk 1000 2 Option.none))) = (Go.Value.pointer (Option.some (Go.Addr.mk 1000 2 Option.none)))) ∧
 (((vI n3) = (vI n3)) ∧
 (((vI (1 : Int)) = (vI (1 : Int))) ∧
 (((Go.Value.pointer (Option.some (Go.Addr.mk 1000 2 Option.none))) = (Go.Value.pointer (Option.some (Go.Addr.mk 1000 2 Option.none)))) ∧
 (((Go.Value.pointer (Option.some (Go.Addr.mk 1000 2 Option.none))) = (Go.Value.pointer (Option.some (Go.Addr.mk 1000 2 Option.none)))) ∧
 (((vI (1 : Int)) = (vI (1 : Int))) ∧
 (((vI (1 : Int)) = (vI (1 : Int))) ∧
 True)))))))) ∧
 ((((Go.Value.pointer (Option.some (Go.Addr.mk 1000 2 Option.none))) = (Go.Value.pointer (Option.some (Go.Addr.mk 1000 2 Option.none)))) ∧
 True) ∧
 (bcase (decide (0 ≤ x7))
 (bcase (decide (x7 < (↑n0 : Int)))
 (∃ n5 : Int,
 (∃ n6 : Int,
 ((At (l8) (Go.Addr.off { block := 500, off := 0 + Int.toNat x7 * 7 } + 3) 2 [(vI n5), (vI n6)]) ∧
 ((((vI (1 : Int)) = (vI (1 : Int))) ∧
 ((∃ n7 : Int,
 (∃ n8 : Int,
 ((At (l8) (Go.Addr.off { block := 500, off := 0 + Int.toNat x7 * 7 } + 3) 2 [(vI n7), (vI n8)]) ∧
 ((Go.Value.agg [(vI n7), (vI n8)].toArray) = (Go.Value.agg [(vI n5), (vI n6)].toArray))))) ∧
 (((Go.Value.pointer (Option.some (Go.Addr.mk 500 (Go.Addr.off { block := 500, off := 0 + Int.toNat x7 * 7 } + 3) Option.none))) = (Go.Value.pointer (Option.some (Go.Addr.mk 500 (Go.Addr.off { block := 500, off := 0 + Int.toNat x7 * 7 } + 3) Option.none)))) ∧
 ((bcase (decide (0 ≤ x7))
 (bcase (decide (x7 < (↑n0 : Int)))
 ((Go.Value.pointer (Option.some (Go.Addr.mk 500 (0 + Int.toNat x7 * 7) Option.none))) = (Go.Value.pointer (Option.some (Go.Addr.mk 500 (0 + Int.toNat x7 * 7) Option.none))))
 False)
 False) ∧
 (((vI x7) = (vI x7)) ∧
 (((Go.Value.slice (Option.some (Go.Addr.mk 500 0 Option.none)) (n0) (c1)) = (Go.Value.slice (Option.some (Go.Addr.mk 500 0 Option.none)) (n0) (c1))) ∧
 (((Go.Value.slice Option.none 0 0) = (Go.Value.slice Option.none 0 0)) ∧
 (((Go.Value.pointer (Option.some (Go.Addr.mk 1000 3 Option.none))) = (Go.Value.pointer (Option.some (Go.Addr.mk 1000 3 Option.none)))) ∧
 (((Go.Value.pointer (Option.some (Go.Addr.mk 1000 2 Option.none))) = (Go.Value.pointer (Option.some (Go.Addr.mk 1000 2 Option.none)))) ∧
 (((vI (1 : Int)) = (vI (1 : Int))) ∧
 (((vI (1 : Int)) = (vI (1 : Int))) ∧
 True))))))))))) ∧
 (((((Go.Value.slice (Option.some (Go.Addr.mk 1010 0 Option.none)) 1 1) = (Go.Value.slice (Option.some (Go.Addr.mk 1010 0 Option.none)) 1 1)) ∧
 ((Option.some (AObj.cells [(vI n6)] 3 false 1)) = (Option.some (AObj.cells [(vI n6)] 3 false 1)))) ∧
 (((vI n6) = (vI n6)) ∧
 (((vI (1 : Int)) = (vI (1 : Int))) ∧
 (((Go.Value.pointer (Option.some (Go.Addr.mk 500 (Go.Addr.off { block := 500, off := 0 + Int.toNat x7 * 7 } + 3) Option.none))) = (Go.Value.pointer (Option.some (Go.Addr.mk 500 (Go.Addr.off { block := 500, off := 0 + Int.toNat x7 * 7 } + 3) Option.none)))) ∧
 ((bcase (decide (0 ≤ x7))
 (bcase (decide (x7 < (↑n0 : Int)))
 ((Go.Value.pointer (Option.some (Go.Addr.mk 500 (0 + Int.toNat x7 * 7) Option.none))) = (Go.Value.pointer (Option.some (Go.Addr.mk 500 (0 + Int.toNat x7 * 7) Option.none))))
 False)
 False) ∧
 (((vI x7) = (vI x7)) ∧
 (((Go.Value.slice (Option.some (Go.Addr.mk 500 0 Option.none)) (n0) (c1)) = (Go.Value.slice (Option.some (Go.Addr.mk 500 0 Option.none)) (n0) (c1))) ∧
 (((Go.Value.slice Option.none 0 0) = (Go.Value.slice Option.none 0 0)) ∧
 (((Go.Value.pointer (Option.some (Go.Addr.mk 1000 3 Option.none))) = (Go.Value.pointer (Option.some (Go.Addr.mk 1000 3 Option.none)))) ∧
 (((Go.Value.pointer (Option.some (Go.Addr.mk 1000 2 Option.none))) = (Go.Value.pointer (Option.some (Go.Addr.mk 1000 2 Option.none)))) ∧
 (((vI (1 : Int)) = (vI (1 : Int))) ∧
 (((vI (1 : Int)) = (vI (1 : Int))) ∧
 True)))))))))))) ∧
 ((((Go.Value.pointer (Option.some (Go.Addr.mk 1000 3 Option.none))) = (Go.Value.pointer (Option.some (Go.Addr.mk 1000 3 Option.none)))) ∧
 (((Go.Value.pointer (Option.some (Go.Addr.mk 1000 2 Option.none))) = (Go.Value.pointer (Option.some (Go.Addr.mk 1000 2 Option.none)))) ∧
 (((vI n6) = (vI n6)) ∧
 (((vI (1 : Int)) = (vI (1 : Int))) ∧
 (((Go.Value.pointer (Option.some (Go.Addr.mk 500 (Go.Addr.off { block := 500, off := 0 + Int.toNat x7 * 7 } + 3) Option.none))) = (Go.Value.pointer (Option.some (Go.Addr.mk 500 (Go.Addr.off { block := 500, off := 0 + Int.toNat x7 * 7 } + 3) Option.none)))) ∧
 ((bcase (decide (0 ≤ x7))
 (bcase (decide (x7 < (↑n0 : Int)))
 ((Go.Value.pointer (Option.some (Go.Addr.mk 500 (0 + Int.toNat x7 * 7) Option.none))) = (Go.Value.pointer (Option.some (Go.Addr.mk 500 (0 + Int.toNat x7 * 7) Option.none))))
 False)
 False) ∧
 (((vI x7) = (vI x7)) ∧
 (((Go.Value.slice (Option.some (Go.Addr.mk 500 0 Option.none)) (n0) (c1)) = (Go.Value.slice (Option.some (Go.Addr.mk 500 0 Option.none)) (n0) (c1))) ∧
 (((Go.Value.pointer (Option.some (Go.Addr.mk 1000 3 Option.none))) = (Go.Value.pointer (Option.some (Go.Addr.mk 1000 3 Option.none)))) ∧
 (((Go.Value.pointer (Option.some (Go.Addr.mk 1000 2 Option.none))) = (Go.Value.pointer (Option.some (Go.Addr.mk 1000 2 Option.none)))) ∧
 (((vI (1 : Int)) = (vI (1 : Int))) ∧
 (((vI (1 : Int)) = (vI (1 : Int))) ∧
 True)))))))))))) ∧
 ((((Go.Value.pointer (Option.some (Go.Addr.mk 1000 2 Option.none))) = (Go.Value.pointer (Option.some (Go.Addr.mk 1000 2 Option.none)))) ∧
 True) ∧
 (B [(Prod.mk 0 (Go.Value.slice (Option.some (Go.Addr.mk 500 0 Option.none)) (n0) (c1))), (Prod.mk 1 (Go.Value.slice (Option.some (Go.Addr.mk 501 0 Option.none)) (n2) (c3))), (Prod.mk 5 (Go.Value.pointer (Option.some (Go.Addr.mk 1000 0 Option.none)))), (Prod.mk 6 (vI (1 : Int))), (Prod.mk 9 (vI (1 : Int))), (Prod.mk 12 (Go.Value.slice (Option.some (Go.Addr.mk 501 0 Option.none)) (n4) (c5))), (Prod.mk 13 (vI x6)), (Prod.mk 14 (vI (IntKind.wrap .i64 (x7 + 1))))] [(Prod.mk 500 (AObj.sym (l8) false 7)), (Prod.mk 501 (AObj.sym (l9) false 2)), (Prod.mk 1000 (AObj.cells [(Go.Value.slice (Option.some (Go.Addr.mk 1001 0 Option.none)) (n10) (n10)), (Go.Value.slice (Option.some (Go.Addr.mk 1002 0 Option.none)) (n11) (n11)), (Go.Value.slice (Option.some (Go.Addr.mk 1003 0 Option.none)) 1 1), (Go.Value.slice (Option.some (Go.Addr.mk 1004 0 Option.none)) 1 1)] 123 false 2)), (Prod.mk 1001 (AObj.sym (l12) true 1)), (Prod.mk 1002 (AObj.sym (l13) true 1)), (Prod.mk 1003 (AObj.sym [(vI n3)] true 1)), (Prod.mk 1004 (AObj.sym [(vI n6)] true 1))]))))))))
 False)
 False))))))))
 False)
 False)
 (X 2 [(Prod.mk 0 (Go.Value.slice (Option.some (Go.Addr.mk 500 0 Option.none)) (n0) (c1))), (Prod.mk 1 (Go.Value.slice (Option.some (Go.Addr.mk 501 0 Option.none)) (n2) (c3))), (Prod.mk 5 (Go.Value.pointer (Option.some (Go.Addr.mk 1000 0 Option.none)))), (Prod.mk 9 (vI (1 : Int)))] [(Prod.mk 500 (AObj.sym (l8) false 7)), (Prod.mk 501 (AObj.sym (l9) false 2)), (Prod.mk 1000 (AObj.cells [(Go.Value.slice (Option.some (Go.Addr.mk 1001 0 Option.none)) (n10) (n10)), (Go.Value.slice (Option.some (Go.Addr.mk 1002 0 Option.none)) (n11) (n11)), (Go.Value.slice Option.none 0 0), (Go.Value.slice Option.none 0 0)] 123 false 2)), (Prod.mk 1001 (AObj.sym (l12) true 1)), (Prod.mk 1002 (AObj.sym (l13) true 1))])) := by kernel_rfl
abbrev zBa12 (n0 : Nat) (c1 : Nat) (n2 : Nat) (c3 : Nat) (n4 : Nat) (c5 : Nat) (x6 : Int) (x7 : Int) (l8 : List Value) (l9 : List Value) (n10 : Nat) (n11 : Nat) (n12 : Nat) (n13 : Nat) (l14 : List Value) (l15 : List Value) (l16 : List Value) (l17 : List Value) : Slots × Blocks := ([(0, (Value.slice (some ⟨500, 0, none⟩) n0 c1)), (1, (Value.slice (some ⟨501, 0, none⟩) n2 c3)), (5, (Value.pointer (some ⟨1000, 0, none⟩))), (6, (Value.int .i64 (1))), (9, (Value.int .i64 (1))), (12, (Value.slice (some ⟨501, 0, none⟩) n4 c5)), (13, (Value.int .i64 x6)), (14, (Value.int .i64 x7))], [(500, (AObj.sym l8 false 7)), (501, (AObj.sym l9 false 2)), (1000, (AObj.cells [(Value.slice (some ⟨1001, 0, none⟩) n10 n10), (Value.slice (some ⟨1002, 0, none⟩) n11 n11), (Value.slice (some ⟨1003, 0, none⟩) n12 n12), (Value.slice (some ⟨1004, 0, none⟩) n13 n13)] 123 false 2)), (1001, (AObj.sym l14 true 1)), (1002, (AObj.sym l15 true 1)), (1003, (AObj.sym l16 true 1)), (1004, (AObj.sym l17 true 1))])
def rBa12 (C : Ct) (L : AtLoop) (n0 : Nat) (c1 : Nat) (n2 : Nat) (c3 : Nat) (n4 : Nat) (c5 : Nat) (x6 : Int) (x7 : Int) (l8 : List Value) (l9 : List Value) (n10 : Nat) (n11 : Nat) (n12 : Nat) (n13 : Nat) (l14 : List Value) (l15 : List Value) (l16 : List Value) (l17 : List Value) (B : Bx) (X : Xx) (k : List D → Prop) : Prop := jRound2 Try.prog (hK C) L [] 45 0 2 [(0, (Value.slice (some ⟨500, 0, none⟩) n0 c1)), (1, (Value.slice (some ⟨501, 0, none⟩) n2 c3)), (5, (Value.pointer (some ⟨1000, 0, none⟩))), (6, (Value.int .i64 (1))), (9, (Value.int .i64 (1))), (12, (Value.slice (some ⟨501, 0, none⟩) n4 c5)), (13, (Value.int .i64 x6)), (14, (Value.int .i64 x7))] [(500, (AObj.sym l8 false 7)), (501, (AObj.sym l9 false 2)), (1000, (AObj.cells [(Value.slice (some ⟨1001, 0, none⟩) n10 n10), (Value.slice (some ⟨1002, 0, none⟩) n11 n11), (Value.slice (some ⟨1003, 0, none⟩) n12 n12), (Value.slice (some ⟨1004, 0, none⟩) n13 n13)] 123 false 2)), (1001, (AObj.sym l14 true 1)), (1002, (AObj.sym l15 true 1)), (1003, (AObj.sym l16 true 1)), (1004, (AObj.sym l17 true 1))] B X (dataK k)
theorem rBa12_text (C : Ct) (L : AtLoop) (n0 : Nat) (c1 : Nat) (n2 : Nat) (c3 : Nat) (n4 : Nat) (c5 : Nat) (x6 : Int) (x7 : Int) (l8 : List Go.Value) (l9 : List Go.Value) (n10 : Nat) (n11 : Nat) (n12 : Nat) (n13 : Nat) (l14 : List Go.Value) (l15 : List Go.Value) (l16 : List Go.Value) (l17 : List Go.Value) (B : Bx) (X : Xx) (k : List D → Prop) : rBa12 C L n0 c1 n2 c3 n4 c5 x6 x7 l8 l9 n10 n11 n12 n13 l14 l15 l16 l17 B X k =
 (bcase (decide (x7 < x6))
 (bcase (decide (0 ≤ x7))
 (bcase (decide (x7 < (↑n4 : Int)))
 (∃ n1 : Int,
 (∃ n3 : Int,
 ((At (l9) (0 + Int.toNat x7 * 2) 2 [(vI n1), (vI n3)]) ∧
 ((((vI (1 : Int)) = (vI (1 : Int))) ∧
 (((Go.Value.agg [(vI n1), (vI n3)].toArray) = (Go.Value.agg [(vI n1), (vI n3)].toArray)) ∧
 (((Go.Value.slice (Option.some (Go.Addr.mk 1003 0 Option.none)) (n12) (n12)) = (Go.Value.slice (Option.some (Go.Addr.mk 1003 0 Option.none)) (n12) (n12))) ∧
 (((Go.Value.pointer (Option.some (Go.Addr.mk 1000 2 Option.none))) = (Go.Value.pointer (Option.some (Go.Addr.mk 1000 2 Option.none)))) ∧
 (((Go.Value.pointer (Option.some (Go.Addr.mk 1000 2 Option.none))) = (Go.Value.pointer (Option.some (Go.Addr.mk 1000 2 Option.none)))) ∧
 (((vI (1 : Int)) = (vI (1 : Int))) ∧
 (((vI (1 : Int)) = (vI (1 : Int))) ∧
 True))))))) ∧
 (((((Go.Value.slice (Option.some (Go.Addr.mk 1008 0 Option.none)) 1 1) = (Go.Value.slice (Option.some (Go.Addr.mk 1008 0 Option.none)) 1 1)) ∧
 ((Option.some (AObj.cells [(vI n3)] 3 false 1)) = (Option.some (AObj.cells [(vI n3)] 3 false 1)))) ∧
 (((vI n3) = (vI n3)) ∧
 (((vI (1 : Int)) = (vI (1 : Int))) ∧
 (((Go.Value.slice (Option.some (Go.Addr.mk 1003 0 Option.none)) (n12) (n12)) = (Go.Value.slice (Option.some (Go.Addr.mk 1003 0 Option.none)) (n12) (n12))) ∧
 (((Go.Value.pointer (Option.some (Go.Addr.mk 1000 2 Option.none))) = (Go.Value.pointer (Option.some (Go.Addr.mk 1000 2 Option.none)))) ∧
 (((Go.Value.pointer (Option.some (Go.Addr.mk 1000 2 Option.none))) = (Go.Value.pointer (Option.some (Go.Addr.mk 1000 2 Option.none)))) ∧
 (((vI (1 : Int)) = (vI (1 : Int))) ∧
 (((vI (1 : Int)) = (vI (1 : Int))) ∧
 True)))))))) ∧
 (bcase (decide (n12 < n12 + 1))
 (bcase (decide ((2 * (n12 + 1) + 768) * 8 ≤ 281474976710656))
 (bcase (decide (n12 + 1 ≤ 1099511627776))
 (bcase (decide (0 + n12 * 1 ≤ List.length l16))
 (bcase (decide (0 + n12 * 1 = List.length l16))
 ((((Go.Value.pointer (Option.some (Go.Addr.mk 1000 2 Option.none))) = (Go.Value.pointer (Option.some (Go.Addr.mk 1000 2 Option.none)))) ∧
 (((Go.Value.pointer (Option.some (Go.Addr.mk 1000 2 Option.none))) = (Go.Value.pointer (Option.some (Go.Addr.mk 1000 2 Option.none)))) ∧
 (((vI n3) = (vI n3)) ∧
 (((vI (1 : Int)) = (vI (1 : Int))) ∧
 (((Go.Value.pointer (Option.some (Go.Addr.mk 1000 2 Option.none))) = (Go.Value.pointer (Option.some (Go.Addr.mk 1000 2 Option.none)))) ∧
 (((Go.Value.pointer (Option.some (Go.Addr.mk 1000 2 Option.none))) = (Go.Value.pointer (Option.some (Go.Addr.mk 1000 2 Option.none)))) ∧
 (((vI (1 : Int)) = (vI (1 : Int))) ∧
 (((vI (1 : Int)) = (vI (1 : Int))) ∧
 True)))))))) ∧
 ((((Go.Value.pointer (Option.some (Go.Addr.mk 1000 2 Option.none))) = (Go.Value.pointer (Option.some (Go.Addr.mk 1000 2 Option.none)))) ∧
 True) ∧
 (bcase (decide (0 ≤ x7))
 (bcase (decide (x7 < (↑n0 : Int)))
 (∃ n5 : Int,
 (∃ n6 : Int,
 ((At (l8) (Go.Addr.off { block := 500, off := 0 + Int.toNat x7 * 7 } + 3) 2 [(vI n5), (vI n6)]) ∧
 ((((vI (1 : Int)) = (vI (1 : Int))) ∧
 ((∃ n7 : Int,
 (∃ n8 : Int,
 ((At (l8) (Go.Addr.off { block := 500, off := 0 + Int.toNat x7 * 7 } + 3) 2 [(vI n7), (vI n8)]) ∧
 ((Go.Value.agg [(vI n7), (vI n8)].toArray) = (Go.Value.agg [(vI n5), (vI n6)].toArray))))) ∧
 (((Go.Value.pointer (Option.some (Go.Addr.mk 500 (Go.Addr.off { block := 500, off := 0 + Int.toNat x7 * 7 } + 3) Option.none))) = (Go.Value.pointer (Option.some (Go.Addr.mk 500 (Go.Addr.off { block := 500, off := 0 + Int.toNat x7 * 7 } + 3) Option.none)))) ∧
 ((bcase (decide (0 ≤ x7))
 (bcase (decide (x7 < (↑n0 : Int)))
 ((Go.Value.pointer (Option.some (Go.Addr.mk 500 (0 + Int.toNat x7 * 7) Option.none))) = (Go.Value.pointer (Option.some (Go.Addr.mk 500 (0 + Int.toNat x7 * 7) Option.none))))
 False)
 False) ∧
 (((vI x7) = (vI x7)) ∧
 (((Go.Value.slice (Option.some (Go.Addr.mk 500 0 Option.none)) (n0) (c1)) = (Go.Value.slice (Option.some (Go.Addr.mk 500 0 Option.none)) (n0) (c1))) ∧
 (((Go.Value.slice (Option.some (Go.Addr.mk 1004 0 Option.none)) (n13) (n13)) = (Go.Value.slice (Option.some (Go.Addr.mk 1004 0 Option.none)) (n13) (n13))) ∧
 (((Go.Value.pointer (Option.some (Go.Addr.mk 1000 3 Option.none))) = (Go.Value.pointer (Option.some (Go.Addr.mk 1000 3 Option.none)))) ∧
 (((Go.Value.pointer (Option.some (Go.Addr.mk 1000 2 Option.none))) = (Go.Value.pointer (Option.some (Go.Addr.mk 1000 2 Option.none)))) ∧
 (((vI (1 : Int)) = (vI (1 : Int))) ∧
 (((vI (1 : Int)) = (vI (1 : Int))) ∧
 True))))))))))) ∧
 (((((Go.Value.slice (Option.some (Go.Addr.mk 1012 0 Option.none)) 1 1) = (Go.Value.slice (Option.some (Go.Addr.mk 1012 0 Option.none)) 1 1)) ∧
 ((Option.some (AObj.cells [(vI n6)] 3 false 1)) = (Option.some (AObj.cells [(vI n6)] 3 false 1)))) ∧
 (((vI n6) = (vI n6)) ∧
 (((vI (1 : Int)) = (vI (1 : Int))) ∧
 (((Go.Value.pointer (Option.some (Go.Addr.mk 500 (Go.Addr.off { block := 500, off := 0 + Int.toNat x7 * 7 } + 3) Option.none))) = (Go.Value.pointer (Option.some (Go.Addr.mk 500 (Go.Addr.off { block := 500, off := 0 + Int.toNat x7 * 7 } + 3) Option.none)))) ∧
 ((bcase (decide (0 ≤ x7))
 (bcase (decide (x7 < (↑n0 : Int)))
 ((Go.Value.pointer (Option.some (Go.Addr.mk 500 (0 + Int.toNat x7 * 7) Option.none))) = (Go.Value.pointer (Option.some (Go.Addr.mk 500 (0 + Int.toNat x7 * 7) Option.none))))
 False)
 False) ∧
 (((vI x7) = (vI x7)) ∧
 (((Go.Value.slice (Option.some (Go.Addr.mk 500 0 Option.none)) (n0) (c1)) = (Go.Value.slice (Option.some (Go.Addr.mk 500 0 Option.none)) (n0) (c1))) ∧
 (((Go.Value.slice (Option.some (Go.Addr.mk 1004 0 Option.none)) (n13) (n13)) = (Go.Value.slice (Option.some (Go.Addr.mk 1004 0 Option.none)) (n13) (n13))) ∧
 (((Go.Value.pointer (Option.some (Go.Addr.mk 1000 3 Option.none))) = (Go.Value.pointer (Option.some (Go.Addr.mk 1000 3 Option.none)))) ∧
 (((Go.Value.pointer (Option.some (Go.Addr.mk 1000 2 Option.none))) = (Go.Value.pointer (Option.some (Go.Addr.mk 1000 2 Option.none)))) ∧
 (((vI (1 : Int)) = (vI (1 : Int))) ∧
 (((vI (1 : Int)) = (vI (1 : Int))) ∧
 True)))))))))))) ∧
 (bcase (decide (n13 < n13 + 1))
 (bcase (decide ((2 * (n13 + 1) + 768) * 8 ≤ 281474976710656))
 (bcase (decide (n13 + 1 ≤ 1099511627776))
 (bcase (decide (0 + n13 * 1 ≤ List.length l17))
 (bcase (decide (0 + n13 * 1 = List.length l17))
 ((((Go.Value.pointer (Option.some (Go.Addr.mk 1000 3 Option.none))) = (Go.Value.pointer (Option.some (Go.Addr.mk 1000 3 Option.none)))) ∧
 (((Go.Value.pointer (Option.some (Go.Addr.mk 1000 2 Option.none))) = (Go.Value.pointer (Option.some (Go.Addr.mk 1000 2 Option.none)))) ∧
 (((vI n6) = (vI n6)) ∧
 (((vI (1 : Int)) = (vI (1 : Int))) ∧
 (((Go.Value.pointer (Option.some (Go.Addr.mk 500 (Go.Addr.off { block := 500, off := 0 + Int.toNat x7 * 7 } + 3) Option.none))) = (Go.Value.pointer (Option.some (Go.Addr.mk 500 (Go.Addr.off { block := 500, off := 0 + Int.toNat x7 * 7 } + 3) Option.none)))) ∧
 ((bcase (decide (0 ≤ x7))
 (bcase (decide (x7 < (↑n0 : Int)))
 ((Go.Value.pointer (Option.some (Go.Addr.mk 500 (0 + Int.toNat x7 * 7) Option.none))) = (Go.Value.pointer (Option.some (Go.Addr.mk 500 (0 + Int.toNat x7 * 7) Option.none))))
 False)
 False) ∧
 (((vI x7) = (vI x7)) ∧
 (((Go.Value.slice (Option.some (Go.Addr.mk 500 0 Option.none)) (n0) (c1)) = (Go.Value.slice (Option.some (Go.Addr.mk 500 0 Option.none)) (n0) (c1))) ∧
 (((Go.Value.pointer (Option.some (Go.Addr.mk 1000 3 Option.none))) = (Go.Value.pointer (Option.some (Go.Addr.mk 1000 3 Option.none)))) ∧
 (((Go.Value.pointer (Option.some (Go.Addr.mk 1000 2 Option.none))) = (Go.Value.pointer (Option.some (Go.Addr.mk 1000 2 Option.none)))) ∧
 (((vI (1 : Int)) = (vI (1 : Int))) ∧
 (((vI (1 : Int)) = (vI (1 : Int))) ∧
 True)))))))))))) ∧
 ((((Go.Value.pointer (Option.some (Go.Addr.mk 1000 2 Option.none))) = (Go.Value.pointer (Option.some (Go.Addr.mk 1000 2 Option.none)))) ∧
 True) ∧
 (B [(Prod.mk 0 (Go.Value.slice (Option.some (Go.Addr.mk 500 0 Option.none)) (n0) (c1))), (Prod.mk 1 (Go.Value.slice (Option.some (Go.Addr.mk 501 0 Option.none)) (n2) (c3))), (Prod.mk 5 (Go.Value.pointer (Option.some (Go.Addr.mk 1000 0 Option.none)))), (Prod.mk 6 (vI (1 : Int))), (Prod.mk 9 (vI (1 : Int))), (Prod.mk 12 (Go.Value.slice (Option.some (Go.Addr.mk 501 0 Option.none)) (n4) (c5))), (Prod.mk 13 (vI x6)), (Prod.mk 14 (vI (IntKind.wrap .i64 (x7 + 1))))] [(Prod.mk 500 (AObj.sym (l8) false 7)), (Prod.mk 501 (AObj.sym (l9) false 2)), (Prod.mk 1000 (AObj.cells [(Go.Value.slice (Option.some (Go.Addr.mk 1001 0 Option.none)) (n10) (n10)), (Go.Value.slice (Option.some (Go.Addr.mk 1002 0 Option.none)) (n11) (n11)), (Go.Value.slice (Option.some (Go.Addr.mk 1003 0 Option.none)) (n12 + 1) (n12 + 1)), (Go.Value.slice (Option.some (Go.Addr.mk 1004 0 Option.none)) (n13 + 1) (n13 + 1))] 123 false 2)), (Prod.mk 1001 (AObj.sym (l14) true 1)), (Prod.mk 1002 (AObj.sym (l15) true 1)), (Prod.mk 1003 (AObj.sym ((List.take (n12 * 1) (List.drop 0 l16)) ++ [(vI n3)]) true 1)), (Prod.mk 1004 (AObj.sym ((List.take (n13 * 1) (List.drop 0 l17)) ++ [(vI n6)]) true 1))])))
 False)
 False)
 False)
 False)
 False))))))
 False)
 False)))
 False)
 False)
 False)
 False)
 False))))))
 False)
 False)
 (X 2 [(Prod.mk 0 (Go.Value.slice (Option.some (Go.Addr.mk 500 0 Option.none)) (n0) (c1))), (Prod.mk 1 (Go.Value.slice (Option.some (Go.Addr.mk 501 0 Option.none)) (n2) (c3))), (Prod.mk 5 (Go.Value.pointer (Option.some (Go.Addr.mk 1000 0 Option.none)))), (Prod.mk 9 (vI (1 : Int)))] [(Prod.mk 500 (AObj.sym (l8) false 7)), (Prod.mk 501 (AObj.sym (l9) false 2)), (Prod.mk 1000 (AObj.cells [(Go.Value.slice (Option.some (Go.Addr.mk 1001 0 Option.none)) (n10) (n10)), (Go.Value.slice (Option.some (Go.Addr.mk 1002 0 Option.none)) (n11) (n11)), (Go.Value.slice (Option.some (Go.Addr.mk 1003 0 Option.none)) (n12) (n12)), (Go.Value.slice (Option.some (Go.Addr.mk 1004 0 Option.none)) (n13) (n13))] 123 false 2)), (Prod.mk 1001 (AObj.sym (l14) true 1)), (Prod.mk 1002 (AObj.sym (l15) true 1)), (Prod.mk 1003 (AObj.sym (l16) true 1)), (Prod.mk 1004 (AObj.sym (l17) true 1))])) := by kernel_rfl
def iBa16 (C : Ct) (L : AtLoop) (n0 : Nat) (c1 : Nat) (n2 : Nat) (c3 : Nat) (l4 : List Value) (l5 : List Value) (n6 : Nat) (n7 : Nat) (n8 : Nat) (n9 : Nat) (l10 : List Value) (l11 : List Value) (l12 : List Value) (l13 : List Value) (B : Bx) (X : Xx) (k : List D → Prop) : Prop := jIn Try.prog (hK C) L [] 45 0 2 .normal [(0, (Value.slice (some ⟨500, 0, none⟩) n0 c1)), (1, (Value.slice (some ⟨501, 0, none⟩) n2 c3)), (5, (Value.pointer (some ⟨1000, 0, none⟩))), (9, (Value.int .i64 (1)))] [(500, (AObj.sym l4 false 7)), (501, (AObj.sym l5 false 2)), (1000, (AObj.cells [(Value.slice (some ⟨1001, 0, none⟩) n6 n6), (Value.slice (some ⟨1002, 0, none⟩) n7 n7), (Value.slice (some ⟨1003, 0, none⟩) n8 n8), (Value.slice (some ⟨1004, 0, none⟩) n9 n9)] 123 false 2)), (1001, (AObj.sym l10 true 1)), (1002, (AObj.sym l11 true 1)), (1003, (AObj.sym l12 true 1)), (1004, (AObj.sym l13 true 1))] B X (dataK k)
theorem iBa16_text (C : Ct) (L : AtLoop) (n0 : Nat) (c1 : Nat) (n2 : Nat) (c3 : Nat) (l4 : List Go.Value) (l5 : List Go.Value) (n6 : Nat) (n7 : Nat) (n8 : Nat) (n9 : Nat) (l10 : List Go.Value) (l11 : List Go.Value) (l12 : List Go.Value) (l13 : List Go.Value) (B : Bx) (X : Xx) (k : List D → Prop) : iBa16 C L n0 c1 n2 c3 l4 l5 n6 n7 n8 n9 l10 l11 l12 l13 B X k =
 (B [(Prod.mk 0 (Go.Value.slice (Option.some (Go.Addr.mk 500 0 Option.none)) (n0) (c1))), (Prod.mk 1 (Go.Value.slice (Option.some (Go.Addr.mk 501 0 Option.none)) (n2) (c3))), (Prod.mk 5 (Go.Value.pointer (Option.some (Go.Addr.mk 1000 0 Option.none)))), (Prod.mk 9 (vI (2 : Int)))] [(Prod.mk 500 (AObj.sym (l4) false 7)), (Prod.mk 501 (AObj.sym (l5) false 2)), (Prod.mk 1000 (AObj.cells [(Go.Value.slice (Option.some (Go.Addr.mk 1001 0 Option.none)) (n6) (n6)), (Go.Value.slice (Option.some (Go.Addr.mk 1002 0 Option.none)) (n7) (n7)), (Go.Value.slice (Option.some (Go.Addr.mk 1003 0 Option.none)) (n8) (n8)), (Go.Value.slice (Option.some (Go.Addr.mk 1004 0 Option.none)) (n9) (n9))] 123 false 2)), (Prod.mk 1001 (AObj.sym (l10) true 1)), (Prod.mk 1002 (AObj.sym (l11) true 1)), (Prod.mk 1003 (AObj.sym (l12) true 1)), (Prod.mk 1004 (AObj.sym (l13) true 1))]) := by kernel_rfl
def gIm (C : Ct) (L : AtLoop) (n0 : Nat) (c0 : Nat) (l0 : List Value) (n1 : Nat) (c1 : Nat) (l1 : List Value) (k : List D → Prop) : Prop := wpFn Try.prog (hK C) L 0 50 #[.agg #[.slice (some ⟨500, 0, none⟩) n0 c0], .slice (some ⟨501, 0, none⟩) n1 c1] (heapOf [(500, .sym l0 false 7), (501, .sym l1 false 2)]) (dataK k)
theorem gIm_text (C : Ct) (L : AtLoop) (n0 : Nat) (c0 : Nat) (l0 : List Go.Value) (n1 : Nat) (c1 : Nat) (l1 : List Go.Value) (k : List D → Prop) : gIm C L n0 c0 l0 n1 c1 l1 k =
 (L 0 [(Prod.mk 1 (Go.Value.slice (Option.some (Go.Addr.mk 501 0 Option.none)) (n1) (c1))), (Prod.mk 2 (Go.Value.pointer (Option.some (Go.Addr.mk 1000 0 Option.none)))), (Prod.mk 5 (Go.Value.slice Option.none 0 0)), (Prod.mk 6 (Go.Value.slice Option.none 0 0)), (Prod.mk 7 (Go.Value.slice Option.none 0 0)), (Prod.mk 8 (Go.Value.slice Option.none 0 0)), (Prod.mk 9 (vI (0 : Int)))] [(Prod.mk 501 (AObj.sym (l1) false 2)), (Prod.mk 1000 (AObj.cells [(Go.Value.slice (Option.some (Go.Addr.mk 500 0 Option.none)) (n0) (c0))] 24 false 1)), (Prod.mk 500 (AObj.sym (l0) false 7))]) := by kernel_rfl
abbrev zIm1 (n0 : Nat) (c1 : Nat) (x2 : Int) (l3 : List Value) (n4 : Nat) (c5 : Nat) (l6 : List Value) : Slots × Blocks := ([(1, (Value.slice (some ⟨501, 0, none⟩) n0 c1)), (2, (Value.pointer (some ⟨1000, 0, none⟩))), (5, (Value.slice none 0 0)), (6, (Value.slice none 0 0)), (7, (Value.slice none 0 0)), (8, (Value.slice none 0 0)), (9, (Value.int .i64 x2))], [(501, (AObj.sym l3 false 2)), (1000, (AObj.cells [(Value.slice (some ⟨500, 0, none⟩) n4 c5)] 24 false 1)), (500, (AObj.sym l6 false 7))])
def rIm1 (C : Ct) (L : AtLoop) (n0 : Nat) (c1 : Nat) (x2 : Int) (l3 : List Value) (n4 : Nat) (c5 : Nat) (l6 : List Value) (B : Bx) (X : Xx) (k : List D → Prop) : Prop := wpRound Try.prog (hK C) L 50 0 [(1, (Value.slice (some ⟨501, 0, none⟩) n0 c1)), (2, (Value.pointer (some ⟨1000, 0, none⟩))), (5, (Value.slice none 0 0)), (6, (Value.slice none 0 0)), (7, (Value.slice none 0 0)), (8, (Value.slice none 0 0)), (9, (Value.int .i64 x2))] [(501, (AObj.sym l3 false 2)), (1000, (AObj.cells [(Value.slice (some ⟨500, 0, none⟩) n4 c5)] 24 false 1)), (500, (AObj.sym l6 false 7))] B X (dataK k)
theorem rIm1_text (C : Ct) (L : AtLoop) (n0 : Nat) (c1 : Nat) (x2 : Int) (l3 : List Go.Value) (n4 : Nat) (c5 : Nat) (l6 : List Go.Value) (B : Bx) (X : Xx) (k : List D → Prop) : rIm1 C L n0 c1 x2 l3 n4 c5 l6 B X k =
 (bcase (decide (x2 < (↑n0 : Int)))
 (bcase (decide (0 ≤ x2))
 (bcase (decide (x2 < (↑n0 : Int)))
 (∃ n1 : Int,
 ((At (l3) (0 + Int.toNat x2 * 2) 1 [(vI n1)]) ∧
 (bcase (decide (0 ≤ x2))
 (bcase (decide (x2 < (↑n0 : Int)))
 (∃ n2 : Int,
 ((At (l3) (Go.Addr.off { block := 501, off := 0 + Int.toNat x2 * 2 } + 1) 1 [(vI n2)]) ∧
 (((((Go.Value.slice (Option.some (Go.Addr.mk 1002 0 Option.none)) 1 1) = (Go.Value.slice (Option.some (Go.Addr.mk 1002 0 Option.none)) 1 1)) ∧
 ((Option.some (AObj.cells [(vI n2)] 3 false 1)) = (Option.some (AObj.cells [(vI n2)] 3 false 1)))) ∧
 ((∃ n3 : Int,
 ((At (l3) (Go.Addr.off { block := 501, off := 0 + Int.toNat x2 * 2 } + 1) 1 [(vI n3)]) ∧
 ((vI n3) = (vI n2)))) ∧
 (((Go.Value.pointer (Option.some (Go.Addr.mk 501 (Go.Addr.off { block := 501, off := 0 + Int.toNat x2 * 2 } + 1) Option.none))) = (Go.Value.pointer (Option.some (Go.Addr.mk 501 (Go.Addr.off { block := 501, off := 0 + Int.toNat x2 * 2 } + 1) Option.none)))) ∧
 ((bcase (decide (0 ≤ x2))
 (bcase (decide (x2 < (↑n0 : Int)))
 ((Go.Value.pointer (Option.some (Go.Addr.mk 501 (0 + Int.toNat x2 * 2) Option.none))) = (Go.Value.pointer (Option.some (Go.Addr.mk 501 (0 + Int.toNat x2 * 2) Option.none))))
 False)
 False) ∧
 (((vI x2) = (vI x2)) ∧
 (((Go.Value.slice (Option.some (Go.Addr.mk 501 0 Option.none)) (n0) (c1)) = (Go.Value.slice (Option.some (Go.Addr.mk 501 0 Option.none)) (n0) (c1))) ∧
 (((Go.Value.slice Option.none 0 0) = (Go.Value.slice Option.none 0 0)) ∧
 ((((Go.Value.slice (Option.some (Go.Addr.mk 1001 0 Option.none)) 1 1) = (Go.Value.slice (Option.some (Go.Addr.mk 1001 0 Option.none)) 1 1)) ∧
 ((Option.some (AObj.cells [(vI n1)] 3 false 1)) = (Option.some (AObj.cells [(vI n1)] 3 false 1)))) ∧
 ((∃ n3 : Int,
 ((At (l3) (0 + Int.toNat x2 * 2) 1 [(vI n3)]) ∧
 ((vI n3) = (vI n1)))) ∧
 (((Go.Value.pointer (Option.some (Go.Addr.mk 501 (0 + Int.toNat x2 * 2) Option.none))) = (Go.Value.pointer (Option.some (Go.Addr.mk 501 (0 + Int.toNat x2 * 2) Option.none)))) ∧
 ((bcase (decide (0 ≤ x2))
 (bcase (decide (x2 < (↑n0 : Int)))
 ((Go.Value.pointer (Option.some (Go.Addr.mk 501 (0 + Int.toNat x2 * 2) Option.none))) = (Go.Value.pointer (Option.some (Go.Addr.mk 501 (0 + Int.toNat x2 * 2) Option.none))))
 False)
 False) ∧
 (((vI x2) = (vI x2)) ∧
 (((Go.Value.slice (Option.some (Go.Addr.mk 501 0 Option.none)) (n0) (c1)) = (Go.Value.slice (Option.some (Go.Addr.mk 501 0 Option.none)) (n0) (c1))) ∧
 (((Go.Value.slice Option.none 0 0) = (Go.Value.slice Option.none 0 0)) ∧
 True)))))))))))))) ∧
 (((((Go.Value.slice (Option.some (Go.Addr.mk 1002 0 Option.none)) 1 1) = (Go.Value.slice (Option.some (Go.Addr.mk 1002 0 Option.none)) 1 1)) ∧
 ((Option.some (AObj.cells [(vI n2)] 3 false 1)) = (Option.some (AObj.cells [(vI n2)] 3 false 1)))) ∧
 ((∃ n3 : Int,
 ((At (l3) (Go.Addr.off { block := 501, off := 0 + Int.toNat x2 * 2 } + 1) 1 [(vI n3)]) ∧
 ((vI n3) = (vI n2)))) ∧
 (((Go.Value.pointer (Option.some (Go.Addr.mk 501 (Go.Addr.off { block := 501, off := 0 + Int.toNat x2 * 2 } + 1) Option.none))) = (Go.Value.pointer (Option.some (Go.Addr.mk 501 (Go.Addr.off { block := 501, off := 0 + Int.toNat x2 * 2 } + 1) Option.none)))) ∧
 ((bcase (decide (0 ≤ x2))
 (bcase (decide (x2 < (↑n0 : Int)))
 ((Go.Value.pointer (Option.some (Go.Addr.mk 501 (0 + Int.toNat x2 * 2) Option.none))) = (Go.Value.pointer (Option.some (Go.Addr.mk 501 (0 + Int.toNat x2 * 2) Option.none))))
 False)
 False) ∧
 (((vI x2) = (vI x2)) ∧
 (((Go.Value.slice (Option.some (Go.Addr.mk 501 0 Option.none)) (n0) (c1)) = (Go.Value.slice (Option.some (Go.Addr.mk 501 0 Option.none)) (n0) (c1))) ∧
 (((Go.Value.slice Option.none 0 0) = (Go.Value.slice Option.none 0 0)) ∧
 ((∃ n3 : Int,
 ((At (l3) (0 + Int.toNat x2 * 2) 1 [(vI n3)]) ∧
 ((vI n3) = (vI n1)))) ∧
 (((Go.Value.pointer (Option.some (Go.Addr.mk 501 (0 + Int.toNat x2 * 2) Option.none))) = (Go.Value.pointer (Option.some (Go.Addr.mk 501 (0 + Int.toNat x2 * 2) Option.none)))) ∧
 ((bcase (decide (0 ≤ x2))
 (bcase (decide (x2 < (↑n0 : Int)))
 ((Go.Value.pointer (Option.some (Go.Addr.mk 501 (0 + Int.toNat x2 * 2) Option.none))) = (Go.Value.pointer (Option.some (Go.Addr.mk 501 (0 + Int.toNat x2 * 2) Option.none))))
 False)
 False) ∧
 (((vI x2) = (vI x2)) ∧
 (((Go.Value.slice (Option.some (Go.Addr.mk 501 0 Option.none)) (n0) (c1)) = (Go.Value.slice (Option.some (Go.Addr.mk 501 0 Option.none)) (n0) (c1))) ∧
 True)))))))))))) ∧
 (((∃ n3 : Int,
 ((At (l3) (Go.Addr.off { block := 501, off := 0 + Int.toNat x2 * 2 } + 1) 1 [(vI n3)]) ∧
 ((vI n3) = (vI n2)))) ∧
 (((Go.Value.pointer (Option.some (Go.Addr.mk 501 (Go.Addr.off { block := 501, off := 0 + Int.toNat x2 * 2 } + 1) Option.none))) = (Go.Value.pointer (Option.some (Go.Addr.mk 501 (Go.Addr.off { block := 501, off := 0 + Int.toNat x2 * 2 } + 1) Option.none)))) ∧
 ((bcase (decide (0 ≤ x2))
 (bcase (decide (x2 < (↑n0 : Int)))
 ((Go.Value.pointer (Option.some (Go.Addr.mk 501 (0 + Int.toNat x2 * 2) Option.none))) = (Go.Value.pointer (Option.some (Go.Addr.mk 501 (0 + Int.toNat x2 * 2) Option.none))))
 False)
 False) ∧
 (((vI x2) = (vI x2)) ∧
 (((Go.Value.slice (Option.some (Go.Addr.mk 501 0 Option.none)) (n0) (c1)) = (Go.Value.slice (Option.some (Go.Addr.mk 501 0 Option.none)) (n0) (c1))) ∧
 ((∃ n3 : Int,
 ((At (l3) (0 + Int.toNat x2 * 2) 1 [(vI n3)]) ∧
 ((vI n3) = (vI n1)))) ∧
 (((Go.Value.pointer (Option.some (Go.Addr.mk 501 (0 + Int.toNat x2 * 2) Option.none))) = (Go.Value.pointer (Option.some (Go.Addr.mk 501 (0 + Int.toNat x2 * 2) Option.none)))) ∧
 ((bcase (decide (0 ≤ x2))
 (bcase (decide (x2 < (↑n0 : Int)))
 ((Go.Value.pointer (Option.some (Go.Addr.mk 501 (0 + Int.toNat x2 * 2) Option.none))) = (Go.Value.pointer (Option.some (Go.Addr.mk 501 (0 + Int.toNat x2 * 2) Option.none))))
 False)
 False) ∧
 (((vI x2) = (vI x2)) ∧
 (((Go.Value.slice (Option.some (Go.Addr.mk 501 0 Option.none)) (n0) (c1)) = (Go.Value.slice (Option.some (Go.Addr.mk 501 0 Option.none)) (n0) (c1))) ∧
 True)))))))))) ∧
 (((∃ n3 : Int,
 ((At (l3) (Go.Addr.off { block := 501, off := 0 + Int.toNat x2 * 2 } + 1) 1 [(vI n3)]) ∧
 ((vI n3) = (vI n2)))) ∧
 (((Go.Value.pointer (Option.some (Go.Addr.mk 501 (Go.Addr.off { block := 501, off := 0 + Int.toNat x2 * 2 } + 1) Option.none))) = (Go.Value.pointer (Option.some (Go.Addr.mk 501 (Go.Addr.off { block := 501, off := 0 + Int.toNat x2 * 2 } + 1) Option.none)))) ∧
 ((bcase (decide (0 ≤ x2))
 (bcase (decide (x2 < (↑n0 : Int)))
 ((Go.Value.pointer (Option.some (Go.Addr.mk 501 (0 + Int.toNat x2 * 2) Option.none))) = (Go.Value.pointer (Option.some (Go.Addr.mk 501 (0 + Int.toNat x2 * 2) Option.none))))
 False)
 False) ∧
 (((vI x2) = (vI x2)) ∧
 (((Go.Value.slice (Option.some (Go.Addr.mk 501 0 Option.none)) (n0) (c1)) = (Go.Value.slice (Option.some (Go.Addr.mk 501 0 Option.none)) (n0) (c1))) ∧
 True))))) ∧
 (True ∧
 (bcase (decide (0 ≤ x2))
 (bcase (decide (x2 < (↑n4 : Int)))
 (∃ n3 : Int,
 ((At (l6) (Go.Addr.off { block := 500, off := 0 + Int.toNat x2 * 7 } + 3) 1 [(vI n3)]) ∧
 (bcase (decide (0 ≤ x2))
 (bcase (decide (x2 < (↑n4 : Int)))
 (∃ n5 : Int,
 ((At (l6) (Go.Addr.off (Go.Addr.add { block := 500, off := 0 + Int.toNat x2 * 7 } 3) + 1) 1 [(vI n5)]) ∧
 (((((Go.Value.slice (Option.some (Go.Addr.mk 1006 0 Option.none)) 1 1) = (Go.Value.slice (Option.some (Go.Addr.mk 1006 0 Option.none)) 1 1)) ∧
 ((Option.some (AObj.cells [(vI n5)] 3 false 1)) = (Option.some (AObj.cells [(vI n5)] 3 false 1)))) ∧
 ((∃ n6 : Int,
 ((At (l6) (Go.Addr.off (Go.Addr.add { block := 500, off := 0 + Int.toNat x2 * 7 } 3) + 1) 1 [(vI n6)]) ∧
 ((vI n6) = (vI n5)))) ∧
 (((Go.Value.pointer (Option.some (Go.Addr.mk 500 (Go.Addr.off { block := 500, off := Go.Addr.off { block := 500, off := 0 + Int.toNat x2 * 7 } + 3 } + 1) Option.none))) = (Go.Value.pointer (Option.some (Go.Addr.mk 500 (Go.Addr.off (Go.Addr.add { block := 500, off := 0 + Int.toNat x2 * 7 } 3) + 1) Option.none)))) ∧
 (((Go.Value.pointer (Option.some (Go.Addr.mk 500 (Go.Addr.off { block := 500, off := 0 + Int.toNat x2 * 7 } + 3) Option.none))) = (Go.Value.pointer (Option.some (Go.Addr.mk 500 (Go.Addr.off { block := 500, off := 0 + Int.toNat x2 * 7 } + 3) Option.none)))) ∧
 ((bcase (decide (0 ≤ x2))
 (bcase (decide (x2 < (↑n4 : Int)))
 ((Go.Value.pointer (Option.some (Go.Addr.mk 500 (0 + Int.toNat x2 * 7) Option.none))) = (Go.Value.pointer (Option.some (Go.Addr.mk 500 (0 + Int.toNat x2 * 7) Option.none))))
 False)
 False) ∧
 (((vI x2) = (vI x2)) ∧
 (((Go.Value.slice (Option.some (Go.Addr.mk 500 0 Option.none)) (n4) (c5)) = (Go.Value.slice (Option.some (Go.Addr.mk 500 0 Option.none)) (n4) (c5))) ∧
 (((Go.Value.pointer (Option.some (Go.Addr.mk 1000 0 Option.none))) = (Go.Value.pointer (Option.some (Go.Addr.mk 1000 0 Option.none)))) ∧
 (((Go.Value.slice Option.none 0 0) = (Go.Value.slice Option.none 0 0)) ∧
 ((((Go.Value.slice (Option.some (Go.Addr.mk 1005 0 Option.none)) 1 1) = (Go.Value.slice (Option.some (Go.Addr.mk 1005 0 Option.none)) 1 1)) ∧
 ((Option.some (AObj.cells [(vI n3)] 3 false 1)) = (Option.some (AObj.cells [(vI n3)] 3 false 1)))) ∧
 ((∃ n6 : Int,
 ((At (l6) (Go.Addr.off { block := 500, off := 0 + Int.toNat x2 * 7 } + 3) 1 [(vI n6)]) ∧
 ((vI n6) = (vI n3)))) ∧
 (((Go.Value.pointer (Option.some (Go.Addr.mk 500 (Go.Addr.off { block := 500, off := 0 + Int.toNat x2 * 7 } + 3) Option.none))) = (Go.Value.pointer (Option.some (Go.Addr.mk 500 (Go.Addr.off { block := 500, off := 0 + Int.toNat x2 * 7 } + 3) Option.none)))) ∧
 (((Go.Value.pointer (Option.some (Go.Addr.mk 500 (Go.Addr.off { block := 500, off := 0 + Int.toNat x2 * 7 } + 3) Option.none))) = (Go.Value.pointer (Option.some (Go.Addr.mk 500 (Go.Addr.off { block := 500, off := 0 + Int.toNat x2 * 7 } + 3) Option.none)))) ∧
 ((bcase (decide (0 ≤ x2))
 (bcase (decide (x2 < (↑n4 : Int)))
 ((Go.Value.pointer (Option.some (Go.Addr.mk 500 (0 + Int.toNat x2 * 7) Option.none))) = (Go.Value.pointer (Option.some (Go.Addr.mk 500 (0 + Int.toNat x2 * 7) Option.none))))
 False)
 False) ∧
 (((vI x2) = (vI x2)) ∧
 (((Go.Value.slice (Option.some (Go.Addr.mk 500 0 Option.none)) (n4) (c5)) = (Go.Value.slice (Option.some (Go.Addr.mk 500 0 Option.none)) (n4) (c5))) ∧
 (((Go.Value.pointer (Option.some (Go.Addr.mk 1000 0 Option.none))) = (Go.Value.pointer (Option.some (Go.Addr.mk 1000 0 Option.none)))) ∧
 (((Go.Value.slice Option.none 0 0) = (Go.Value.slice Option.none 0 0)) ∧
 True)))))))))))))))))) ∧
 (((((Go.Value.slice (Option.some (Go.Addr.mk 1006 0 Option.none)) 1 1) = (Go.Value.slice (Option.some (Go.Addr.mk 1006 0 Option.none)) 1 1)) ∧
 ((Option.some (AObj.cells [(vI n5)] 3 false 1)) = (Option.some (AObj.cells [(vI n5)] 3 false 1)))) ∧
 ((∃ n6 : Int,
 ((At (l6) (Go.Addr.off (Go.Addr.add { block := 500, off := 0 + Int.toNat x2 * 7 } 3) + 1) 1 [(vI n6)]) ∧
 ((vI n6) = (vI n5)))) ∧
 (((Go.Value.pointer (Option.some (Go.Addr.mk 500 (Go.Addr.off { block := 500, off := Go.Addr.off { block := 500, off := 0 + Int.toNat x2 * 7 } + 3 } + 1) Option.none))) = (Go.Value.pointer (Option.some (Go.Addr.mk 500 (Go.Addr.off (Go.Addr.add { block := 500, off := 0 + Int.toNat x2 * 7 } 3) + 1) Option.none)))) ∧
 (((Go.Value.pointer (Option.some (Go.Addr.mk 500 (Go.Addr.off { block := 500, off := 0 + Int.toNat x2 * 7 } + 3) Option.none))) = (Go.Value.pointer (Option.some (Go.Addr.mk 500 (Go.Addr.off { block := 500, off := 0 + Int.toNat x2 * 7 } + 3) Option.none)))) ∧
 ((bcase (decide (0 ≤ x2))
 (bcase (decide (x2 < (↑n4 : Int)))
 ((Go.Value.pointer (Option.some (Go.Addr.mk 500 (0 + Int.toNat x2 * 7) Option.none))) = (Go.Value.pointer (Option.some (Go.Addr.mk 500 (0 + Int.toNat x2 * 7) Option.none))))
 False)
 False) ∧
 (((vI x2) = (vI x2)) ∧
 (((Go.Value.slice (Option.some (Go.Addr.mk 500 0 Option.none)) (n4) (c5)) = (Go.Value.slice (Option.some (Go.Addr.mk 500 0 Option.none)) (n4) (c5))) ∧
 (((Go.Value.pointer (Option.some (Go.Addr.mk 1000 0 Option.none))) = (Go.Value.pointer (Option.some (Go.Addr.mk 1000 0 Option.none)))) ∧
 (((Go.Value.slice Option.none 0 0) = (Go.Value.slice Option.none 0 0)) ∧
 ((∃ n6 : Int,
 ((At (l6) (Go.Addr.off { block := 500, off := 0 + Int.toNat x2 * 7 } + 3) 1 [(vI n6)]) ∧
 ((vI n6) = (vI n3)))) ∧
 (((Go.Value.pointer (Option.some (Go.Addr.mk 500 (Go.Addr.off { block := 500, off := 0 + Int.toNat x2 * 7 } + 3) Option.none))) = (Go.Value.pointer (Option.some (Go.Addr.mk 500 (Go.Addr.off { block := 500, off := 0 + Int.toNat x2 * 7 } + 3) Option.none)))) ∧
 (((Go.Value.pointer (Option.some (Go.Addr.mk 500 (Go.Addr.off { block := 500, off := 0 + Int.toNat x2 * 7 } + 3) Option.none))) = (Go.Value.pointer (Option.some (Go.Addr.mk 500 (Go.Addr.off { block := 500, off := 0 + Int.toNat x2 * 7 } + 3) Option.none)))) ∧
 ((bcase (decide (0 ≤ x2))
 (bcase (decide (x2 < (↑n4 : Int)))
 ((Go.Value.pointer (Option.some (Go.Addr.mk 500 (0 + Int.toNat x2 * 7) Option.none))) = (Go.Value.pointer (Option.some (Go.Addr.mk 500 (0 + Int.toNat x2 * 7) Option.none))))
 False)
 False) ∧
 (((vI x2) = (vI x2)) ∧
 (((Go.Value.slice (Option.some (Go.Addr.mk 500 0 Option.none)) (n4) (c5)) = (Go.Value.slice (Option.some (Go.Addr.mk 500 0 Option.none)) (n4) (c5))) ∧
 (((Go.Value.pointer (Option.some (Go.Addr.mk 1000 0 Option.none))) = (Go.Value.pointer (Option.some (Go.Addr.mk 1000 0 Option.none)))) ∧
 True)))))))))))))))) ∧
 (((∃ n6 : Int,
 ((At (l6) (Go.Addr.off (Go.Addr.add { block := 500, off := 0 + Int.toNat x2 * 7 } 3) + 1) 1 [(vI n6)]) ∧
 ((vI n6) = (vI n5)))) ∧
 (((Go.Value.pointer (Option.some (Go.Addr.mk 500 (Go.Addr.off { block := 500, off := Go.Addr.off { block := 500, off := 0 + Int.toNat x2 * 7 } + 3 } + 1) Option.none))) = (Go.Value.pointer (Option.some (Go.Addr.mk 500 (Go.Addr.off (Go.Addr.add { block := 500, off := 0 + Int.toNat x2 * 7 } 3) + 1) Option.none)))) ∧
 (((Go.Value.pointer (Option.some (Go.Addr.mk 500 (Go.Addr.off { block := 500, off := 0 + Int.toNat x2 * 7 } + 3) Option.none))) = (Go.Value.pointer (Option.some (Go.Addr.mk 500 (Go.Addr.off { block := 500, off := 0 + Int.toNat x2 * 7 } + 3) Option.none)))) ∧
 ((bcase (decide (0 ≤ x2))
 (bcase (decide (x2 < (↑n4 : Int)))
 ((Go.Value.pointer (Option.some (Go.Addr.mk 500 (0 + Int.toNat x2 * 7) Option.none))) = (Go.Value.pointer (Option.some (Go.Addr.mk 500 (0 + Int.toNat x2 * 7) Option.none))))
 False)
 False) ∧
 (((vI x2) = (vI x2)) ∧
 (((Go.Value.slice (Option.some (Go.Addr.mk 500 0 Option.none)) (n4) (c5)) = (Go.Value.slice (Option.some (Go.Addr.mk 500 0 Option.none)) (n4) (c5))) ∧
 (((Go.Value.pointer (Option.some (Go.Addr.mk 1000 0 Option.none))) = (Go.Value.pointer (Option.some (Go.Addr.mk 1000 0 Option.none)))) ∧
 ((∃ n6 : Int,
 ((At (l6) (Go.Addr.off { block := 500, off := 0 + Int.toNat x2 * 7 } + 3) 1 [(vI n6)]) ∧
 ((vI n6) = (vI n3)))) ∧
 (((Go.Value.pointer (Option.some (Go.Addr.mk 500 (Go.Addr.off { block := 500, off := 0 + Int.toNat x2 * 7 } + 3) Option.none))) = (Go.Value.pointer (Option.some (Go.Addr.mk 500 (Go.Addr.off { block := 500, off := 0 + Int.toNat x2 * 7 } + 3) Option.none)))) ∧
 (((Go.Value.pointer (Option.some (Go.Addr.mk 500 (Go.Addr.off { block := 500, off := 0 + Int.toNat x2 * 7 } + 3) Option.none))) = (Go.Value.pointer (Option.some (Go.Addr.mk 500 (Go.Addr.off { block := 500, off := 0 + Int.toNat x2 * 7 } + 3) Option.none)))) ∧
 ((bcase (decide (0 ≤ x2))
 (bcase (decide (x2 < (↑n4 : Int)))
 ((Go.Value.pointer (Option.some (Go.Addr.mk 500 (0 + Int.toNat x2 * 7) Option.none))) = (Go.Value.pointer (Option.some (Go.Addr.mk 500 (0 + Int.toNat x2 * 7) Option.none))))
 False)
 False) ∧
 (((vI x2) = (vI x2)) ∧
 (((Go.Value.slice (Option.some (Go.Addr.mk 500 0 Option.none)) (n4) (c5)) = (Go.Value.slice (Option.some (Go.Addr.mk 500 0 Option.none)) (n4) (c5))) ∧
 (((Go.Value.pointer (Option.some (Go.Addr.mk 1000 0 Option.none))) = (Go.Value.pointer (Option.some (Go.Addr.mk 1000 0 Option.none)))) ∧
 True)))))))))))))) ∧
 (((∃ n6 : Int,
 ((At (l6) (Go.Addr.off (Go.Addr.add { block := 500, off := 0 + Int.toNat x2 * 7 } 3) + 1) 1 [(vI n6)]) ∧
 ((vI n6) = (vI n5)))) ∧
 (((Go.Value.pointer (Option.some (Go.Addr.mk 500 (Go.Addr.off { block := 500, off := Go.Addr.off { block := 500, off := 0 + Int.toNat x2 * 7 } + 3 } + 1) Option.none))) = (Go.Value.pointer (Option.some (Go.Addr.mk 500 (Go.Addr.off (Go.Addr.add { block := 500, off := 0 + Int.toNat x2 * 7 } 3) + 1) Option.none)))) ∧
 (((Go.Value.pointer (Option.some (Go.Addr.mk 500 (Go.Addr.off { block := 500, off := 0 + Int.toNat x2 * 7 } + 3) Option.none))) = (Go.Value.pointer (Option.some (Go.Addr.mk 500 (Go.Addr.off { block := 500, off := 0 + Int.toNat x2 * 7 } + 3) Option.none)))) ∧
 ((bcase (decide (0 ≤ x2))
 (bcase (decide (x2 < (↑n4 : Int)))
 ((Go.Value.pointer (Option.some (Go.Addr.mk 500 (0 + Int.toNat x2 * 7) Option.none))) = (Go.Value.pointer (Option.some (Go.Addr.mk 500 (0 + Int.toNat x2 * 7) Option.none))))
 False)
 False) ∧
 (((vI x2) = (vI x2)) ∧
 (((Go.Value.slice (Option.some (Go.Addr.mk 500 0 Option.none)) (n4) (c5)) = (Go.Value.slice (Option.some (Go.Addr.mk 500 0 Option.none)) (n4) (c5))) ∧
 (((Go.Value.pointer (Option.some (Go.Addr.mk 1000 0 Option.none))) = (Go.Value.pointer (Option.some (Go.Addr.mk 1000 0 Option.none)))) ∧
 True))))))) ∧
 (True ∧
 (B [(Prod.mk 1 (Go.Value.slice (Option.some (Go.Addr.mk 501 0 Option.none)) (n0) (c1))), (Prod.mk 2 (Go.Value.pointer (Option.some (Go.Addr.mk 1000 0 Option.none)))), (Prod.mk 5 (Go.Value.slice (Option.some (Go.Addr.mk 1001 0 Option.none)) 1 1)), (Prod.mk 6 (Go.Value.slice (Option.some (Go.Addr.mk 1002 0 Option.none)) 1 1)), (Prod.mk 7 (Go.Value.slice (Option.some (Go.Addr.mk 1003 0 Option.none)) 1 1)), (Prod.mk 8 (Go.Value.slice (Option.some (Go.Addr.mk 1004 0 Option.none)) 1 1)), (Prod.mk 9 (vI (IntKind.wrap .i64 (x2 + 1))))] [(Prod.mk 501 (AObj.sym (l3) false 2)), (Prod.mk 1000 (AObj.cells [(Go.Value.slice (Option.some (Go.Addr.mk 500 0 Option.none)) (n4) (c5))] 24 false 1)), (Prod.mk 1001 (AObj.sym [(vI n1)] true 1)), (Prod.mk 1002 (AObj.sym [(vI n2)] true 1)), (Prod.mk 1003 (AObj.sym [(vI n3)] true 1)), (Prod.mk 1004 (AObj.sym [(vI n5)] true 1)), (Prod.mk 500 (AObj.sym (l6) false 7))]))))))))
 False)
 False)))
 False)
 False))))))))
 False)
 False)))
 False)
 False)
 (X 0 [(Prod.mk 1 (Go.Value.slice (Option.some (Go.Addr.mk 501 0 Option.none)) (n0) (c1))), (Prod.mk 2 (Go.Value.pointer (Option.some (Go.Addr.mk 1000 0 Option.none)))), (Prod.mk 5 (Go.Value.slice Option.none 0 0)), (Prod.mk 6 (Go.Value.slice Option.none 0 0)), (Prod.mk 7 (Go.Value.slice Option.none 0 0)), (Prod.mk 8 (Go.Value.slice Option.none 0 0))] [(Prod.mk 501 (AObj.sym (l3) false 2)), (Prod.mk 1000 (AObj.cells [(Go.Value.slice (Option.some (Go.Addr.mk 500 0 Option.none)) (n4) (c5))] 24 false 1)), (Prod.mk 500 (AObj.sym (l6) false 7))])) := by kernel_rfl
abbrev zIm2 (n0 : Nat) (c1 : Nat) (n2 : Nat) (n3 : Nat) (n4 : Nat) (n5 : Nat) (x6 : Int) (l7 : List Value) (n8 : Nat) (c9 : Nat) (l10 : List Value) (l11 : List Value) (l12 : List Value) (l13 : List Value) (l14 : List Value) : Slots × Blocks := ([(1, (Value.slice (some ⟨501, 0, none⟩) n0 c1)), (2, (Value.pointer (some ⟨1000, 0, none⟩))), (5, (Value.slice (some ⟨1001, 0, none⟩) n2 n2)), (6, (Value.slice (some ⟨1002, 0, none⟩) n3 n3)), (7, (Value.slice (some ⟨1003, 0, none⟩) n4 n4)), (8, (Value.slice (some ⟨1004, 0, none⟩) n5 n5)), (9, (Value.int .i64 x6))], [(501, (AObj.sym l7 false 2)), (1000, (AObj.cells [(Value.slice (some ⟨500, 0, none⟩) n8 c9)] 24 false 1)), (1001, (AObj.sym l10 true 1)), (1002, (AObj.sym l11 true 1)), (1003, (AObj.sym l12 true 1)), (1004, (AObj.sym l13 true 1)), (500, (AObj.sym l14 false 7))])
def rIm2 (C : Ct) (L : AtLoop) (n0 : Nat) (c1 : Nat) (n2 : Nat) (n3 : Nat) (n4 : Nat) (n5 : Nat) (x6 : Int) (l7 : List Value) (n8 : Nat) (c9 : Nat) (l10 : List Value) (l11 : List Value) (l12 : List Value) (l13 : List Value) (l14 : List Value) (B : Bx) (X : Xx) (k : List D → Prop) : Prop := wpRound Try.prog (hK C) L 50 0 [(1, (Value.slice (some ⟨501, 0, none⟩) n0 c1)), (2, (Value.pointer (some ⟨1000, 0, none⟩))), (5, (Value.slice (some ⟨1001, 0, none⟩) n2 n2)), (6, (Value.slice (some ⟨1002, 0, none⟩) n3 n3)), (7, (Value.slice (some ⟨1003, 0, none⟩) n4 n4)), (8, (Value.slice (some ⟨1004, 0, none⟩) n5 n5)), (9, (Value.int .i64 x6))] [(501, (AObj.sym l7 false 2)), (1000, (AObj.cells [(Value.slice (some ⟨500, 0, none⟩) n8 c9)] 24 false 1)), (1001, (AObj.sym l10 true 1)), (1002, (AObj.sym l11 true 1)), (1003, (AObj.sym l12 true 1)), (1004, (AObj.sym l13 true 1)), (500, (AObj.sym l14 false 7))] B X (dataK k)
theorem rIm2_text (C : Ct) (L : AtLoop) (n0 : Nat) (c1 : Nat) (n2 : Nat) (n3 : Nat) (n4 : Nat) (n5 : Nat) (x6 : Int) (l7 : List Go.Value) (n8 : Nat) (c9 : Nat) (l10 : List Go.Value) (l11 : List Go.Value) (l12 : List Go.Value) (l13 : List Go.Value) (l14 : List Go.Value) (B : Bx) (X : Xx) (k : List D → Prop) : rIm2 C L n0 c1 n2 n3 n4 n5 x6 l7 n8 c9 l10 l11 l12 l13 l14 B X k =
 (bcase (decide (x6 < (↑n0 : Int)))
 (bcase (decide (0 ≤ x6))
 (bcase (decide (x6 < (↑n0 : Int)))
 (∃ n1 : Int,
 ((At (l7) (0 + Int.toNat x6 * 2) 1 [(vI n1)]) ∧
 (bcase (decide (0 ≤ x6))
 (bcase (decide (x6 < (↑n0 : Int)))
 (∃ n6 : Int,
 ((At (l7) (Go.Addr.off { block := 501, off := 0 + Int.toNat x6 * 2 } + 1) 1 [(vI n6)]) ∧
 (((((Go.Value.slice (Option.some (Go.Addr.mk 1006 0 Option.none)) 1 1) = (Go.Value.slice (Option.some (Go.Addr.mk 1006 0 Option.none)) 1 1)) ∧
 ((Option.some (AObj.cells [(vI n6)] 3 false 1)) = (Option.some (AObj.cells [(vI n6)] 3 false 1)))) ∧
 ((∃ n7 : Int,
 ((At (l7) (Go.Addr.off { block := 501, off := 0 + Int.toNat x6 * 2 } + 1) 1 [(vI n7)]) ∧
 ((vI n7) = (vI n6)))) ∧
 (((Go.Value.pointer (Option.some (Go.Addr.mk 501 (Go.Addr.off { block := 501, off := 0 + Int.toNat x6 * 2 } + 1) Option.none))) = (Go.Value.pointer (Option.some (Go.Addr.mk 501 (Go.Addr.off { block := 501, off := 0 + Int.toNat x6 * 2 } + 1) Option.none)))) ∧
 ((bcase (decide (0 ≤ x6))
 (bcase (decide (x6 < (↑n0 : Int)))
 ((Go.Value.pointer (Option.some (Go.Addr.mk 501 (0 + Int.toNat x6 * 2) Option.none))) = (Go.Value.pointer (Option.some (Go.Addr.mk 501 (0 + Int.toNat x6 * 2) Option.none))))
 False)
 False) ∧
 (((vI x6) = (vI x6)) ∧
 (((Go.Value.slice (Option.some (Go.Addr.mk 501 0 Option.none)) (n0) (c1)) = (Go.Value.slice (Option.some (Go.Addr.mk 501 0 Option.none)) (n0) (c1))) ∧
 (((Go.Value.slice (Option.some (Go.Addr.mk 1002 0 Option.none)) (n3) (n3)) = (Go.Value.slice (Option.some (Go.Addr.mk 1002 0 Option.none)) (n3) (n3))) ∧
 ((((Go.Value.slice (Option.some (Go.Addr.mk 1005 0 Option.none)) 1 1) = (Go.Value.slice (Option.some (Go.Addr.mk 1005 0 Option.none)) 1 1)) ∧
 ((Option.some (AObj.cells [(vI n1)] 3 false 1)) = (Option.some (AObj.cells [(vI n1)] 3 false 1)))) ∧
 ((∃ n7 : Int,
 ((At (l7) (0 + Int.toNat x6 * 2) 1 [(vI n7)]) ∧
 ((vI n7) = (vI n1)))) ∧
 (((Go.Value.pointer (Option.some (Go.Addr.mk 501 (0 + Int.toNat x6 * 2) Option.none))) = (Go.Value.pointer (Option.some (Go.Addr.mk 501 (0 + Int.toNat x6 * 2) Option.none)))) ∧
 ((bcase (decide (0 ≤ x6))
 (bcase (decide (x6 < (↑n0 : Int)))
 ((Go.Value.pointer (Option.some (Go.Addr.mk 501 (0 + Int.toNat x6 * 2) Option.none))) = (Go.Value.pointer (Option.some (Go.Addr.mk 501 (0 + Int.toNat x6 * 2) Option.none))))
 False)
 False) ∧
 (((vI x6) = (vI x6)) ∧
 (((Go.Value.slice (Option.some (Go.Addr.mk 501 0 Option.none)) (n0) (c1)) = (Go.Value.slice (Option.some (Go.Addr.mk 501 0 Option.none)) (n0) (c1))) ∧
 (((Go.Value.slice (Option.some (Go.Addr.mk 1001 0 Option.none)) (n2) (n2)) = (Go.Value.slice (Option.some (Go.Addr.mk 1001 0 Option.none)) (n2) (n2))) ∧
 True)))))))))))))) ∧
 (bcase (decide (n2 < n2 + 1))
 (bcase (decide ((2 * (n2 + 1) + 768) * 8 ≤ 281474976710656))
 (bcase (decide (n2 + 1 ≤ 1099511627776))
 (bcase (decide (0 + n2 * 1 ≤ List.length l10))
 (bcase (decide (0 + n2 * 1 = List.length l10))
 (((((Go.Value.slice (Option.some (Go.Addr.mk 1006 0 Option.none)) 1 1) = (Go.Value.slice (Option.some (Go.Addr.mk 1006 0 Option.none)) 1 1)) ∧
 ((Option.some (AObj.cells [(vI n6)] 3 false 1)) = (Option.some (AObj.cells [(vI n6)] 3 false 1)))) ∧
 ((∃ n7 : Int,
 ((At (l7) (Go.Addr.off { block := 501, off := 0 + Int.toNat x6 * 2 } + 1) 1 [(vI n7)]) ∧
 ((vI n7) = (vI n6)))) ∧
 (((Go.Value.pointer (Option.some (Go.Addr.mk 501 (Go.Addr.off { block := 501, off := 0 + Int.toNat x6 * 2 } + 1) Option.none))) = (Go.Value.pointer (Option.some (Go.Addr.mk 501 (Go.Addr.off { block := 501, off := 0 + Int.toNat x6 * 2 } + 1) Option.none)))) ∧
 ((bcase (decide (0 ≤ x6))
 (bcase (decide (x6 < (↑n0 : Int)))
 ((Go.Value.pointer (Option.some (Go.Addr.mk 501 (0 + Int.toNat x6 * 2) Option.none))) = (Go.Value.pointer (Option.some (Go.Addr.mk 501 (0 + Int.toNat x6 * 2) Option.none))))
 False)
 False) ∧
 (((vI x6) = (vI x6)) ∧
 (((Go.Value.slice (Option.some (Go.Addr.mk 501 0 Option.none)) (n0) (c1)) = (Go.Value.slice (Option.some (Go.Addr.mk 501 0 Option.none)) (n0) (c1))) ∧
 (((Go.Value.slice (Option.some (Go.Addr.mk 1002 0 Option.none)) (n3) (n3)) = (Go.Value.slice (Option.some (Go.Addr.mk 1002 0 Option.none)) (n3) (n3))) ∧
 ((∃ n7 : Int,
 ((At (l7) (0 + Int.toNat x6 * 2) 1 [(vI n7)]) ∧
 ((vI n7) = (vI n1)))) ∧
 (((Go.Value.pointer (Option.some (Go.Addr.mk 501 (0 + Int.toNat x6 * 2) Option.none))) = (Go.Value.pointer (Option.some (Go.Addr.mk 501 (0 + Int.toNat x6 * 2) Option.none)))) ∧
 ((bcase (decide (0 ≤ x6))
 (bcase (decide (x6 < (↑n0 : Int)))
 ((Go.Value.pointer (Option.some (Go.Addr.mk 501 (0 + Int.toNat x6 * 2) Option.none))) = (Go.Value.pointer (Option.some (Go.Addr.mk 501 (0 + Int.toNat x6 * 2) Option.none))))
 False)
 False) ∧
 (((vI x6) = (vI x6)) ∧
 (((Go.Value.slice (Option.some (Go.Addr.mk 501 0 Option.none)) (n0) (c1)) = (Go.Value.slice (Option.some (Go.Addr.mk 501 0 Option.none)) (n0) (c1))) ∧
 True)))))))))))) ∧
 (bcase (decide (n3 < n3 + 1))
 (bcase (decide ((2 * (n3 + 1) + 768) * 8 ≤ 281474976710656))
 (bcase (decide (n3 + 1 ≤ 1099511627776))
 (bcase (decide (0 + n3 * 1 ≤ List.length l11))
 (bcase (decide (0 + n3 * 1 = List.length l11))
 (((∃ n7 : Int,
 ((At (l7) (Go.Addr.off { block := 501, off := 0 + Int.toNat x6 * 2 } + 1) 1 [(vI n7)]) ∧
 ((vI n7) = (vI n6)))) ∧
 (((Go.Value.pointer (Option.some (Go.Addr.mk 501 (Go.Addr.off { block := 501, off := 0 + Int.toNat x6 * 2 } + 1) Option.none))) = (Go.Value.pointer (Option.some (Go.Addr.mk 501 (Go.Addr.off { block := 501, off := 0 + Int.toNat x6 * 2 } + 1) Option.none)))) ∧
 ((bcase (decide (0 ≤ x6))
 (bcase (decide (x6 < (↑n0 : Int)))
 ((Go.Value.pointer (Option.some (Go.Addr.mk 501 (0 + Int.toNat x6 * 2) Option.none))) = (Go.Value.pointer (Option.some (Go.Addr.mk 501 (0 + Int.toNat x6 * 2) Option.none))))
 False)
 False) ∧
 (((vI x6) = (vI x6)) ∧
 (((Go.Value.slice (Option.some (Go.Addr.mk 501 0 Option.none)) (n0) (c1)) = (Go.Value.slice (Option.some (Go.Addr.mk 501 0 Option.none)) (n0) (c1))) ∧
 ((∃ n7 : Int,
 ((At (l7) (0 + Int.toNat x6 * 2) 1 [(vI n7)]) ∧
 ((vI n7) = (vI n1)))) ∧
 (((Go.Value.pointer (Option.some (Go.Addr.mk 501 (0 + Int.toNat x6 * 2) Option.none))) = (Go.Value.pointer (Option.some (Go.Addr.mk 501 (0 + Int.toNat x6 * 2) Option.none)))) ∧
 ((bcase (decide (0 ≤ x6))
 (bcase (decide (x6 < (↑n0 : Int)))
 ((Go.Value.pointer (Option.some (Go.Addr.mk 501 (0 + Int.toNat x6 * 2) Option.none))) = (Go.Value.pointer (Option.some (Go.Addr.mk 501 (0 + Int.toNat x6 * 2) Option.none))))
 False)
 False) ∧
 (((vI x6) = (vI x6)) ∧
 (((Go.Value.slice (Option.some (Go.Addr.mk 501 0 Option.none)) (n0) (c1)) = (Go.Value.slice (Option.some (Go.Addr.mk 501 0 Option.none)) (n0) (c1))) ∧
 True)))))))))) ∧
 (((∃ n7 : Int,
 ((At (l7) (Go.Addr.off { block := 501, off := 0 + Int.toNat x6 * 2 } + 1) 1 [(vI n7)]) ∧
 ((vI n7) = (vI n6)))) ∧
 (((Go.Value.pointer (Option.some (Go.Addr.mk 501 (Go.Addr.off { block := 501, off := 0 + Int.toNat x6 * 2 } + 1) Option.none))) = (Go.Value.pointer (Option.some (Go.Addr.mk 501 (Go.Addr.off { block := 501, off := 0 + Int.toNat x6 * 2 } + 1) Option.none)))) ∧
 ((bcase (decide (0 ≤ x6))
 (bcase (decide (x6 < (↑n0 : Int)))
 ((Go.Value.pointer (Option.some (Go.Addr.mk 501 (0 + Int.toNat x6 * 2) Option.none))) = (Go.Value.pointer (Option.some (Go.Addr.mk 501 (0 + Int.toNat x6 * 2) Option.none))))
 False)
 False) ∧
 (((vI x6) = (vI x6)) ∧
 (((Go.Value.slice (Option.some (Go.Addr.mk 501 0 Option.none)) (n0) (c1)) = (Go.Value.slice (Option.some (Go.Addr.mk 501 0 Option.none)) (n0) (c1))) ∧
 True))))) ∧
 (True ∧
 (bcase (decide (0 ≤ x6))
 (bcase (decide (x6 < (↑n8 : Int)))
 (∃ n7 : Int,
 ((At (l14) (Go.Addr.off { block := 500, off := 0 + Int.toNat x6 * 7 } + 3) 1 [(vI n7)]) ∧
 (bcase (decide (0 ≤ x6))
 (bcase (decide (x6 < (↑n8 : Int)))
 (∃ n9 : Int,
 ((At (l14) (Go.Addr.off (Go.Addr.add { block := 500, off := 0 + Int.toNat x6 * 7 } 3) + 1) 1 [(vI n9)]) ∧
 (((((Go.Value.slice (Option.some (Go.Addr.mk 1010 0 Option.none)) 1 1) = (Go.Value.slice (Option.some (Go.Addr.mk 1010 0 Option.none)) 1 1)) ∧
 ((Option.some (AObj.cells [(vI n9)] 3 false 1)) = (Option.some (AObj.cells [(vI n9)] 3 false 1)))) ∧
 ((∃ n10 : Int,
 ((At (l14) (Go.Addr.off (Go.Addr.add { block := 500, off := 0 + Int.toNat x6 * 7 } 3) + 1) 1 [(vI n10)]) ∧
 ((vI n10) = (vI n9)))) ∧
 (((Go.Value.pointer (Option.some (Go.Addr.mk 500 (Go.Addr.off { block := 500, off := Go.Addr.off { block := 500, off := 0 + Int.toNat x6 * 7 } + 3 } + 1) Option.none))) = (Go.Value.pointer (Option.some (Go.Addr.mk 500 (Go.Addr.off (Go.Addr.add { block := 500, off := 0 + Int.toNat x6 * 7 } 3) + 1) Option.none)))) ∧
 (((Go.Value.pointer (Option.some (Go.Addr.mk 500 (Go.Addr.off { block := 500, off := 0 + Int.toNat x6 * 7 } + 3) Option.none))) = (Go.Value.pointer (Option.some (Go.Addr.mk 500 (Go.Addr.off { block := 500, off := 0 + Int.toNat x6 * 7 } + 3) Option.none)))) ∧
 ((bcase (decide (0 ≤ x6))
 (bcase (decide (x6 < (↑n8 : Int)))
 ((Go.Value.pointer (Option.some (Go.Addr.mk 500 (0 + Int.toNat x6 * 7) Option.none))) = (Go.Value.pointer (Option.some (Go.Addr.mk 500 (0 + Int.toNat x6 * 7) Option.none))))
 False)
 False) ∧
 (((vI x6) = (vI x6)) ∧
 (((Go.Value.slice (Option.some (Go.Addr.mk 500 0 Option.none)) (n8) (c9)) = (Go.Value.slice (Option.some (Go.Addr.mk 500 0 Option.none)) (n8) (c9))) ∧
 (((Go.Value.pointer (Option.some (Go.Addr.mk 1000 0 Option.none))) = (Go.Value.pointer (Option.some (Go.Addr.mk 1000 0 Option.none)))) ∧
 (((Go.Value.slice (Option.some (Go.Addr.mk 1004 0 Option.none)) (n5) (n5)) = (Go.Value.slice (Option.some (Go.Addr.mk 1004 0 Option.none)) (n5) (n5))) ∧
 ((((Go.Value.slice (Option.some (Go.Addr.mk 1009 0 Option.none)) 1 1) = (Go.Value.slice (Option.some (Go.Addr.mk 1009 0 Option.none)) 1 1)) ∧
 ((Option.some (AObj.cells [(vI n7)] 3 false 1)) = (Option.some (AObj.cells [(vI n7)] 3 false 1)))) ∧
 ((∃ n10 : Int,
 ((At (l14) (Go.Addr.off { block := 500, off := 0 + Int.toNat x6 * 7 } + 3) 1 [(vI n10)]) ∧
 ((vI n10) = (vI n7)))) ∧
 (((Go.Value.pointer (Option.some (Go.Addr.mk 500 (Go.Addr.off { block := 500, off := 0 + Int.toNat x6 * 7 } + 3) Option.none))) = (Go.Value.pointer (Option.some (Go.Addr.mk 500 (Go.Addr.off { block := 500, off := 0 + Int.toNat x6 * 7 } + 3) Option.none)))) ∧
 (((Go.Value.pointer (Option.some (Go.Addr.mk 500 (Go.Addr.off { block := 500, off := 0 + Int.toNat x6 * 7 } + 3) Option.none))) = (Go.Value.pointer (Option.some (Go.Addr.mk 500 (Go.Addr.off { block := 500, off := 0 + Int.toNat x6 * 7 } + 3) Option.none)))) ∧
 ((bcase (decide (0 ≤ x6))
 (bcase (decide (x6 < (↑n8 : Int)))
 ((Go.Value.pointer (Option.some (Go.Addr.mk 500 (0 + Int.toNat x6 * 7) Option.none))) = (Go.Value.pointer (Option.some (Go.Addr.mk 500 (0 + Int.toNat x6 * 7) Option.none))))
 False)
 False) ∧
 (((vI x6) = (vI x6)) ∧
 (((Go.Value.slice (Option.some (Go.Addr.mk 500 0 Option.none)) (n8) (c9)) = (Go.Value.slice (Option.some (Go.Addr.mk 500 0 Option.none)) (n8) (c9))) ∧
 (((Go.Value.pointer (Option.some (Go.Addr.mk 1000 0 Option.none))) = (Go.Value.pointer (Option.some (Go.Addr.mk 1000 0 Option.none)))) ∧
 (((Go.Value.slice (Option.some (Go.Addr.mk 1003 0 Option.none)) (n4) (n4)) = (Go.Value.slice (Option.some (Go.Addr.mk 1003 0 Option.none)) (n4) (n4))) ∧
 True)))))))))))))))))) ∧
 (bcase (decide (n4 < n4 + 1))
 (bcase (decide ((2 * (n4 + 1) + 768) * 8 ≤ 281474976710656))
 (bcase (decide (n4 + 1 ≤ 1099511627776))
 (bcase (decide (0 + n4 * 1 ≤ List.length l12))
 (bcase (decide (0 + n4 * 1 = List.length l12))
 (((((Go.Value.slice (Option.some (Go.Addr.mk 1010 0 Option.none)) 1 1) = (Go.Value.slice (Option.some (Go.Addr.mk 1010 0 Option.none)) 1 1)) ∧
 ((Option.some (AObj.cells [(vI n9)] 3 false 1)) = (Option.some (AObj.cells [(vI n9)] 3 false 1)))) ∧
 ((∃ n10 : Int,
 ((At (l14) (Go.Addr.off (Go.Addr.add { block := 500, off := 0 + Int.toNat x6 * 7 } 3) + 1) 1 [(vI n10)]) ∧
 ((vI n10) = (vI n9)))) ∧
 (((Go.Value.pointer (Option.some (Go.Addr.mk 500 (Go.Addr.off { block := 500, off := Go.Addr.off { block := 500, off := 0 + Int.toNat x6 * 7 } + 3 } + 1) Option.none))) = (Go.Value.pointer (Option.some (Go.Addr.mk 500 (Go.Addr.off (Go.Addr.add { block := 500, off := 0 + Int.toNat x6 * 7 } 3) + 1) Option.none)))) ∧
 (((Go.Value.pointer (Option.some (Go.Addr.mk 500 (Go.Addr.off { block := 500, off := 0 + Int.toNat x6 * 7 } + 3) Option.none))) = (Go.Value.pointer (Option.some (Go.Addr.mk 500 (Go.Addr.off { block := 500, off := 0 + Int.toNat x6 * 7 } + 3) Option.none)))) ∧
 ((bcase (decide (0 ≤ x6))
 (bcase (decide (x6 < (↑n8 : Int)))
 ((Go.Value.pointer (Option.some (Go.Addr.mk 500 (0 + Int.toNat x6 * 7) Option.none))) = (Go.Value.pointer (Option.some (Go.Addr.mk 500 (0 + Int.toNat x6 * 7) Option.none))))
 False)
 False) ∧
 (((vI x6) = (vI x6)) ∧
 (((Go.Value.slice (Option.some (Go.Addr.mk 500 0 Option.none)) (n8) (c9)) = (Go.Value.slice (Option.some (Go.Addr.mk 500 0 Option.none)) (n8) (c9))) ∧
 (((Go.Value.pointer (Option.some (Go.Addr.mk 1000 0 Option.none))) = (Go.Value.pointer (Option.some (Go.Addr.mk 1000 0 Option.none)))) ∧
 (((Go.Value.slice (Option.some (Go.Addr.mk 1004 0 Option.none)) (n5) (n5)) = (Go.Value.slice (Option.some (Go.Addr.mk 1004 0 Option.none)) (n5) (n5))) ∧
 ((∃ n10 : Int,
 ((At (l14) (Go.Addr.off { block := 500, off := 0 + Int.toNat x6 * 7 } + 3) 1 [(vI n10)]) ∧
 ((vI n10) = (vI n7)))) ∧
 (((Go.Value.pointer (Option.some (Go.Addr.mk 500 (Go.Addr.off { block := 500, off := 0 + Int.toNat x6 * 7 } + 3) Option.none))) = (Go.Value.pointer (Option.some (Go.Addr.mk 500 (Go.Addr.off { block := 500, off := 0 + Int.toNat x6 * 7 } + 3) Option.none)))) ∧
 (((Go.Value.pointer (Option.some (Go.Addr.mk 500 (Go.Addr.off { block := 500, off := 0 + Int.toNat x6 * 7 } + 3) Option.none))) = (Go.Value.pointer (Option.some (Go.Addr.mk 500 (Go.Addr.off { block := 500, off := 0 + Int.toNat x6 * 7 } + 3) Option.none)))) ∧
 ((bcase (decide (0 ≤ x6))
 (bcase (decide (x6 < (↑n8 : Int)))
 ((Go.Value.pointer (Option.some (Go.Addr.mk 500 (0 + Int.toNat x6 * 7) Option.none))) = (Go.Value.pointer (Option.some (Go.Addr.mk 500 (0 + Int.toNat x6 * 7) Option.none))))
 False)
 False) ∧
 (((vI x6) = (vI x6)) ∧
 (((Go.Value.slice (Option.some (Go.Addr.mk 500 0 Option.none)) (n8) (c9)) = (Go.Value.slice (Option.some (Go.Addr.mk 500 0 Option.none)) (n8) (c9))) ∧
 (((Go.Value.pointer (Option.some (Go.Addr.mk 1000 0 Option.none))) = (Go.Value.pointer (Option.some (Go.Addr.mk 1000 0 Option.none)))) ∧
 True)))))))))))))))) ∧
 (bcase (decide (n5 < n5 + 1))
 (bcase (decide ((2 * (n5 + 1) + 768) * 8 ≤ 281474976710656))
 (bcase (decide (n5 + 1 ≤ 1099511627776))
 (bcase (decide (0 + n5 * 1 ≤ List.length l13))
 (bcase (decide (0 + n5 * 1 = List.length l13))
 (((∃ n10 : Int,
 ((At (l14) (Go.Addr.off (Go.Addr.add { block := 500, off := 0 + Int.toNat x6 * 7 } 3) + 1) 1 [(vI n10)]) ∧
 ((vI n10) = (vI n9)))) ∧
 (((Go.Value.pointer (Option.some (Go.Addr.mk 500 (Go.Addr.off { block := 500, off := Go.Addr.off { block := 500, off := 0 + Int.toNat x6 * 7 } + 3 } + 1) Option.none))) = (Go.Value.pointer (Option.some (Go.Addr.mk 500 (Go.Addr.off (Go.Addr.add { block := 500, off := 0 + Int.toNat x6 * 7 } 3) + 1) Option.none)))) ∧
 (((Go.Value.pointer (Option.some (Go.Addr.mk 500 (Go.Addr.off { block := 500, off := 0 + Int.toNat x6 * 7 } + 3) Option.none))) = (Go.Value.pointer (Option.some (Go.Addr.mk 500 (Go.Addr.off { block := 500, off := 0 + Int.toNat x6 * 7 } + 3) Option.none)))) ∧
 ((bcase (decide (0 ≤ x6))
 (bcase (decide (x6 < (↑n8 : Int)))
 ((Go.Value.pointer (Option.some (Go.Addr.mk 500 (0 + Int.toNat x6 * 7) Option.none))) = (Go.Value.pointer (Option.some (Go.Addr.mk 500 (0 + Int.toNat x6 * 7) Option.none))))
 False)
 False) ∧
 (((vI x6) = (vI x6)) ∧
 (((Go.Value.slice (Option.some (Go.Addr.mk 500 0 Option.none)) (n8) (c9)) = (Go.Value.slice (Option.some (Go.Addr.mk 500 0 Option.none)) (n8) (c9))) ∧
 (((Go.Value.pointer (Option.some (Go.Addr.mk 1000 0 Option.none))) = (Go.Value.pointer (Option.some (Go.Addr.mk 1000 0 Option.none)))) ∧
 ((∃ n10 : Int,
 ((At (l14) (Go.Addr.off { block := 500, off := 0 + Int.toNat x6 * 7 } + 3) 1 [(vI n10)]) ∧
 ((vI n10) = (vI n7)))) ∧
 (((Go.Value.pointer (Option.some (Go.Addr.mk 500 (Go.Addr.off { block := 500, off := 0 + Int.toNat x6 * 7 } + 3) Option.none))) = (Go.Value.pointer (Option.some (Go.Addr.mk 500 (Go.Addr.off { block := 500, off := 0 + Int.toNat x6 * 7 } + 3) Option.none)))) ∧
 (((Go.Value.pointer (Option.some (Go.Addr.mk 500 (Go.Addr.off { block := 500, off := 0 + Int.toNat x6 * 7 } + 3) Option.none))) = (Go.Value.pointer (Option.some (Go.Addr.mk 500 (Go.Addr.off { block := 500, off := 0 + Int.toNat x6 * 7 } + 3) Option.none)))) ∧
 ((bcase (decide (0 ≤ x6))
 (bcase (decide (x6 < (↑n8 : Int)))
 ((Go.Value.pointer (Option.some (Go.Addr.mk 500 (0 + Int.toNat x6 * 7) Option.none))) = (Go.Value.pointer (Option.some (Go.Addr.mk 500 (0 + Int.toNat x6 * 7) Option.none))))
 False)
 False) ∧
 (((vI x6) = (vI x6)) ∧
 (((Go.Value.slice (Option.some (Go.Addr.mk 500 0 Option.none)) (n8) (c9)) = (Go.Value.slice (Option.some (Go.Addr.mk 500 0 Option.none)) (n8) (c9))) ∧
 (((Go.Value.pointer (Option.some (Go.Addr.mk 1000 0 Option.none))) = (Go.Value.pointer (Option.some (Go.Addr.mk 1000 0 Option.none)))) ∧
 True)))))))))))))) ∧
 (((∃ n10 : Int,
 ((At (l14) (Go.Addr.off (Go.Addr.add { block := 500, off := 0 + Int.toNat x6 * 7 } 3) + 1) 1 [(vI n10)]) ∧
 ((vI n10) = (vI n9)))) ∧
 (((Go.Value.pointer (Option.some (Go.Addr.mk 500 (Go.Addr.off { block := 500, off := Go.Addr.off { block := 500, off := 0 + Int.toNat x6 * 7 } + 3 } + 1) Option.none))) = (Go.Value.pointer (Option.some (Go.Addr.mk 500 (Go.Addr.off (Go.Addr.add { block := 500, off := 0 + Int.toNat x6 * 7 } 3) + 1) Option.none)))) ∧
 (((Go.Value.pointer (Option.some (Go.Addr.mk 500 (Go.Addr.off { block := 500, off := 0 + Int.toNat x6 * 7 } + 3) Option.none))) = (Go.Value.pointer (Option.some (Go.Addr.mk 500 (Go.Addr.off { block := 500, off := 0 + Int.toNat x6 * 7 } + 3) Option.none)))) ∧
 ((bcase (decide (0 ≤ x6))
 (bcase (decide (x6 < (↑n8 : Int)))
 ((Go.Value.pointer (Option.some (Go.Addr.mk 500 (0 + Int.toNat x6 * 7) Option.none))) = (Go.Value.pointer (Option.some (Go.Addr.mk 500 (0 + Int.toNat x6 * 7) Option.none))))
 False)
 False) ∧
 (((vI x6) = (vI x6)) ∧
 (((Go.Value.slice (Option.some (Go.Addr.mk 500 0 Option.none)) (n8) (c9)) = (Go.Value.slice (Option.some (Go.Addr.mk 500 0 Option.none)) (n8) (c9))) ∧
 (((Go.Value.pointer (Option.some (Go.Addr.mk 1000 0 Option.none))) = (Go.Value.pointer (Option.some (Go.Addr.mk 1000 0 Option.none)))) ∧
 True))))))) ∧
 (True ∧
 (B [(Prod.mk 1 (Go.Value.slice (Option.some (Go.Addr.mk 501 0 Option.none)) (n0) (c1))), (Prod.mk 2 (Go.Value.pointer (Option.some (Go.Addr.mk 1000 0 Option.none)))), (Prod.mk 5 (Go.Value.slice (Option.some (Go.Addr.mk 1001 0 Option.none)) (n2 + 1) (n2 + 1))), (Prod.mk 6 (Go.Value.slice (Option.some (Go.Addr.mk 1002 0 Option.none)) (n3 + 1) (n3 + 1))), (Prod.mk 7 (Go.Value.slice (Option.some (Go.Addr.mk 1003 0 Option.none)) (n4 + 1) (n4 + 1))), (Prod.mk 8 (Go.Value.slice (Option.some (Go.Addr.mk 1004 0 Option.none)) (n5 + 1) (n5 + 1))), (Prod.mk 9 (vI (IntKind.wrap .i64 (x6 + 1))))] [(Prod.mk 501 (AObj.sym (l7) false 2)), (Prod.mk 1000 (AObj.cells [(Go.Value.slice (Option.some (Go.Addr.mk 500 0 Option.none)) (n8) (c9))] 24 false 1)), (Prod.mk 1001 (AObj.sym ((List.take (n2 * 1) (List.drop 0 l10)) ++ [(vI n1)]) true 1)), (Prod.mk 1002 (AObj.sym ((List.take (n3 * 1) (List.drop 0 l11)) ++ [(vI n6)]) true 1)), (Prod.mk 1003 (AObj.sym ((List.take (n4 * 1) (List.drop 0 l12)) ++ [(vI n7)]) true 1)), (Prod.mk 1004 (AObj.sym ((List.take (n5 * 1) (List.drop 0 l13)) ++ [(vI n9)]) true 1)), (Prod.mk 500 (AObj.sym (l14) false 7))]))))
 False)
 False)
 False)
 False)
 False))
 False)
 False)
 False)
 False)
 False))))
 False)
 False)))
 False)
 False))))
 False)
 False)
 False)
 False)
 False))
 False)
 False)
 False)
 False)
 False))))
 False)
 False)))
 False)
 False)
 (X 0 [(Prod.mk 1 (Go.Value.slice (Option.some (Go.Addr.mk 501 0 Option.none)) (n0) (c1))), (Prod.mk 2 (Go.Value.pointer (Option.some (Go.Addr.mk 1000 0 Option.none)))), (Prod.mk 5 (Go.Value.slice (Option.some (Go.Addr.mk 1001 0 Option.none)) (n2) (n2))), (Prod.mk 6 (Go.Value.slice (Option.some (Go.Addr.mk 1002 0 Option.none)) (n3) (n3))), (Prod.mk 7 (Go.Value.slice (Option.some (Go.Addr.mk 1003 0 Option.none)) (n4) (n4))), (Prod.mk 8 (Go.Value.slice (Option.some (Go.Addr.mk 1004 0 Option.none)) (n5) (n5)))] [(Prod.mk 501 (AObj.sym (l7) false 2)), (Prod.mk 1000 (AObj.cells [(Go.Value.slice (Option.some (Go.Addr.mk 500 0 Option.none)) (n8) (c9))] 24 false 1)), (Prod.mk 1001 (AObj.sym (l10) true 1)), (Prod.mk 1002 (AObj.sym (l11) true 1)), (Prod.mk 1003 (AObj.sym (l12) true 1)), (Prod.mk 1004 (AObj.sym (l13) true 1)), (Prod.mk 500 (AObj.sym (l14) false 7))])) := by kernel_rfl
def nIm4 (C : Ct) (L : AtLoop) (n0 : Nat) (c1 : Nat) (n2 : Nat) (n3 : Nat) (n4 : Nat) (n5 : Nat) (l6 : List Value) (n7 : Nat) (c8 : Nat) (l9 : List Value) (l10 : List Value) (l11 : List Value) (l12 : List Value) (l13 : List Value) (k : List D → Prop) : Prop := wpNext Try.prog (hK C) L 50 0 .normal [(1, (Value.slice (some ⟨501, 0, none⟩) n0 c1)), (2, (Value.pointer (some ⟨1000, 0, none⟩))), (5, (Value.slice (some ⟨1001, 0, none⟩) n2 n2)), (6, (Value.slice (some ⟨1002, 0, none⟩) n3 n3)), (7, (Value.slice (some ⟨1003, 0, none⟩) n4 n4)), (8, (Value.slice (some ⟨1004, 0, none⟩) n5 n5))] [(501, (AObj.sym l6 false 2)), (1000, (AObj.cells [(Value.slice (some ⟨500, 0, none⟩) n7 c8)] 24 false 1)), (1001, (AObj.sym l9 true 1)), (1002, (AObj.sym l10 true 1)), (1003, (AObj.sym l11 true 1)), (1004, (AObj.sym l12 true 1)), (500, (AObj.sym l13 false 7))] (dataK k)
theorem nIm4_text (C : Ct) (L : AtLoop) (n0 : Nat) (c1 : Nat) (n2 : Nat) (n3 : Nat) (n4 : Nat) (n5 : Nat) (l6 : List Go.Value) (n7 : Nat) (c8 : Nat) (l9 : List Go.Value) (l10 : List Go.Value) (l11 : List Go.Value) (l12 : List Go.Value) (l13 : List Go.Value) (k : List D → Prop) : nIm4 C L n0 c1 n2 n3 n4 n5 l6 n7 c8 l9 l10 l11 l12 l13 k =
 ((((Go.Value.slice (Option.some (Go.Addr.mk 1004 0 Option.none)) (n5) (n5)) = (Go.Value.slice (Option.some (Go.Addr.mk 1004 0 Option.none)) (n5) (n5))) ∧
 (((Go.Value.slice (Option.some (Go.Addr.mk 1002 0 Option.none)) (n3) (n3)) = (Go.Value.slice (Option.some (Go.Addr.mk 1002 0 Option.none)) (n3) (n3))) ∧
 (((Go.Value.agg [(Go.Value.slice (Option.some (Go.Addr.mk 500 0 Option.none)) (n7) (c8))].toArray) = (Go.Value.agg [(Go.Value.slice (Option.some (Go.Addr.mk 500 0 Option.none)) (n7) (c8))].toArray)) ∧
 (((Go.Value.slice (Option.some (Go.Addr.mk 1003 0 Option.none)) (n4) (n4)) = (Go.Value.slice (Option.some (Go.Addr.mk 1003 0 Option.none)) (n4) (n4))) ∧
 (((Go.Value.slice (Option.some (Go.Addr.mk 1001 0 Option.none)) (n2) (n2)) = (Go.Value.slice (Option.some (Go.Addr.mk 1001 0 Option.none)) (n2) (n2))) ∧
 (((Go.Value.agg [(Go.Value.slice (Option.some (Go.Addr.mk 500 0 Option.none)) (n7) (c8))].toArray) = (Go.Value.agg [(Go.Value.slice (Option.some (Go.Addr.mk 500 0 Option.none)) (n7) (c8))].toArray)) ∧
 True)))))) ∧
 (bcase (decide (0 + n7 * 7 ≤ List.length l13))
 (bcase (decide (0 + n2 * 1 ≤ List.length l9))
 (bcase (decide (0 + n4 * 1 ≤ List.length l11))
 (((Says C 16 [(D.agg [(D.sl (n7) 7 (List.take (n7 * 7) (List.drop 0 l13)))]), (D.sl (n2) 1 (List.take (n2 * 1) (List.drop 0 l9))), (D.sl (n4) 1 (List.take (n4 * 1) (List.drop 0 l11)))] [D.nil]) ∧
 ((((Go.Value.slice (Option.some (Go.Addr.mk 1004 0 Option.none)) (n5) (n5)) = (Go.Value.slice (Option.some (Go.Addr.mk 1004 0 Option.none)) (n5) (n5))) ∧
 (((Go.Value.slice (Option.some (Go.Addr.mk 1002 0 Option.none)) (n3) (n3)) = (Go.Value.slice (Option.some (Go.Addr.mk 1002 0 Option.none)) (n3) (n3))) ∧
 (((Go.Value.agg [(Go.Value.slice (Option.some (Go.Addr.mk 500 0 Option.none)) (n7) (c8))].toArray) = (Go.Value.agg [(Go.Value.slice (Option.some (Go.Addr.mk 500 0 Option.none)) (n7) (c8))].toArray)) ∧
 True))) ∧
 (bcase (decide (0 + n7 * 7 ≤ List.length l13))
 (bcase (decide (0 + n3 * 1 ≤ List.length l10))
 (bcase (decide (0 + n5 * 1 ≤ List.length l12))
 (((Says C 16 [(D.agg [(D.sl (n7) 7 (List.take (n7 * 7) (List.drop 0 l13)))]), (D.sl (n3) 1 (List.take (n3 * 1) (List.drop 0 l10))), (D.sl (n5) 1 (List.take (n5 * 1) (List.drop 0 l12)))] [D.nil]) ∧
 (True ∧
 (True ∧
 (True ∧
 (L 2 [(Prod.mk 1 (Go.Value.slice (Option.some (Go.Addr.mk 501 0 Option.none)) (n0) (c1))), (Prod.mk 10 (Go.Value.slice Option.none 0 0)), (Prod.mk 11 (Go.Value.slice Option.none 0 0)), (Prod.mk 12 (Go.Value.slice Option.none 0 0)), (Prod.mk 13 (vI (0 : Int)))] [(Prod.mk 501 (AObj.sym (l6) false 2))]))))) ∨
 (∃ n1 : Nat,
 (∃ cs1 : List Go.Value,
 ((Says C 16 [(D.agg [(D.sl (n7) 7 (List.take (n7 * 7) (List.drop 0 l13)))]), (D.sl (n3) 1 (List.take (n3 * 1) (List.drop 0 l10))), (D.sl (n5) 1 (List.take (n5 * 1) (List.drop 0 l12)))] [(D.sl (n1) 1 (cs1))]) ∧
 (True ∧
 (True ∧
 (True ∧
 (L 2 [(Prod.mk 1 (Go.Value.slice (Option.some (Go.Addr.mk 501 0 Option.none)) (n0) (c1))), (Prod.mk 10 (Go.Value.slice Option.none 0 0)), (Prod.mk 11 (Go.Value.slice (Option.some (Go.Addr.mk 1000 0 Option.none)) (n1) (n1))), (Prod.mk 12 (Go.Value.slice Option.none 0 0)), (Prod.mk 13 (vI (0 : Int)))] [(Prod.mk 501 (AObj.sym (l6) false 2)), (Prod.mk 1000 (AObj.sym (cs1) true 1))]))))))))
 False)
 False)
 False))) ∨
 (∃ n1 : Nat,
 (∃ cs1 : List Go.Value,
 ((Says C 16 [(D.agg [(D.sl (n7) 7 (List.take (n7 * 7) (List.drop 0 l13)))]), (D.sl (n2) 1 (List.take (n2 * 1) (List.drop 0 l9))), (D.sl (n4) 1 (List.take (n4 * 1) (List.drop 0 l11)))] [(D.sl (n1) 1 (cs1))]) ∧
 ((((Go.Value.slice (Option.some (Go.Addr.mk 1004 0 Option.none)) (n5) (n5)) = (Go.Value.slice (Option.some (Go.Addr.mk 1004 0 Option.none)) (n5) (n5))) ∧
 (((Go.Value.slice (Option.some (Go.Addr.mk 1002 0 Option.none)) (n3) (n3)) = (Go.Value.slice (Option.some (Go.Addr.mk 1002 0 Option.none)) (n3) (n3))) ∧
 (((Go.Value.agg [(Go.Value.slice (Option.some (Go.Addr.mk 500 0 Option.none)) (n7) (c8))].toArray) = (Go.Value.agg [(Go.Value.slice (Option.some (Go.Addr.mk 500 0 Option.none)) (n7) (c8))].toArray)) ∧
 True))) ∧
 (bcase (decide (0 + n7 * 7 ≤ List.length l13))
 (bcase (decide (0 + n3 * 1 ≤ List.length l10))
 (bcase (decide (0 + n5 * 1 ≤ List.length l12))
 (((Says C 16 [(D.agg [(D.sl (n7) 7 (List.take (n7 * 7) (List.drop 0 l13)))]), (D.sl (n3) 1 (List.take (n3 * 1) (List.drop 0 l10))), (D.sl (n5) 1 (List.take (n5 * 1) (List.drop 0 l12)))] [D.nil]) ∧
 (True ∧
 (True ∧
 (True ∧
 (L 2 [(Prod.mk 1 (Go.Value.slice (Option.some (Go.Addr.mk 501 0 Option.none)) (n0) (c1))), (Prod.mk 10 (Go.Value.slice (Option.some (Go.Addr.mk 1000 0 Option.none)) (n1) (n1))), (Prod.mk 11 (Go.Value.slice Option.none 0 0)), (Prod.mk 12 (Go.Value.slice Option.none 0 0)), (Prod.mk 13 (vI (0 : Int)))] [(Prod.mk 501 (AObj.sym (l6) false 2)), (Prod.mk 1000 (AObj.sym (cs1) true 1))]))))) ∨
 (∃ n6 : Nat,
 (∃ cs2 : List Go.Value,
 ((Says C 16 [(D.agg [(D.sl (n7) 7 (List.take (n7 * 7) (List.drop 0 l13)))]), (D.sl (n3) 1 (List.take (n3 * 1) (List.drop 0 l10))), (D.sl (n5) 1 (List.take (n5 * 1) (List.drop 0 l12)))] [(D.sl (n6) 1 (cs2))]) ∧
 (True ∧
 (True ∧
 (True ∧
 (L 2 [(Prod.mk 1 (Go.Value.slice (Option.some (Go.Addr.mk 501 0 Option.none)) (n0) (c1))), (Prod.mk 10 (Go.Value.slice (Option.some (Go.Addr.mk 1000 0 Option.none)) (n1) (n1))), (Prod.mk 11 (Go.Value.slice (Option.some (Go.Addr.mk 1001 0 Option.none)) (n6) (n6))), (Prod.mk 12 (Go.Value.slice Option.none 0 0)), (Prod.mk 13 (vI (0 : Int)))] [(Prod.mk 501 (AObj.sym (l6) false 2)), (Prod.mk 1000 (AObj.sym (cs1) true 1)), (Prod.mk 1001 (AObj.sym (cs2) true 1))]))))))))
 False)
 False)
 False))))))
 False)
 False)
 False)) := by kernel_rfl
abbrev zIm8 (n0 : Nat) (c1 : Nat) (n2 : Nat) (n3 : Nat) (x4 : Int) (l5 : List Value) (l6 : List Value) (l7 : List Value) : Slots × Blocks := ([(1, (Value.slice (some ⟨501, 0, none⟩) n0 c1)), (10, (Value.slice (some ⟨1000, 0, none⟩) n2 n2)), (11, (Value.slice (some ⟨1001, 0, none⟩) n3 n3)), (12, (Value.slice none 0 0)), (13, (Value.int .i64 x4))], [(501, (AObj.sym l5 false 2)), (1000, (AObj.sym l6 true 1)), (1001, (AObj.sym l7 true 1))])
def rIm8 (C : Ct) (L : AtLoop) (n0 : Nat) (c1 : Nat) (n2 : Nat) (n3 : Nat) (x4 : Int) (l5 : List Value) (l6 : List Value) (l7 : List Value) (B : Bx) (X : Xx) (k : List D → Prop) : Prop := wpRound Try.prog (hK C) L 50 2 [(1, (Value.slice (some ⟨501, 0, none⟩) n0 c1)), (10, (Value.slice (some ⟨1000, 0, none⟩) n2 n2)), (11, (Value.slice (some ⟨1001, 0, none⟩) n3 n3)), (12, (Value.slice none 0 0)), (13, (Value.int .i64 x4))] [(501, (AObj.sym l5 false 2)), (1000, (AObj.sym l6 true 1)), (1001, (AObj.sym l7 true 1))] B X (dataK k)
theorem rIm8_text (C : Ct) (L : AtLoop) (n0 : Nat) (c1 : Nat) (n2 : Nat) (n3 : Nat) (x4 : Int) (l5 : List Go.Value) (l6 : List Go.Value) (l7 : List Go.Value) (B : Bx) (X : Xx) (k : List D → Prop) : rIm8 C L n0 c1 n2 n3 x4 l5 l6 l7 B X k =
 (bcase (decide (x4 < (↑n0 : Int)))
 (bcase (decide (0 ≤ x4))
 (bcase (decide (x4 < (↑n2 : Int)))
 (∃ n1 : Int,
 ((At (l6) (0 + Int.toNat x4 * 1) 1 [(vI n1)]) ∧
 (bcase (decide (0 ≤ x4))
 (bcase (decide (x4 < (↑n3 : Int)))
 (∃ n4 : Int,
 ((At (l7) (0 + Int.toNat x4 * 1) 1 [(vI n4)]) ∧
 (((((Go.Value.slice (Option.some (Go.Addr.mk 1002 0 Option.none)) 1 1) = (Go.Value.slice (Option.some (Go.Addr.mk 1002 0 Option.none)) 1 1)) ∧
 ((Option.some (AObj.cells [(vI n1), (vI n4)] 56 false 2)) = (Option.some (AObj.cells [(vI n1), (vI n4)] 56 false 2)))) ∧
 (((Go.Value.agg [(vI n1), (vI n4)].toArray) = (Go.Value.agg [(vI n1), (vI n4)].toArray)) ∧
 ((∃ n5 : Int,
 ((At (l7) (0 + Int.toNat x4 * 1) 1 [(vI n5)]) ∧
 ((vI n5) = (vI n4)))) ∧
 ((bcase (decide (0 ≤ x4))
 (bcase (decide (x4 < (↑n3 : Int)))
 ((Go.Value.pointer (Option.some (Go.Addr.mk 1001 (0 + Int.toNat x4 * 1) Option.none))) = (Go.Value.pointer (Option.some (Go.Addr.mk 1001 (0 + Int.toNat x4 * 1) Option.none))))
 False)
 False) ∧
 (((vI x4) = (vI x4)) ∧
 (((Go.Value.slice (Option.some (Go.Addr.mk 1001 0 Option.none)) (n3) (n3)) = (Go.Value.slice (Option.some (Go.Addr.mk 1001 0 Option.none)) (n3) (n3))) ∧
 ((∃ n5 : Int,
 ((At (l6) (0 + Int.toNat x4 * 1) 1 [(vI n5)]) ∧
 ((vI n5) = (vI n1)))) ∧
 ((bcase (decide (0 ≤ x4))
 (bcase (decide (x4 < (↑n2 : Int)))
 ((Go.Value.pointer (Option.some (Go.Addr.mk 1000 (0 + Int.toNat x4 * 1) Option.none))) = (Go.Value.pointer (Option.some (Go.Addr.mk 1000 (0 + Int.toNat x4 * 1) Option.none))))
 False)
 False) ∧
 (((vI x4) = (vI x4)) ∧
 (((Go.Value.slice (Option.some (Go.Addr.mk 1000 0 Option.none)) (n2) (n2)) = (Go.Value.slice (Option.some (Go.Addr.mk 1000 0 Option.none)) (n2) (n2))) ∧
 (((Go.Value.slice Option.none 0 0) = (Go.Value.slice Option.none 0 0)) ∧
 True))))))))))) ∧
 ((((Go.Value.agg [(vI n1), (vI n4)].toArray) = (Go.Value.agg [(vI n1), (vI n4)].toArray)) ∧
 ((∃ n5 : Int,
 ((At (l7) (0 + Int.toNat x4 * 1) 1 [(vI n5)]) ∧
 ((vI n5) = (vI n4)))) ∧
 ((bcase (decide (0 ≤ x4))
 (bcase (decide (x4 < (↑n3 : Int)))
 ((Go.Value.pointer (Option.some (Go.Addr.mk 1001 (0 + Int.toNat x4 * 1) Option.none))) = (Go.Value.pointer (Option.some (Go.Addr.mk 1001 (0 + Int.toNat x4 * 1) Option.none))))
 False)
 False) ∧
 (((vI x4) = (vI x4)) ∧
 (((Go.Value.slice (Option.some (Go.Addr.mk 1001 0 Option.none)) (n3) (n3)) = (Go.Value.slice (Option.some (Go.Addr.mk 1001 0 Option.none)) (n3) (n3))) ∧
 ((∃ n5 : Int,
 ((At (l6) (0 + Int.toNat x4 * 1) 1 [(vI n5)]) ∧
 ((vI n5) = (vI n1)))) ∧
 ((bcase (decide (0 ≤ x4))
 (bcase (decide (x4 < (↑n2 : Int)))
 ((Go.Value.pointer (Option.some (Go.Addr.mk 1000 (0 + Int.toNat x4 * 1) Option.none))) = (Go.Value.pointer (Option.some (Go.Addr.mk 1000 (0 + Int.toNat x4 * 1) Option.none))))
 False)
 False) ∧
 (((vI x4) = (vI x4)) ∧
 (((Go.Value.slice (Option.some (Go.Addr.mk 1000 0 Option.none)) (n2) (n2)) = (Go.Value.slice (Option.some (Go.Addr.mk 1000 0 Option.none)) (n2) (n2))) ∧
 True))))))))) ∧
 (True ∧
 (B [(Prod.mk 1 (Go.Value.slice (Option.some (Go.Addr.mk 501 0 Option.none)) (n0) (c1))), (Prod.mk 10 (Go.Value.slice (Option.some (Go.Addr.mk 1000 0 Option.none)) (n2) (n2))), (Prod.mk 11 (Go.Value.slice (Option.some (Go.Addr.mk 1001 0 Option.none)) (n3) (n3))), (Prod.mk 12 (Go.Value.slice (Option.some (Go.Addr.mk 1002 0 Option.none)) 1 1)), (Prod.mk 13 (vI (IntKind.wrap .i64 (x4 + 1))))] [(Prod.mk 501 (AObj.sym (l5) false 2)), (Prod.mk 1000 (AObj.sym (l6) true 1)), (Prod.mk 1001 (AObj.sym (l7) true 1)), (Prod.mk 1002 (AObj.sym [(vI n1), (vI n4)] true 2))]))))))
 False)
 False)))
 False)
 False)
 (X 2 [(Prod.mk 12 (Go.Value.slice Option.none 0 0))] [])) := by kernel_rfl
abbrev zIm10 (n0 : Nat) (c1 : Nat) (n2 : Nat) (n3 : Nat) (n4 : Nat) (x5 : Int) (l6 : List Value) (l7 : List Value) (l8 : List Value) (l9 : List Value) : Slots × Blocks := ([(1, (Value.slice (some ⟨501, 0, none⟩) n0 c1)), (10, (Value.slice (some ⟨1000, 0, none⟩) n2 n2)), (11, (Value.slice (some ⟨1001, 0, none⟩) n3 n3)), (12, (Value.slice (some ⟨1002, 0, none⟩) n4 n4)), (13, (Value.int .i64 x5))], [(501, (AObj.sym l6 false 2)), (1000, (AObj.sym l7 true 1)), (1001, (AObj.sym l8 true 1)), (1002, (AObj.sym l9 true 2))])
def rIm10 (C : Ct) (L : AtLoop) (n0 : Nat) (c1 : Nat) (n2 : Nat) (n3 : Nat) (n4 : Nat) (x5 : Int) (l6 : List Value) (l7 : List Value) (l8 : List Value) (l9 : List Value) (B : Bx) (X : Xx) (k : List D → Prop) : Prop := wpRound Try.prog (hK C) L 50 2 [(1, (Value.slice (some ⟨501, 0, none⟩) n0 c1)), (10, (Value.slice (some ⟨1000, 0, none⟩) n2 n2)), (11, (Value.slice (some ⟨1001, 0, none⟩) n3 n3)), (12, (Value.slice (some ⟨1002, 0, none⟩) n4 n4)), (13, (Value.int .i64 x5))] [(501, (AObj.sym l6 false 2)), (1000, (AObj.sym l7 true 1)), (1001, (AObj.sym l8 true 1)), (1002, (AObj.sym l9 true 2))] B X (dataK k)
theorem rIm10_text (C : Ct) (L : AtLoop) (n0 : Nat) (c1 : Nat) (n2 : Nat) (n3 : Nat) (n4 : Nat) (x5 : Int) (l6 : List Go.Value) (l7 : List Go.Value) (l8 : List Go.Value) (l9 : List Go.Value) (B : Bx) (X : Xx) (k : List D → Prop) : rIm10 C L n0 c1 n2 n3 n4 x5 l6 l7 l8 l9 B X k =
 (bcase (decide (x5 < (↑n0 : Int)))
 (bcase (decide (0 ≤ x5))
 (bcase (decide (x5 < (↑n2 : Int)))
 (∃ n1 : Int,
 ((At (l7) (0 + Int.toNat x5 * 1) 1 [(vI n1)]) ∧
 (bcase (decide (0 ≤ x5))
 (bcase (decide (x5 < (↑n3 : Int)))
 (∃ n5 : Int,
 ((At (l8) (0 + Int.toNat x5 * 1) 1 [(vI n5)]) ∧
 (((((Go.Value.slice (Option.some (Go.Addr.mk 1003 0 Option.none)) 1 1) = (Go.Value.slice (Option.some (Go.Addr.mk 1003 0 Option.none)) 1 1)) ∧
 ((Option.some (AObj.cells [(vI n1), (vI n5)] 56 false 2)) = (Option.some (AObj.cells [(vI n1), (vI n5)] 56 false 2)))) ∧
 (((Go.Value.agg [(vI n1), (vI n5)].toArray) = (Go.Value.agg [(vI n1), (vI n5)].toArray)) ∧
 ((∃ n6 : Int,
 ((At (l8) (0 + Int.toNat x5 * 1) 1 [(vI n6)]) ∧
 ((vI n6) = (vI n5)))) ∧
 ((bcase (decide (0 ≤ x5))
 (bcase (decide (x5 < (↑n3 : Int)))
 ((Go.Value.pointer (Option.some (Go.Addr.mk 1001 (0 + Int.toNat x5 * 1) Option.none))) = (Go.Value.pointer (Option.some (Go.Addr.mk 1001 (0 + Int.toNat x5 * 1) Option.none))))
 False)
 False) ∧
 (((vI x5) = (vI x5)) ∧
 (((Go.Value.slice (Option.some (Go.Addr.mk 1001 0 Option.none)) (n3) (n3)) = (Go.Value.slice (Option.some (Go.Addr.mk 1001 0 Option.none)) (n3) (n3))) ∧
 ((∃ n6 : Int,
 ((At (l7) (0 + Int.toNat x5 * 1) 1 [(vI n6)]) ∧
 ((vI n6) = (vI n1)))) ∧
 ((bcase (decide (0 ≤ x5))
 (bcase (decide (x5 < (↑n2 : Int)))
 ((Go.Value.pointer (Option.some (Go.Addr.mk 1000 (0 + Int.toNat x5 * 1) Option.none))) = (Go.Value.pointer (Option.some (Go.Addr.mk 1000 (0 + Int.toNat x5 * 1) Option.none))))
 False)
 False) ∧
 (((vI x5) = (vI x5)) ∧
 (((Go.Value.slice (Option.some (Go.Addr.mk 1000 0 Option.none)) (n2) (n2)) = (Go.Value.slice (Option.some (Go.Addr.mk 1000 0 Option.none)) (n2) (n2))) ∧
 (((Go.Value.slice (Option.some (Go.Addr.mk 1002 0 Option.none)) (n4) (n4)) = (Go.Value.slice (Option.some (Go.Addr.mk 1002 0 Option.none)) (n4) (n4))) ∧
 True))))))))))) ∧
 (bcase (decide (n4 < n4 + 1))
 (bcase (decide ((2 * (n4 + 1) + 768) * 16 ≤ 281474976710656))
 (bcase (decide (n4 + 1 ≤ 1099511627776))
 (bcase (decide (0 + n4 * 2 ≤ List.length l9))
 (bcase (decide (0 + n4 * 2 = List.length l9))
 ((((Go.Value.agg [(vI n1), (vI n5)].toArray) = (Go.Value.agg [(vI n1), (vI n5)].toArray)) ∧
 ((∃ n6 : Int,
 ((At (l8) (0 + Int.toNat x5 * 1) 1 [(vI n6)]) ∧
 ((vI n6) = (vI n5)))) ∧
 ((bcase (decide (0 ≤ x5))
 (bcase (decide (x5 < (↑n3 : Int)))
 ((Go.Value.pointer (Option.some (Go.Addr.mk 1001 (0 + Int.toNat x5 * 1) Option.none))) = (Go.Value.pointer (Option.some (Go.Addr.mk 1001 (0 + Int.toNat x5 * 1) Option.none))))
 False)
 False) ∧
 (((vI x5) = (vI x5)) ∧
 (((Go.Value.slice (Option.some (Go.Addr.mk 1001 0 Option.none)) (n3) (n3)) = (Go.Value.slice (Option.some (Go.Addr.mk 1001 0 Option.none)) (n3) (n3))) ∧
 ((∃ n6 : Int,
 ((At (l7) (0 + Int.toNat x5 * 1) 1 [(vI n6)]) ∧
 ((vI n6) = (vI n1)))) ∧
 ((bcase (decide (0 ≤ x5))
 (bcase (decide (x5 < (↑n2 : Int)))
 ((Go.Value.pointer (Option.some (Go.Addr.mk 1000 (0 + Int.toNat x5 * 1) Option.none))) = (Go.Value.pointer (Option.some (Go.Addr.mk 1000 (0 + Int.toNat x5 * 1) Option.none))))
 False)
 False) ∧
 (((vI x5) = (vI x5)) ∧
 (((Go.Value.slice (Option.some (Go.Addr.mk 1000 0 Option.none)) (n2) (n2)) = (Go.Value.slice (Option.some (Go.Addr.mk 1000 0 Option.none)) (n2) (n2))) ∧
 True))))))))) ∧
 (True ∧
 (B [(Prod.mk 1 (Go.Value.slice (Option.some (Go.Addr.mk 501 0 Option.none)) (n0) (c1))), (Prod.mk 10 (Go.Value.slice (Option.some (Go.Addr.mk 1000 0 Option.none)) (n2) (n2))), (Prod.mk 11 (Go.Value.slice (Option.some (Go.Addr.mk 1001 0 Option.none)) (n3) (n3))), (Prod.mk 12 (Go.Value.slice (Option.some (Go.Addr.mk 1002 0 Option.none)) (n4 + 1) (n4 + 1))), (Prod.mk 13 (vI (IntKind.wrap .i64 (x5 + 1))))] [(Prod.mk 501 (AObj.sym (l6) false 2)), (Prod.mk 1000 (AObj.sym (l7) true 1)), (Prod.mk 1001 (AObj.sym (l8) true 1)), (Prod.mk 1002 (AObj.sym ((List.take (n4 * 2) (List.drop 0 l9)) ++ [(vI n1), (vI n5)]) true 2))])))
 False)
 False)
 False)
 False)
 False))))
 False)
 False)))
 False)
 False)
 (X 2 [(Prod.mk 12 (Go.Value.slice (Option.some (Go.Addr.mk 1000 0 Option.none)) (n4) (n4)))] [(Prod.mk 1000 (AObj.sym (l9) true 2))])) := by kernel_rfl
def nIm11 (C : Ct) (L : AtLoop) (n0 : Nat) (l1 : List Value) (k : List D → Prop) : Prop := wpNext Try.prog (hK C) L 50 2 .normal [(12, (Value.slice (some ⟨1000, 0, none⟩) n0 n0))] [(1000, (AObj.sym l1 true 2))] (dataK k)
theorem nIm11_text (C : Ct) (L : AtLoop) (n0 : Nat) (l1 : List Go.Value) (k : List D → Prop) : nIm11 C L n0 l1 k =
 ((((n0) = (n0)) ∧
 ((List.length l1) = (n0 * 2))) ∧
 (k [(D.sl (n0) 2 (l1))])) := by kernel_rfl
def gBo (C : Ct) (L : AtLoop) (n0 : Nat) (c0 : Nat) (l0 : List Value) (n1 : Nat) (c1 : Nat) (l1 : List Value) (k : List D → Prop) : Prop := wpFn Try.prog (hE C) L 0 46 #[.slice (some ⟨500, 0, none⟩) n0 c0, .slice (some ⟨501, 0, none⟩) n1 c1] (heapOf [(500, .sym l0 false 1), (501, .sym l1 false 1)]) (dataK k)
theorem gBo_text (C : Ct) (L : AtLoop) (n0 : Nat) (c0 : Nat) (l0 : List Go.Value) (n1 : Nat) (c1 : Nat) (l1 : List Go.Value) (k : List D → Prop) : gBo C L n0 c0 l0 n1 c1 l1 k =
 (L 0 [(Prod.mk 1 (Go.Value.slice (Option.some (Go.Addr.mk 501 0 Option.none)) (n1) (c1))), (Prod.mk 5 (Go.Value.slice Option.none 0 0)), (Prod.mk 8 (Go.Value.slice (Option.some (Go.Addr.mk 500 0 Option.none)) (n0) (c0))), (Prod.mk 9 (vI ((↑n0 : Int)))), (Prod.mk 10 (vI (0 : Int)))] [(Prod.mk 501 (AObj.sym (l1) false 1)), (Prod.mk 500 (AObj.sym (l0) false 1))]) := by kernel_rfl
abbrev zBo1 (n0 : Nat) (c1 : Nat) (n2 : Nat) (c3 : Nat) (x4 : Int) (x5 : Int) (l6 : List Value) (l7 : List Value) : Slots × Blocks := ([(1, (Value.slice (some ⟨501, 0, none⟩) n0 c1)), (5, (Value.slice none 0 0)), (8, (Value.slice (some ⟨500, 0, none⟩) n2 c3)), (9, (Value.int .i64 x4)), (10, (Value.int .i64 x5))], [(501, (AObj.sym l6 false 1)), (500, (AObj.sym l7 false 1))])
def rBo1 (C : Ct) (L : AtLoop) (n0 : Nat) (c1 : Nat) (n2 : Nat) (c3 : Nat) (x4 : Int) (x5 : Int) (l6 : List Value) (l7 : List Value) (B : Bx) (X : Xx) (k : List D → Prop) : Prop := wpRound Try.prog (hE C) L 46 0 [(1, (Value.slice (some ⟨501, 0, none⟩) n0 c1)), (5, (Value.slice none 0 0)), (8, (Value.slice (some ⟨500, 0, none⟩) n2 c3)), (9, (Value.int .i64 x4)), (10, (Value.int .i64 x5))] [(501, (AObj.sym l6 false 1)), (500, (AObj.sym l7 false 1))] B X (dataK k)
theorem rBo1_text (C : Ct) (L : AtLoop) (n0 : Nat) (c1 : Nat) (n2 : Nat) (c3 : Nat) (x4 : Int) (x5 : Int) (l6 : List Go.Value) (l7 : List Go.Value) (B : Bx) (X : Xx) (k : List D → Prop) : rBo1 C L n0 c1 n2 c3 x4 x5 l6 l7 B X k =
 (bcase (decide (x5 < x4))
 (bcase (decide (0 ≤ x5))
 (bcase (decide (x5 < (↑n2 : Int)))
 (∃ n1 : Int,
 ((At (l7) (0 + Int.toNat x5 * 1) 1 [(vI n1)]) ∧
 (bcase (decide (0 ≤ x5))
 (bcase (decide (x5 < (↑n0 : Int)))
 (∃ n3 : Int,
 ((At (l6) (0 + Int.toNat x5 * 1) 1 [(vI n3)]) ∧
 (B [(Prod.mk 1 (Go.Value.slice (Option.some (Go.Addr.mk 501 0 Option.none)) (n0) (c1))), (Prod.mk 5 (Go.Value.slice (Option.some (Go.Addr.mk 1000 0 Option.none)) 1 1)), (Prod.mk 8 (Go.Value.slice (Option.some (Go.Addr.mk 500 0 Option.none)) (n2) (c3))), (Prod.mk 9 (vI x4)), (Prod.mk 10 (vI (IntKind.wrap .i64 (x5 + 1))))] [(Prod.mk 501 (AObj.sym (l6) false 1)), (Prod.mk 1000 (AObj.sym [(vI n1), (vI n3)] true 2)), (Prod.mk 500 (AObj.sym (l7) false 1))])))
 False)
 False)))
 False)
 False)
 (X 0 [(Prod.mk 5 (Go.Value.slice Option.none 0 0))] [])) := by kernel_rfl
abbrev zBo2 (n0 : Nat) (c1 : Nat) (n2 : Nat) (n3 : Nat) (c4 : Nat) (x5 : Int) (x6 : Int) (l7 : List Value) (l8 : List Value) (l9 : List Value) : Slots × Blocks := ([(1, (Value.slice (some ⟨501, 0, none⟩) n0 c1)), (5, (Value.slice (some ⟨1000, 0, none⟩) n2 n2)), (8, (Value.slice (some ⟨500, 0, none⟩) n3 c4)), (9, (Value.int .i64 x5)), (10, (Value.int .i64 x6))], [(501, (AObj.sym l7 false 1)), (1000, (AObj.sym l8 true 2)), (500, (AObj.sym l9 false 1))])
def rBo2 (C : Ct) (L : AtLoop) (n0 : Nat) (c1 : Nat) (n2 : Nat) (n3 : Nat) (c4 : Nat) (x5 : Int) (x6 : Int) (l7 : List Value) (l8 : List Value) (l9 : List Value) (B : Bx) (X : Xx) (k : List D → Prop) : Prop := wpRound Try.prog (hE C) L 46 0 [(1, (Value.slice (some ⟨501, 0, none⟩) n0 c1)), (5, (Value.slice (some ⟨1000, 0, none⟩) n2 n2)), (8, (Value.slice (some ⟨500, 0, none⟩) n3 c4)), (9, (Value.int .i64 x5)), (10, (Value.int .i64 x6))] [(501, (AObj.sym l7 false 1)), (1000, (AObj.sym l8 true 2)), (500, (AObj.sym l9 false 1))] B X (dataK k)
theorem rBo2_text (C : Ct) (L : AtLoop) (n0 : Nat) (c1 : Nat) (n2 : Nat) (n3 : Nat) (c4 : Nat) (x5 : Int) (x6 : Int) (l7 : List Go.Value) (l8 : List Go.Value) (l9 : List Go.Value) (B : Bx) (X : Xx) (k : List D → Prop) : rBo2 C L n0 c1 n2 n3 c4 x5 x6 l7 l8 l9 B X k =
 (bcase (decide (x6 < x5))
 (bcase (decide (0 ≤ x6))
 (bcase (decide (x6 < (↑n3 : Int)))
 (∃ n1 : Int,
 ((At (l9) (0 + Int.toNat x6 * 1) 1 [(vI n1)]) ∧
 (bcase (decide (0 ≤ x6))
 (bcase (decide (x6 < (↑n0 : Int)))
 (∃ n4 : Int,
 ((At (l7) (0 + Int.toNat x6 * 1) 1 [(vI n4)]) ∧
 (bcase (decide (n2 < n2 + 1))
 (bcase (decide ((2 * (n2 + 1) + 768) * 16 ≤ 281474976710656))
 (bcase (decide (n2 + 1 ≤ 1099511627776))
 (bcase (decide (0 + n2 * 2 ≤ List.length l8))
 (bcase (decide (0 + n2 * 2 = List.length l8))
 (B [(Prod.mk 1 (Go.Value.slice (Option.some (Go.Addr.mk 501 0 Option.none)) (n0) (c1))), (Prod.mk 5 (Go.Value.slice (Option.some (Go.Addr.mk 1000 0 Option.none)) (n2 + 1) (n2 + 1))), (Prod.mk 8 (Go.Value.slice (Option.some (Go.Addr.mk 500 0 Option.none)) (n3) (c4))), (Prod.mk 9 (vI x5)), (Prod.mk 10 (vI (IntKind.wrap .i64 (x6 + 1))))] [(Prod.mk 501 (AObj.sym (l7) false 1)), (Prod.mk 1000 (AObj.sym ((List.take (n2 * 2) (List.drop 0 l8)) ++ [(vI n1), (vI n4)]) true 2)), (Prod.mk 500 (AObj.sym (l9) false 1))])
 False)
 False)
 False)
 False)
 False)))
 False)
 False)))
 False)
 False)
 (X 0 [(Prod.mk 5 (Go.Value.slice (Option.some (Go.Addr.mk 1000 0 Option.none)) (n2) (n2)))] [(Prod.mk 1000 (AObj.sym (l8) true 2))])) := by kernel_rfl
def nBo4 (C : Ct) (L : AtLoop) (n0 : Nat) (l1 : List Value) (k : List D → Prop) : Prop := wpNext Try.prog (hE C) L 46 0 .normal [(5, (Value.slice (some ⟨1000, 0, none⟩) n0 n0))] [(1000, (AObj.sym l1 true 2))] (dataK k)
theorem nBo4_text (C : Ct) (L : AtLoop) (n0 : Nat) (l1 : List Go.Value) (k : List D → Prop) : nBo4 C L n0 l1 k =
 ((((n0) = (n0)) ∧
 ((List.length l1) = (n0 * 2))) ∧
 (k [(D.sl (n0) 2 (l1))])) := by kernel_rfl
def gBb (C : Ct) (L : AtLoop) (n0 : Nat) (c0 : Nat) (l0 : List Value) (n1 : Nat) (c1 : Nat) (l1 : List Value) (k : List D → Prop) : Prop := wpFn Try.prog (hE C) L 0 47 #[.slice (some ⟨500, 0, none⟩) n0 c0, .slice (some ⟨501, 0, none⟩) n1 c1] (heapOf [(500, .sym l0 false 2), (501, .sym l1 false 2)]) (dataK k)
theorem gBb_text (C : Ct) (L : AtLoop) (n0 : Nat) (c0 : Nat) (l0 : List Go.Value) (n1 : Nat) (c1 : Nat) (l1 : List Go.Value) (k : List D → Prop) : gBb C L n0 c0 l0 n1 c1 l1 k =
 (L 0 [(Prod.mk 1 (Go.Value.slice (Option.some (Go.Addr.mk 501 0 Option.none)) (n1) (c1))), (Prod.mk 5 (Go.Value.slice Option.none 0 0)), (Prod.mk 8 (Go.Value.slice (Option.some (Go.Addr.mk 500 0 Option.none)) (n0) (c0))), (Prod.mk 9 (vI ((↑n0 : Int)))), (Prod.mk 10 (vI (0 : Int)))] [(Prod.mk 501 (AObj.sym (l1) false 2)), (Prod.mk 500 (AObj.sym (l0) false 2))]) := by kernel_rfl
abbrev zBb1 (n0 : Nat) (c1 : Nat) (n2 : Nat) (c3 : Nat) (x4 : Int) (x5 : Int) (l6 : List Value) (l7 : List Value) : Slots × Blocks := ([(1, (Value.slice (some ⟨501, 0, none⟩) n0 c1)), (5, (Value.slice none 0 0)), (8, (Value.slice (some ⟨500, 0, none⟩) n2 c3)), (9, (Value.int .i64 x4)), (10, (Value.int .i64 x5))], [(501, (AObj.sym l6 false 2)), (500, (AObj.sym l7 false 2))])
def rBb1 (C : Ct) (L : AtLoop) (n0 : Nat) (c1 : Nat) (n2 : Nat) (c3 : Nat) (x4 : Int) (x5 : Int) (l6 : List Value) (l7 : List Value) (B : Bx) (X : Xx) (k : List D → Prop) : Prop := wpRound Try.prog (hE C) L 47 0 [(1, (Value.slice (some ⟨501, 0, none⟩) n0 c1)), (5, (Value.slice none 0 0)), (8, (Value.slice (some ⟨500, 0, none⟩) n2 c3)), (9, (Value.int .i64 x4)), (10, (Value.int .i64 x5))] [(501, (AObj.sym l6 false 2)), (500, (AObj.sym l7 false 2))] B X (dataK k)
theorem rBb1_text (C : Ct) (L : AtLoop) (n0 : Nat) (c1 : Nat) (n2 : Nat) (c3 : Nat) (x4 : Int) (x5 : Int) (l6 : List Go.Value) (l7 : List Go.Value) (B : Bx) (X : Xx) (k : List D → Prop) : rBb1 C L n0 c1 n2 c3 x4 x5 l6 l7 B X k =
 (bcase (decide (x5 < x4))
 (bcase (decide (0 ≤ x5))
 (bcase (decide (x5 < (↑n2 : Int)))
 (∃ n1 : Int,
 (∃ n3 : Int,
 ((At (l7) (0 + Int.toNat x5 * 2) 2 [(vI n1), (vI n3)]) ∧
 (bcase (decide (0 ≤ x5))
 (bcase (decide (x5 < (↑n0 : Int)))
 (∃ n4 : Int,
 ((At (l6) (0 + Int.toNat x5 * 2) 1 [(vI n4)]) ∧
 (bcase (decide (0 ≤ x5))
 (bcase (decide (x5 < (↑n0 : Int)))
 (∃ n5 : Int,
 ((At (l6) (Go.Addr.off { block := 501, off := 0 + Int.toNat x5 * 2 } + 1) 1 [(vI n5)]) ∧
 (((((Go.Value.slice (Option.some (Go.Addr.mk 1001 0 Option.none)) 1 1) = (Go.Value.slice (Option.some (Go.Addr.mk 1001 0 Option.none)) 1 1)) ∧
 ((Option.some (AObj.cells [(vI (if n4 < n1 then n4 else n1)), (vI (if n5 > n3 then n5 else n3))] 56 false 2)) = (Option.some (AObj.cells [(vI (if n4 < n1 then n4 else n1)), (vI (if n5 > n3 then n5 else n3))] 56 false 2)))) ∧
 (((Go.Value.agg [(vI (if n4 < n1 then n4 else n1)), (vI (if n5 > n3 then n5 else n3))].toArray) = (Go.Value.agg [(vI (if n4 < n1 then n4 else n1)), (vI (if n5 > n3 then n5 else n3))].toArray)) ∧
 (((vI (if n5 > n3 then n5 else n3)) = (vI (if n5 > n3 then n5 else n3))) ∧
 ((∃ n6 : Int,
 ((At (l6) (Go.Addr.off { block := 501, off := 0 + Int.toNat x5 * 2 } + 1) 1 [(vI n6)]) ∧
 ((vI n6) = (vI n5)))) ∧
 (((Go.Value.pointer (Option.some (Go.Addr.mk 501 (Go.Addr.off { block := 501, off := 0 + Int.toNat x5 * 2 } + 1) Option.none))) = (Go.Value.pointer (Option.some (Go.Addr.mk 501 (Go.Addr.off { block := 501, off := 0 + Int.toNat x5 * 2 } + 1) Option.none)))) ∧
 ((bcase (decide (0 ≤ x5))
 (bcase (decide (x5 < (↑n0 : Int)))
 ((Go.Value.pointer (Option.some (Go.Addr.mk 501 (0 + Int.toNat x5 * 2) Option.none))) = (Go.Value.pointer (Option.some (Go.Addr.mk 501 (0 + Int.toNat x5 * 2) Option.none))))
 False)
 False) ∧
 (((vI x5) = (vI x5)) ∧
 (((Go.Value.slice (Option.some (Go.Addr.mk 501 0 Option.none)) (n0) (c1)) = (Go.Value.slice (Option.some (Go.Addr.mk 501 0 Option.none)) (n0) (c1))) ∧
 (((vI n3) = (vI n3)) ∧
 (((Go.Value.pointer (Option.some (Go.Addr.mk 1000 1 Option.none))) = (Go.Value.pointer (Option.some (Go.Addr.mk 1000 1 Option.none)))) ∧
 (((vI (if n4 < n1 then n4 else n1)) = (vI (if n4 < n1 then n4 else n1))) ∧
 ((∃ n6 : Int,
 ((At (l6) (0 + Int.toNat x5 * 2) 1 [(vI n6)]) ∧
 ((vI n6) = (vI n4)))) ∧
 (((Go.Value.pointer (Option.some (Go.Addr.mk 501 (0 + Int.toNat x5 * 2) Option.none))) = (Go.Value.pointer (Option.some (Go.Addr.mk 501 (0 + Int.toNat x5 * 2) Option.none)))) ∧
 ((bcase (decide (0 ≤ x5))
 (bcase (decide (x5 < (↑n0 : Int)))
 ((Go.Value.pointer (Option.some (Go.Addr.mk 501 (0 + Int.toNat x5 * 2) Option.none))) = (Go.Value.pointer (Option.some (Go.Addr.mk 501 (0 + Int.toNat x5 * 2) Option.none))))
 False)
 False) ∧
 (((vI x5) = (vI x5)) ∧
 (((Go.Value.slice (Option.some (Go.Addr.mk 501 0 Option.none)) (n0) (c1)) = (Go.Value.slice (Option.some (Go.Addr.mk 501 0 Option.none)) (n0) (c1))) ∧
 (((vI n1) = (vI n1)) ∧
 (((Go.Value.pointer (Option.some (Go.Addr.mk 1000 0 Option.none))) = (Go.Value.pointer (Option.some (Go.Addr.mk 1000 0 Option.none)))) ∧
 (((Go.Value.slice Option.none 0 0) = (Go.Value.slice Option.none 0 0)) ∧
 True))))))))))))))))))) ∧
 ((((Go.Value.agg [(vI (if n4 < n1 then n4 else n1)), (vI (if n5 > n3 then n5 else n3))].toArray) = (Go.Value.agg [(vI (if n4 < n1 then n4 else n1)), (vI (if n5 > n3 then n5 else n3))].toArray)) ∧
 (((vI (if n5 > n3 then n5 else n3)) = (vI (if n5 > n3 then n5 else n3))) ∧
 ((∃ n6 : Int,
 ((At (l6) (Go.Addr.off { block := 501, off := 0 + Int.toNat x5 * 2 } + 1) 1 [(vI n6)]) ∧
 ((vI n6) = (vI n5)))) ∧
 (((Go.Value.pointer (Option.some (Go.Addr.mk 501 (Go.Addr.off { block := 501, off := 0 + Int.toNat x5 * 2 } + 1) Option.none))) = (Go.Value.pointer (Option.some (Go.Addr.mk 501 (Go.Addr.off { block := 501, off := 0 + Int.toNat x5 * 2 } + 1) Option.none)))) ∧
 ((bcase (decide (0 ≤ x5))
 (bcase (decide (x5 < (↑n0 : Int)))
 ((Go.Value.pointer (Option.some (Go.Addr.mk 501 (0 + Int.toNat x5 * 2) Option.none))) = (Go.Value.pointer (Option.some (Go.Addr.mk 501 (0 + Int.toNat x5 * 2) Option.none))))
 False)
 False) ∧
 (((vI x5) = (vI x5)) ∧
 (((Go.Value.slice (Option.some (Go.Addr.mk 501 0 Option.none)) (n0) (c1)) = (Go.Value.slice (Option.some (Go.Addr.mk 501 0 Option.none)) (n0) (c1))) ∧
 (((vI n3) = (vI n3)) ∧
 (((Go.Value.pointer (Option.some (Go.Addr.mk 1000 1 Option.none))) = (Go.Value.pointer (Option.some (Go.Addr.mk 1000 1 Option.none)))) ∧
 (((vI (if n4 < n1 then n4 else n1)) = (vI (if n4 < n1 then n4 else n1))) ∧
 ((∃ n6 : Int,
 ((At (l6) (0 + Int.toNat x5 * 2) 1 [(vI n6)]) ∧
 ((vI n6) = (vI n4)))) ∧
 (((Go.Value.pointer (Option.some (Go.Addr.mk 501 (0 + Int.toNat x5 * 2) Option.none))) = (Go.Value.pointer (Option.some (Go.Addr.mk 501 (0 + Int.toNat x5 * 2) Option.none)))) ∧
 ((bcase (decide (0 ≤ x5))
 (bcase (decide (x5 < (↑n0 : Int)))
 ((Go.Value.pointer (Option.some (Go.Addr.mk 501 (0 + Int.toNat x5 * 2) Option.none))) = (Go.Value.pointer (Option.some (Go.Addr.mk 501 (0 + Int.toNat x5 * 2) Option.none))))
 False)
 False) ∧
 (((vI x5) = (vI x5)) ∧
 (((Go.Value.slice (Option.some (Go.Addr.mk 501 0 Option.none)) (n0) (c1)) = (Go.Value.slice (Option.some (Go.Addr.mk 501 0 Option.none)) (n0) (c1))) ∧
 (((vI n1) = (vI n1)) ∧
 (((Go.Value.pointer (Option.some (Go.Addr.mk 1000 0 Option.none))) = (Go.Value.pointer (Option.some (Go.Addr.mk 1000 0 Option.none)))) ∧
 True))))))))))))))))) ∧
 (True ∧
 (B [(Prod.mk 1 (Go.Value.slice (Option.some (Go.Addr.mk 501 0 Option.none)) (n0) (c1))), (Prod.mk 5 (Go.Value.slice (Option.some (Go.Addr.mk 1000 0 Option.none)) 1 1)), (Prod.mk 8 (Go.Value.slice (Option.some (Go.Addr.mk 500 0 Option.none)) (n2) (c3))), (Prod.mk 9 (vI x4)), (Prod.mk 10 (vI (IntKind.wrap .i64 (x5 + 1))))] [(Prod.mk 501 (AObj.sym (l6) false 2)), (Prod.mk 1000 (AObj.sym [(vI (if n4 < n1 then n4 else n1)), (vI (if n5 > n3 then n5 else n3))] true 2)), (Prod.mk 500 (AObj.sym (l7) false 2))]))))))
 False)
 False)))
 False)
 False))))
 False)
 False)
 (X 0 [(Prod.mk 5 (Go.Value.slice Option.none 0 0))] [])) := by kernel_rfl
abbrev zBb2 (n0 : Nat) (c1 : Nat) (n2 : Nat) (n3 : Nat) (c4 : Nat) (x5 : Int) (x6 : Int) (l7 : List Value) (l8 : List Value) (l9 : List Value) : Slots × Blocks := ([(1, (Value.slice (some ⟨501, 0, none⟩) n0 c1)), (5, (Value.slice (some ⟨1000, 0, none⟩) n2 n2)), (8, (Value.slice (some ⟨500, 0, none⟩) n3 c4)), (9, (Value.int .i64 x5)), (10, (Value.int .i64 x6))], [(501, (AObj.sym l7 false 2)), (1000, (AObj.sym l8 true 2)), (500, (AObj.sym l9 false 2))])
def rBb2 (C : Ct) (L : AtLoop) (n0 : Nat) (c1 : Nat) (n2 : Nat) (n3 : Nat) (c4 : Nat) (x5 : Int) (x6 : Int) (l7 : List Value) (l8 : List Value) (l9 : List Value) (B : Bx) (X : Xx) (k : List D → Prop) : Prop := wpRound Try.prog (hE C) L 47 0 [(1, (Value.slice (some ⟨501, 0, none⟩) n0 c1)), (5, (Value.slice (some ⟨1000, 0, none⟩) n2 n2)), (8, (Value.slice (some ⟨500, 0, none⟩) n3 c4)), (9, (Value.int .i64 x5)), (10, (Value.int .i64 x6))] [(501, (AObj.sym l7 false 2)), (1000, (AObj.sym l8 true 2)), (500, (AObj.sym l9 false 2))] B X (dataK k)
theorem rBb2_text (C : Ct) (L : AtLoop) (n0 : Nat) (c1 : Nat) (n2 : Nat) (n3 : Nat) (c4 : Nat) (x5 : Int) (x6 : Int) (l7 : List Go.Value) (l8 : List Go.Value) (l9 : List Go.Value) (B : Bx) (X : Xx) (k : List D → Prop) : rBb2 C L n0 c1 n2 n3 c4 x5 x6 l7 l8 l9 B X k =
 (bcase (decide (x6 < x5))
 (bcase (decide (0 ≤ x6))
 (bcase (decide (x6 < (↑n3 : Int)))
 (∃ n1 : Int,
 (∃ n4 : Int,
 ((At (l9) (0 + Int.toNat x6 * 2) 2 [(vI n1), (vI n4)]) ∧
 (bcase (decide (0 ≤ x6))
 (bcase (decide (x6 < (↑n0 : Int)))
 (∃ n5 : Int,
 ((At (l7) (0 + Int.toNat x6 * 2) 1 [(vI n5)]) ∧
 (bcase (decide (0 ≤ x6))
 (bcase (decide (x6 < (↑n0 : Int)))
 (∃ n6 : Int,
 ((At (l7) (Go.Addr.off { block := 501, off := 0 + Int.toNat x6 * 2 } + 1) 1 [(vI n6)]) ∧
 (((((Go.Value.slice (Option.some (Go.Addr.mk 1002 0 Option.none)) 1 1) = (Go.Value.slice (Option.some (Go.Addr.mk 1002 0 Option.none)) 1 1)) ∧
 ((Option.some (AObj.cells [(vI (if n5 < n1 then n5 else n1)), (vI (if n6 > n4 then n6 else n4))] 56 false 2)) = (Option.some (AObj.cells [(vI (if n5 < n1 then n5 else n1)), (vI (if n6 > n4 then n6 else n4))] 56 false 2)))) ∧
 (((Go.Value.agg [(vI (if n5 < n1 then n5 else n1)), (vI (if n6 > n4 then n6 else n4))].toArray) = (Go.Value.agg [(vI (if n5 < n1 then n5 else n1)), (vI (if n6 > n4 then n6 else n4))].toArray)) ∧
 (((vI (if n6 > n4 then n6 else n4)) = (vI (if n6 > n4 then n6 else n4))) ∧
 ((∃ n7 : Int,
 ((At (l7) (Go.Addr.off { block := 501, off := 0 + Int.toNat x6 * 2 } + 1) 1 [(vI n7)]) ∧
 ((vI n7) = (vI n6)))) ∧
 (((Go.Value.pointer (Option.some (Go.Addr.mk 501 (Go.Addr.off { block := 501, off := 0 + Int.toNat x6 * 2 } + 1) Option.none))) = (Go.Value.pointer (Option.some (Go.Addr.mk 501 (Go.Addr.off { block := 501, off := 0 + Int.toNat x6 * 2 } + 1) Option.none)))) ∧
 ((bcase (decide (0 ≤ x6))
 (bcase (decide (x6 < (↑n0 : Int)))
 ((Go.Value.pointer (Option.some (Go.Addr.mk 501 (0 + Int.toNat x6 * 2) Option.none))) = (Go.Value.pointer (Option.some (Go.Addr.mk 501 (0 + Int.toNat x6 * 2) Option.none))))
 False)
 False) ∧
 (((vI x6) = (vI x6)) ∧
 (((Go.Value.slice (Option.some (Go.Addr.mk 501 0 Option.none)) (n0) (c1)) = (Go.Value.slice (Option.some (Go.Addr.mk 501 0 Option.none)) (n0) (c1))) ∧
 (((vI n4) = (vI n4)) ∧
 (((Go.Value.pointer (Option.some (Go.Addr.mk 1001 1 Option.none))) = (Go.Value.pointer (Option.some (Go.Addr.mk 1001 1 Option.none)))) ∧
 (((vI (if n5 < n1 then n5 else n1)) = (vI (if n5 < n1 then n5 else n1))) ∧
 ((∃ n7 : Int,
 ((At (l7) (0 + Int.toNat x6 * 2) 1 [(vI n7)]) ∧
 ((vI n7) = (vI n5)))) ∧
 (((Go.Value.pointer (Option.some (Go.Addr.mk 501 (0 + Int.toNat x6 * 2) Option.none))) = (Go.Value.pointer (Option.some (Go.Addr.mk 501 (0 + Int.toNat x6 * 2) Option.none)))) ∧
 ((bcase (decide (0 ≤ x6))
 (bcase (decide (x6 < (↑n0 : Int)))
 ((Go.Value.pointer (Option.some (Go.Addr.mk 501 (0 + Int.toNat x6 * 2) Option.none))) = (Go.Value.pointer (Option.some (Go.Addr.mk 501 (0 + Int.toNat x6 * 2) Option.none))))
 False)
 False) ∧
 (((vI x6) = (vI x6)) ∧
 (((Go.Value.slice (Option.some (Go.Addr.mk 501 0 Option.none)) (n0) (c1)) = (Go.Value.slice (Option.some (Go.Addr.mk 501 0 Option.none)) (n0) (c1))) ∧
 (((vI n1) = (vI n1)) ∧
 (((Go.Value.pointer (Option.some (Go.Addr.mk 1001 0 Option.none))) = (Go.Value.pointer (Option.some (Go.Addr.mk 1001 0 Option.none)))) ∧
 (((Go.Value.slice (Option.some (Go.Addr.mk 1000 0 Option.none)) (n2) (n2)) = (Go.Value.slice (Option.some (Go.Addr.mk 1000 0 Option.none)) (n2) (n2))) ∧
 True))))))))))))))))))) ∧
 (bcase (decide (n2 < n2 + 1))
 (bcase (decide ((2 * (n2 + 1) + 768) * 16 ≤ 281474976710656))
 (bcase (decide (n2 + 1 ≤ 1099511627776))
 (bcase (decide (0 + n2 * 2 ≤ List.length l8))
 (bcase (decide (0 + n2 * 2 = List.length l8))
 ((((Go.Value.agg [(vI (if n5 < n1 then n5 else n1)), (vI (if n6 > n4 then n6 else n4))].toArray) = (Go.Value.agg [(vI (if n5 < n1 then n5 else n1)), (vI (if n6 > n4 then n6 else n4))].toArray)) ∧
 (((vI (if n6 > n4 then n6 else n4)) = (vI (if n6 > n4 then n6 else n4))) ∧
 ((∃ n7 : Int,
 ((At (l7) (Go.Addr.off { block := 501, off := 0 + Int.toNat x6 * 2 } + 1) 1 [(vI n7)]) ∧
 ((vI n7) = (vI n6)))) ∧
 (((Go.Value.pointer (Option.some (Go.Addr.mk 501 (Go.Addr.off { block := 501, off := 0 + Int.toNat x6 * 2 } + 1) Option.none))) = (Go.Value.pointer (Option.some (Go.Addr.mk 501 (Go.Addr.off { block := 501, off := 0 + Int.toNat x6 * 2 } + 1) Option.none)))) ∧
 ((bcase (decide (0 ≤ x6))
 (bcase (decide (x6 < (↑n0 : Int)))
 ((Go.Value.pointer (Option.some (Go.Addr.mk 501 (0 + Int.toNat x6 * 2) Option.none))) = (Go.Value.pointer (Option.some (Go.Addr.mk 501 (0 + Int.toNat x6 * 2) Option.none))))
 False)
 False) ∧
 (((vI x6) = (vI x6)) ∧
 (((Go.Value.slice (Option.some (Go.Addr.mk 501 0 Option.none)) (n0) (c1)) = (Go.Value.slice (Option.some (Go.Addr.mk 501 0 Option.none)) (n0) (c1))) ∧
 (((vI n4) = (vI n4)) ∧
 (((Go.Value.pointer (Option.some (Go.Addr.mk 1001 1 Option.none))) = (Go.Value.pointer (Option.some (Go.Addr.mk 1001 1 Option.none)))) ∧
 (((vI (if n5 < n1 then n5 else n1)) = (vI (if n5 < n1 then n5 else n1))) ∧
 ((∃ n7 : Int,
 ((At (l7) (0 + Int.toNat x6 * 2) 1 [(vI n7)]) ∧
 ((vI n7) = (vI n5)))) ∧
 (((Go.Value.pointer (Option.some (Go.Addr.mk 501 (0 + Int.toNat x6 * 2) Option.none))) = (Go.Value.pointer (Option.some (Go.Addr.mk 501 (0 + Int.toNat x6 * 2) Option.none)))) ∧
 ((bcase (decide (0 ≤ x6))
 (bcase (decide (x6 < (↑n0 : Int)))
 ((Go.Value.pointer (Option.some (Go.Addr.mk 501 (0 + Int.toNat x6 * 2) Option.none))) = (Go.Value.pointer (Option.some (Go.Addr.mk 501 (0 + Int.toNat x6 * 2) Option.none))))
 False)
 False) ∧
 (((vI x6) = (vI x6)) ∧
 (((Go.Value.slice (Option.some (Go.Addr.mk 501 0 Option.none)) (n0) (c1)) = (Go.Value.slice (Option.some (Go.Addr.mk 501 0 Option.none)) (n0) (c1))) ∧
 (((vI n1) = (vI n1)) ∧
 (((Go.Value.pointer (Option.some (Go.Addr.mk 1001 0 Option.none))) = (Go.Value.pointer (Option.some (Go.Addr.mk 1001 0 Option.none)))) ∧
 True))))))))))))))))) ∧
 (True ∧
 (B [(Prod.mk 1 (Go.Value.slice (Option.some (Go.Addr.mk 501 0 Option.none)) (n0) (c1))), (Prod.mk 5 (Go.Value.slice (Option.some (Go.Addr.mk 1000 0 Option.none)) (n2 + 1) (n2 + 1))), (Prod.mk 8 (Go.Value.slice (Option.some (Go.Addr.mk 500 0 Option.none)) (n3) (c4))), (Prod.mk 9 (vI x5)), (Prod.mk 10 (vI (IntKind.wrap .i64 (x6 + 1))))] [(Prod.mk 501 (AObj.sym (l7) false 2)), (Prod.mk 1000 (AObj.sym ((List.take (n2 * 2) (List.drop 0 l8)) ++ [(vI (if n5 < n1 then n5 else n1)), (vI (if n6 > n4 then n6 else n4))]) true 2)), (Prod.mk 500 (AObj.sym (l9) false 2))])))
 False)
 False)
 False)
 False)
 False))))
 False)
 False)))
 False)
 False))))
 False)
 False)
 (X 0 [(Prod.mk 5 (Go.Value.slice (Option.some (Go.Addr.mk 1000 0 Option.none)) (n2) (n2)))] [(Prod.mk 1000 (AObj.sym (l8) true 2))])) := by kernel_rfl
def nBb4 (C : Ct) (L : AtLoop) (n0 : Nat) (l1 : List Value) (k : List D → Prop) : Prop := wpNext Try.prog (hE C) L 47 0 .normal [(5, (Value.slice (some ⟨1000, 0, none⟩) n0 n0))] [(1000, (AObj.sym l1 true 2))] (dataK k)
theorem nBb4_text (C : Ct) (L : AtLoop) (n0 : Nat) (l1 : List Go.Value) (k : List D → Prop) : nBb4 C L n0 l1 k =
 ((((n0) = (n0)) ∧
 ((List.length l1) = (n0 * 2))) ∧
 (k [(D.sl (n0) 2 (l1))])) := by kernel_rfl
def rBa20 (C : Ct) (L : AtLoop) (n0 : Nat) (c1 : Nat) (n2 : Nat) (c3 : Nat) (l4 : List Value) (l7 : List Value) (n3 : Nat) (n4 : Nat) (n8 : Nat) (n9 : Nat) (l5 : List Value) (l6 : List Value) (l10 : List Value) (l11 : List Value) (B : Bx) (X : Xx) (k : List D → Prop) : Prop := jRound Try.prog (hK C) L [] 45 0 [(0, (Value.slice (some ⟨500, 0, none⟩) n0 c1)), (1, (Value.slice (some ⟨501, 0, none⟩) n2 c3)), (5, (Value.pointer (some ⟨1000, 0, none⟩))), (9, (Value.int .i64 (2)))] [(500, (AObj.sym l4 false 7)), (501, (AObj.sym l7 false 2)), (1000, (AObj.cells [(Value.slice (some ⟨1001, 0, none⟩) n3 n3), (Value.slice (some ⟨1002, 0, none⟩) n4 n4), (Value.slice (some ⟨1003, 0, none⟩) n8 n8), (Value.slice (some ⟨1004, 0, none⟩) n9 n9)] 123 false 2)), (1001, (AObj.sym l5 true 1)), (1002, (AObj.sym l6 true 1)), (1003, (AObj.sym l10 true 1)), (1004, (AObj.sym l11 true 1))] B X (dataK k)
theorem rBa20_text (C : Ct) (L : AtLoop) (n0 : Nat) (c1 : Nat) (n2 : Nat) (c3 : Nat) (l4 : List Go.Value) (l7 : List Go.Value) (n3 : Nat) (n4 : Nat) (n8 : Nat) (n9 : Nat) (l5 : List Go.Value) (l6 : List Go.Value) (l10 : List Go.Value) (l11 : List Go.Value) (B : Bx) (X : Xx) (k : List D → Prop) : rBa20 C L n0 c1 n2 c3 l4 l7 n3 n4 n8 n9 l5 l6 l10 l11 B X k =
 (X 0 [(Prod.mk 0 (Go.Value.slice (Option.some (Go.Addr.mk 500 0 Option.none)) (n0) (c1))), (Prod.mk 5 (Go.Value.pointer (Option.some (Go.Addr.mk 1000 0 Option.none))))] [(Prod.mk 500 (AObj.sym (l4) false 7)), (Prod.mk 1000 (AObj.cells [(Go.Value.slice (Option.some (Go.Addr.mk 1001 0 Option.none)) (n3) (n3)), (Go.Value.slice (Option.some (Go.Addr.mk 1002 0 Option.none)) (n4) (n4)), (Go.Value.slice (Option.some (Go.Addr.mk 1003 0 Option.none)) (n8) (n8)), (Go.Value.slice (Option.some (Go.Addr.mk 1004 0 Option.none)) (n9) (n9))] 123 false 2)), (Prod.mk 1001 (AObj.sym (l5) true 1)), (Prod.mk 1002 (AObj.sym (l6) true 1)), (Prod.mk 1003 (AObj.sym (l10) true 1)), (Prod.mk 1004 (AObj.sym (l11) true 1))]) := by kernel_rfl
def nBa30 (C : Ct) (L : AtLoop) (n0 : Nat) (c1 : Nat) (l2 : List Value) (n3 : Nat) (n4 : Nat) (n8 : Nat) (n9 : Nat) (l5 : List Value) (l6 : List Value) (l10 : List Value) (l11 : List Value) (k : List D → Prop) : Prop := jNext Try.prog (hK C) L [] 45 0 .normal [(0, (Value.slice (some ⟨500, 0, none⟩) n0 c1)), (5, (Value.pointer (some ⟨1000, 0, none⟩)))] [(500, (AObj.sym l2 false 7)), (1000, (AObj.cells [(Value.slice (some ⟨1001, 0, none⟩) n3 n3), (Value.slice (some ⟨1002, 0, none⟩) n4 n4), (Value.slice (some ⟨1003, 0, none⟩) n8 n8), (Value.slice (some ⟨1004, 0, none⟩) n9 n9)] 123 false 2)), (1001, (AObj.sym l5 true 1)), (1002, (AObj.sym l6 true 1)), (1003, (AObj.sym l10 true 1)), (1004, (AObj.sym l11 true 1))] (dataK k)
theorem nBa30_text (C : Ct) (L : AtLoop) (n0 : Nat) (c1 : Nat) (l2 : List Go.Value) (n3 : Nat) (n4 : Nat) (n8 : Nat) (n9 : Nat) (l5 : List Go.Value) (l6 : List Go.Value) (l10 : List Go.Value) (l11 : List Go.Value) (k : List D → Prop) : nBa30 C L n0 c1 l2 n3 n4 n8 n9 l5 l6 l10 l11 k =
 ((((Go.Value.agg [(Go.Value.slice (Option.some (Go.Addr.mk 1003 0 Option.none)) (n8) (n8)), (Go.Value.slice (Option.some (Go.Addr.mk 1004 0 Option.none)) (n9) (n9))].toArray) = (Go.Value.agg [(Go.Value.slice (Option.some (Go.Addr.mk 1003 0 Option.none)) (n8) (n8)), (Go.Value.slice (Option.some (Go.Addr.mk 1004 0 Option.none)) (n9) (n9))].toArray)) ∧
 (((Go.Value.pointer (Option.some (Go.Addr.mk 1000 2 Option.none))) = (Go.Value.pointer (Option.some (Go.Addr.mk 1000 2 Option.none)))) ∧
 (((Go.Value.slice (Option.some (Go.Addr.mk 500 0 Option.none)) (n0) (c1)) = (Go.Value.slice (Option.some (Go.Addr.mk 500 0 Option.none)) (n0) (c1))) ∧
 (((Go.Value.agg [(Go.Value.slice (Option.some (Go.Addr.mk 1001 0 Option.none)) (n3) (n3)), (Go.Value.slice (Option.some (Go.Addr.mk 1002 0 Option.none)) (n4) (n4))].toArray) = (Go.Value.agg [(Go.Value.slice (Option.some (Go.Addr.mk 1001 0 Option.none)) (n3) (n3)), (Go.Value.slice (Option.some (Go.Addr.mk 1002 0 Option.none)) (n4) (n4))].toArray)) ∧
 (((Go.Value.pointer (Option.some (Go.Addr.mk 1000 0 Option.none))) = (Go.Value.pointer (Option.some (Go.Addr.mk 1000 0 Option.none)))) ∧
 (((Go.Value.slice (Option.some (Go.Addr.mk 500 0 Option.none)) (n0) (c1)) = (Go.Value.slice (Option.some (Go.Addr.mk 500 0 Option.none)) (n0) (c1))) ∧
 True)))))) ∧
 (bcase (decide (0 + n0 * 7 ≤ List.length l2))
 (bcase (decide (0 + n3 * 1 ≤ List.length l5))
 (bcase (decide (0 + n4 * 1 ≤ List.length l6))
 (((Says C 41 [(D.sl (n0) 7 (List.take (n0 * 7) (List.drop 0 l2))), (D.agg [(D.sl (n3) 1 (List.take (n3 * 1) (List.drop 0 l5))), (D.sl (n4) 1 (List.take (n4 * 1) (List.drop 0 l6)))])] [D.nil]) ∧
 ((((Go.Value.agg [(Go.Value.slice (Option.some (Go.Addr.mk 1003 0 Option.none)) (n8) (n8)), (Go.Value.slice (Option.some (Go.Addr.mk 1004 0 Option.none)) (n9) (n9))].toArray) = (Go.Value.agg [(Go.Value.slice (Option.some (Go.Addr.mk 1003 0 Option.none)) (n8) (n8)), (Go.Value.slice (Option.some (Go.Addr.mk 1004 0 Option.none)) (n9) (n9))].toArray)) ∧
 (((Go.Value.pointer (Option.some (Go.Addr.mk 1000 2 Option.none))) = (Go.Value.pointer (Option.some (Go.Addr.mk 1000 2 Option.none)))) ∧
 (((Go.Value.slice (Option.some (Go.Addr.mk 500 0 Option.none)) (n0) (c1)) = (Go.Value.slice (Option.some (Go.Addr.mk 500 0 Option.none)) (n0) (c1))) ∧
 (((Go.Value.pointer (Option.some (Go.Addr.mk 1000 0 Option.none))) = (Go.Value.pointer (Option.some (Go.Addr.mk 1000 0 Option.none)))) ∧
 True)))) ∧
 (bcase (decide (0 + n0 * 7 ≤ List.length l2))
 (bcase (decide (0 + n8 * 1 ≤ List.length l10))
 (bcase (decide (0 + n9 * 1 ≤ List.length l11))
 (((Says C 41 [(D.sl (n0) 7 (List.take (n0 * 7) (List.drop 0 l2))), (D.agg [(D.sl (n8) 1 (List.take (n8 * 1) (List.drop 0 l10))), (D.sl (n9) 1 (List.take (n9 * 1) (List.drop 0 l11)))])] [D.nil]) ∧
 ((((Go.Value.pointer (Option.some (Go.Addr.mk 1000 2 Option.none))) = (Go.Value.pointer (Option.some (Go.Addr.mk 1000 2 Option.none)))) ∧
 (((Go.Value.pointer (Option.some (Go.Addr.mk 1000 0 Option.none))) = (Go.Value.pointer (Option.some (Go.Addr.mk 1000 0 Option.none)))) ∧
 True)) ∧
 (((Says C 46 [D.nil, D.nil] [D.nil]) ∧
 ((((Go.Value.pointer (Option.some (Go.Addr.mk 1000 2 Option.none))) = (Go.Value.pointer (Option.some (Go.Addr.mk 1000 2 Option.none)))) ∧
 (((Go.Value.pointer (Option.some (Go.Addr.mk 1000 0 Option.none))) = (Go.Value.pointer (Option.some (Go.Addr.mk 1000 0 Option.none)))) ∧
 True)) ∧
 (True ∧
 (k [D.nil])))) ∨
 (∃ n1 : Nat,
 (∃ cs1 : List Go.Value,
 ((Says C 46 [D.nil, D.nil] [(D.sl (n1) 2 (cs1))]) ∧
 ((((Go.Value.pointer (Option.some (Go.Addr.mk 1000 2 Option.none))) = (Go.Value.pointer (Option.some (Go.Addr.mk 1000 2 Option.none)))) ∧
 (((Go.Value.pointer (Option.some (Go.Addr.mk 1000 0 Option.none))) = (Go.Value.pointer (Option.some (Go.Addr.mk 1000 0 Option.none)))) ∧
 True)) ∧
 (True ∧
 ((((n1) = (n1)) ∧
 ((List.length cs1) = (n1 * 2))) ∧
 (k [(D.sl (n1) 2 (cs1))])))))))))) ∨
 (∃ n1 : Nat,
 (∃ cs1 : List Go.Value,
 ((Says C 41 [(D.sl (n0) 7 (List.take (n0 * 7) (List.drop 0 l2))), (D.agg [(D.sl (n8) 1 (List.take (n8 * 1) (List.drop 0 l10))), (D.sl (n9) 1 (List.take (n9 * 1) (List.drop 0 l11)))])] [(D.sl (n1) 1 (cs1))]) ∧
 ((((Go.Value.pointer (Option.some (Go.Addr.mk 1000 2 Option.none))) = (Go.Value.pointer (Option.some (Go.Addr.mk 1000 2 Option.none)))) ∧
 (((Go.Value.pointer (Option.some (Go.Addr.mk 1000 0 Option.none))) = (Go.Value.pointer (Option.some (Go.Addr.mk 1000 0 Option.none)))) ∧
 True)) ∧
 (bcase (decide (0 + n1 * 1 ≤ List.length cs1))
 (((Says C 46 [D.nil, (D.sl (n1) 1 (List.take (n1 * 1) (List.drop 0 cs1)))] [D.nil]) ∧
 ((((Go.Value.pointer (Option.some (Go.Addr.mk 1000 2 Option.none))) = (Go.Value.pointer (Option.some (Go.Addr.mk 1000 2 Option.none)))) ∧
 (((Go.Value.pointer (Option.some (Go.Addr.mk 1000 0 Option.none))) = (Go.Value.pointer (Option.some (Go.Addr.mk 1000 0 Option.none)))) ∧
 True)) ∧
 (True ∧
 (k [D.nil])))) ∨
 (∃ n2 : Nat,
 (∃ cs2 : List Go.Value,
 ((Says C 46 [D.nil, (D.sl (n1) 1 (List.take (n1 * 1) (List.drop 0 cs1)))] [(D.sl (n2) 2 (cs2))]) ∧
 ((((Go.Value.pointer (Option.some (Go.Addr.mk 1000 2 Option.none))) = (Go.Value.pointer (Option.some (Go.Addr.mk 1000 2 Option.none)))) ∧
 (((Go.Value.pointer (Option.some (Go.Addr.mk 1000 0 Option.none))) = (Go.Value.pointer (Option.some (Go.Addr.mk 1000 0 Option.none)))) ∧
 True)) ∧
 (True ∧
 ((((n2) = (n2)) ∧
 ((List.length cs2) = (n2 * 2))) ∧
 (k [(D.sl (n2) 2 (cs2))]))))))))
 False))))))
 False)
 False)
 False))) ∨
 (∃ n1 : Nat,
 (∃ cs1 : List Go.Value,
 ((Says C 41 [(D.sl (n0) 7 (List.take (n0 * 7) (List.drop 0 l2))), (D.agg [(D.sl (n3) 1 (List.take (n3 * 1) (List.drop 0 l5))), (D.sl (n4) 1 (List.take (n4 * 1) (List.drop 0 l6)))])] [(D.sl (n1) 1 (cs1))]) ∧
 ((((Go.Value.agg [(Go.Value.slice (Option.some (Go.Addr.mk 1003 0 Option.none)) (n8) (n8)), (Go.Value.slice (Option.some (Go.Addr.mk 1004 0 Option.none)) (n9) (n9))].toArray) = (Go.Value.agg [(Go.Value.slice (Option.some (Go.Addr.mk 1003 0 Option.none)) (n8) (n8)), (Go.Value.slice (Option.some (Go.Addr.mk 1004 0 Option.none)) (n9) (n9))].toArray)) ∧
 (((Go.Value.pointer (Option.some (Go.Addr.mk 1000 2 Option.none))) = (Go.Value.pointer (Option.some (Go.Addr.mk 1000 2 Option.none)))) ∧
 (((Go.Value.slice (Option.some (Go.Addr.mk 500 0 Option.none)) (n0) (c1)) = (Go.Value.slice (Option.some (Go.Addr.mk 500 0 Option.none)) (n0) (c1))) ∧
 (((Go.Value.pointer (Option.some (Go.Addr.mk 1000 0 Option.none))) = (Go.Value.pointer (Option.some (Go.Addr.mk 1000 0 Option.none)))) ∧
 True)))) ∧
 (bcase (decide (0 + n0 * 7 ≤ List.length l2))
 (bcase (decide (0 + n8 * 1 ≤ List.length l10))
 (bcase (decide (0 + n9 * 1 ≤ List.length l11))
 (((Says C 41 [(D.sl (n0) 7 (List.take (n0 * 7) (List.drop 0 l2))), (D.agg [(D.sl (n8) 1 (List.take (n8 * 1) (List.drop 0 l10))), (D.sl (n9) 1 (List.take (n9 * 1) (List.drop 0 l11)))])] [D.nil]) ∧
 ((((Go.Value.pointer (Option.some (Go.Addr.mk 1000 2 Option.none))) = (Go.Value.pointer (Option.some (Go.Addr.mk 1000 2 Option.none)))) ∧
 (((Go.Value.pointer (Option.some (Go.Addr.mk 1000 0 Option.none))) = (Go.Value.pointer (Option.some (Go.Addr.mk 1000 0 Option.none)))) ∧
 True)) ∧
 (bcase (decide (0 + n1 * 1 ≤ List.length cs1))
 (((Says C 46 [(D.sl (n1) 1 (List.take (n1 * 1) (List.drop 0 cs1))), D.nil] [D.nil]) ∧
 ((((Go.Value.pointer (Option.some (Go.Addr.mk 1000 2 Option.none))) = (Go.Value.pointer (Option.some (Go.Addr.mk 1000 2 Option.none)))) ∧
 (((Go.Value.pointer (Option.some (Go.Addr.mk 1000 0 Option.none))) = (Go.Value.pointer (Option.some (Go.Addr.mk 1000 0 Option.none)))) ∧
 True)) ∧
 (True ∧
 (k [D.nil])))) ∨
 (∃ n2 : Nat,
 (∃ cs2 : List Go.Value,
 ((Says C 46 [(D.sl (n1) 1 (List.take (n1 * 1) (List.drop 0 cs1))), D.nil] [(D.sl (n2) 2 (cs2))]) ∧
 ((((Go.Value.pointer (Option.some (Go.Addr.mk 1000 2 Option.none))) = (Go.Value.pointer (Option.some (Go.Addr.mk 1000 2 Option.none)))) ∧
 (((Go.Value.pointer (Option.some (Go.Addr.mk 1000 0 Option.none))) = (Go.Value.pointer (Option.some (Go.Addr.mk 1000 0 Option.none)))) ∧
 True)) ∧
 (True ∧
 ((((n2) = (n2)) ∧
 ((List.length cs2) = (n2 * 2))) ∧
 (k [(D.sl (n2) 2 (cs2))]))))))))
 False))) ∨
 (∃ n2 : Nat,
 (∃ cs2 : List Go.Value,
 ((Says C 41 [(D.sl (n0) 7 (List.take (n0 * 7) (List.drop 0 l2))), (D.agg [(D.sl (n8) 1 (List.take (n8 * 1) (List.drop 0 l10))), (D.sl (n9) 1 (List.take (n9 * 1) (List.drop 0 l11)))])] [(D.sl (n2) 1 (cs2))]) ∧
 ((((Go.Value.pointer (Option.some (Go.Addr.mk 1000 2 Option.none))) = (Go.Value.pointer (Option.some (Go.Addr.mk 1000 2 Option.none)))) ∧
 (((Go.Value.pointer (Option.some (Go.Addr.mk 1000 0 Option.none))) = (Go.Value.pointer (Option.some (Go.Addr.mk 1000 0 Option.none)))) ∧
 True)) ∧
 (bcase (decide (0 + n1 * 1 ≤ List.length cs1))
 (bcase (decide (0 + n2 * 1 ≤ List.length cs2))
 (((Says C 46 [(D.sl (n1) 1 (List.take (n1 * 1) (List.drop 0 cs1))), (D.sl (n2) 1 (List.take (n2 * 1) (List.drop 0 cs2)))] [D.nil]) ∧
 ((((Go.Value.pointer (Option.some (Go.Addr.mk 1000 2 Option.none))) = (Go.Value.pointer (Option.some (Go.Addr.mk 1000 2 Option.none)))) ∧
 (((Go.Value.pointer (Option.some (Go.Addr.mk 1000 0 Option.none))) = (Go.Value.pointer (Option.some (Go.Addr.mk 1000 0 Option.none)))) ∧
 True)) ∧
 (True ∧
 (k [D.nil])))) ∨
 (∃ n5 : Nat,
 (∃ cs3 : List Go.Value,
 ((Says C 46 [(D.sl (n1) 1 (List.take (n1 * 1) (List.drop 0 cs1))), (D.sl (n2) 1 (List.take (n2 * 1) (List.drop 0 cs2)))] [(D.sl (n5) 2 (cs3))]) ∧
 ((((Go.Value.pointer (Option.some (Go.Addr.mk 1000 2 Option.none))) = (Go.Value.pointer (Option.some (Go.Addr.mk 1000 2 Option.none)))) ∧
 (((Go.Value.pointer (Option.some (Go.Addr.mk 1000 0 Option.none))) = (Go.Value.pointer (Option.some (Go.Addr.mk 1000 0 Option.none)))) ∧
 True)) ∧
 (True ∧
 ((((n5) = (n5)) ∧
 ((List.length cs3) = (n5 * 2))) ∧
 (k [(D.sl (n5) 2 (cs3))]))))))))
 False)
 False))))))
 False)
 False)
 False))))))
 False)
 False)
 False)) := by kernel_rfl
end Go.Proofs.G5b

/- Chapter 5: boxes out of lists, both of two boxes, the box after a tick, in data. -/
namespace Go.Proofs.G5b
open Go Go.Abs Go.Proofs Go.Proofs.G5
set_option maxRecDepth 100000
theorem preKOK : PreOK Try.prog (preK C5) := by
  intro g h he args ats H k hk
  unfold preK at he
  split at he
  · rename_i e
    obtain rfl := Option.some.inj he
    rw [beq_iff_eq] at e
    subst e
    exact wpState_call (fun args bs K hk => wit_ok hk) hk
  · split at he
    · obtain rfl := Option.some.inj he
      exact fixH_ok (fun _ _ _ h => h) _ _ _ _ _ hk
    · split at he
      · obtain rfl := Option.some.inj he
        exact fixH_ok (fun _ _ _ h => h) _ _ _ _ _ hk
      · split at he
        · obtain rfl := Option.some.inj he
          exact fixH_ok (fun _ _ _ h => h) _ _ _ _ _ hk
        · split at he
          · obtain rfl := Option.some.inj he
            exact saidH_ok (fun _ _ _ h => h) _ _ _ _ _ hk
          · cases he
theorem hokK : HandlerOK Try.prog (hK C5) := handlerX_ok mixed preKOK (by decide) 6
abbrev boF (a b : List Int) (j : Nat) : Int × Int := (a.getD j 0, b.getD j 0)
abbrev boS (a b : List Int) (c1 c2 : Nat) : Nat → Slots × Blocks
  | 0 => zBo1 b.length c2 a.length c1 a.length 0 (vi b) (vi a)
  | i + 1 => zBo2 b.length c2 (i + 1) a.length c1 a.length ((i + 1 : Nat) : Int) (vi b) (vp ((List.range (i + 1)).map (boF a b))) (vi a)
theorem conBo {a b : List Int} (hl : b.length = a.length) (h0 : 0 < a.length) (hn : a.length ≤ 1000) : C5 46 [.sl a.length 1 (vi a), .sl b.length 1 (vi b)] [.sl a.length 2 (vp (bxOf a b))] := by
  let inv : Nat × Nat × Nat → Prop := fun y => y.1 ≤ a.length
  let st : Nat × Nat × Nat → Slots × Blocks := fun y => boS a b y.2.1 y.2.2 y.1
  refine con_of (L := fun _ s b => ∃ x, inv x ∧ st x = (s, b)) hokE' mixed Try.func46 rfl (by show 2 ≤ 400; omega) rfl (ids := [0]) (by kernel_rfl) rfl (fun caps => ?_) (fun id hid => ?_)
  · show gBo _ _ a.length (caps 500) (vi a) b.length (caps 501) (vi b) _
    rw [gBo_text]
    exact ⟨(0, caps 500, caps 501), Nat.zero_le _, rfl⟩
  · obtain rfl := List.mem_singleton.1 hid
    refine ⟨_, st, inv, fun y => a.length - y.1, ⟨fun s b h => h, by kernel_rfl, ?_⟩⟩
    rintro ⟨i, c1, c2⟩ hi
    have hi : i ≤ a.length := hi
    have wi : i < a.length → IntKind.wrap .i64 ((i : Int) + 1) = ((i + 1 : Nat) : Int) := fun h => by rw [w64 (by omega) (by omega)]; rfl
    cases i with
    | zero =>
      show rBo1 _ _ b.length c2 a.length c1 a.length ((0 : Nat) : Int) (vi b) (vi a) _ _ _
      rw [rBo1_text]
      simp only [bc_t (show ((0 : Nat) : Int) < (a.length : Int) by omega), bc_t (show ((0 : Nat) : Int) < (b.length : Int) by omega), bc_t (show (0 : Int) ≤ ((0 : Nat) : Int) by omega), Int.toNat_natCast, at1 (vi_at a 0 h0), at1 (vi_at b 0 (by omega)), wi h0]
      refine ⟨(1, c1, c2), h0, by show a.length - 1 < a.length - 0; omega, ?_⟩
      rw [← gd_at (d := 0) h0, ← gd_at (d := 0) (show 0 < b.length by omega)]
      rfl
    | succ i =>
      show rBo2 _ _ b.length c2 (i + 1) a.length c1 a.length ((i + 1 : Nat) : Int) (vi b) (vp ((List.range (i + 1)).map (boF a b))) (vi a) _ _ _
      rw [rBo2_text]
      refine bc_dec (fun h => ?_) (fun h => ?_)
      · have h1 : i + 1 < a.length := by omega
        simp only [bc_t h, bc_t (show ((i + 1 : Nat) : Int) < (b.length : Int) by omega), bc_t (show (0 : Int) ≤ ((i + 1 : Nat) : Int) by omega), Int.toNat_natCast, at1 (vi_at a (i + 1) h1), at1 (vi_at b (i + 1) (by omega)), wi h1, rp_take]
        refine bc_yes (by omega) (bc_yes (by omega) (bc_yes (by omega) (bc_yes (by simp) (bc_yes (by simp) ⟨(i + 2, c1, c2), h1, by show a.length - (i + 2) < a.length - (i + 1); omega, ?_⟩))))
        have e := rp_snoc (boF a b) (i + 1)
        rw [← gd_at (d := 0) h1, ← gd_at (d := 0) (show i + 1 < b.length by omega)]
        show (_, [(501, AObj.sym (vi b) false 1), (1000, AObj.sym (vp ((List.range (i + 1 + 1)).map (boF a b))) true 2), (500, AObj.sym (vi a) false 1)]) = _
        rw [← e]
      · show (if 0 = 0 then _ else _)
        rw [if_pos rfl]
        show nBo4 _ _ (i + 1) (vp ((List.range (i + 1)).map (boF a b))) _
        rw [nBo4_text]
        refine ⟨⟨rfl, by simp⟩, ?_⟩
        have : i + 1 = a.length := by omega
        show _ = _
        rw [bxOf, ← this]
abbrev bbF (a b : Bxs) (j : Nat) : Int × Int := (mnI (a.getD j (0, 0)).1 (b.getD j (0, 0)).1, mxI (a.getD j (0, 0)).2 (b.getD j (0, 0)).2)
abbrev bbS (a b : Bxs) (c1 c2 : Nat) : Nat → Slots × Blocks
  | 0 => zBb1 b.length c2 a.length c1 a.length 0 (vp b) (vp a)
  | i + 1 => zBb2 b.length c2 (i + 1) a.length c1 a.length ((i + 1 : Nat) : Int) (vp b) (vp ((List.range (i + 1)).map (bbF a b))) (vp a)
theorem conBb {a b : Bxs} (hl : b.length = a.length) (h0 : 0 < a.length) (hn : a.length ≤ 1000) : C5 47 [.sl a.length 2 (vp a), .sl b.length 2 (vp b)] [.sl a.length 2 (vp (bth a b))] := by
  let inv : Nat × Nat × Nat → Prop := fun y => y.1 ≤ a.length
  let st : Nat × Nat × Nat → Slots × Blocks := fun y => bbS a b y.2.1 y.2.2 y.1
  refine con_of (L := fun _ s b => ∃ x, inv x ∧ st x = (s, b)) hokE' mixed Try.func47 rfl (by show 2 ≤ 400; omega) rfl (ids := [0]) (by kernel_rfl) rfl (fun caps => ?_) (fun id hid => ?_)
  · show gBb _ _ a.length (caps 500) (vp a) b.length (caps 501) (vp b) _
    rw [gBb_text]
    exact ⟨(0, caps 500, caps 501), Nat.zero_le _, rfl⟩
  · obtain rfl := List.mem_singleton.1 hid
    refine ⟨_, st, inv, fun y => a.length - y.1, ⟨fun s b h => h, by kernel_rfl, ?_⟩⟩
    rintro ⟨i, c1, c2⟩ hi
    have hi : i ≤ a.length := hi
    have wi : i < a.length → IntKind.wrap .i64 ((i : Int) + 1) = ((i + 1 : Nat) : Int) := fun h => by rw [w64 (by omega) (by omega)]; rfl
    have ev : ∀ (h : i < a.length), (if (b[i]'(by omega)).1 < a[i].1 then (b[i]'(by omega)).1 else a[i].1) = (bbF a b i).1 ∧ (if (b[i]'(by omega)).2 > a[i].2 then (b[i]'(by omega)).2 else a[i].2) = (bbF a b i).2 := by
      intro h
      rw [bbF, gd_at h, gd_at (show i < b.length by omega)]
      exact ⟨rfl, rfl⟩
    cases i with
    | zero =>
      show rBb1 _ _ b.length c2 a.length c1 a.length ((0 : Nat) : Int) (vp b) (vp a) _ _ _
      rw [rBb1_text]
      simp only [bc_t (show ((0 : Nat) : Int) < (a.length : Int) by omega), bc_t (show ((0 : Nat) : Int) < (b.length : Int) by omega), bc_t (show (0 : Int) ≤ ((0 : Nat) : Int) by omega), Int.toNat_natCast, at2 (vp_two a 0 h0), at1 (vp_one b 0 (by omega)), at1 (vp_sndA b 0 (by omega) 501), wi h0, eq_self, true_and, and_true]
      refine ⟨(1, c1, c2), h0, by show a.length - 1 < a.length - 0; omega, ?_⟩
      have := ev h0
      rw [this.1, this.2]
      rfl
    | succ i =>
      show rBb2 _ _ b.length c2 (i + 1) a.length c1 a.length ((i + 1 : Nat) : Int) (vp b) (vp ((List.range (i + 1)).map (bbF a b))) (vp a) _ _ _
      rw [rBb2_text]
      refine bc_dec (fun h => ?_) (fun h => ?_)
      · have h1 : i + 1 < a.length := by omega
        simp only [bc_t h, bc_t (show ((i + 1 : Nat) : Int) < (b.length : Int) by omega), bc_t (show (0 : Int) ≤ ((i + 1 : Nat) : Int) by omega), Int.toNat_natCast, at2 (vp_two a (i + 1) h1), at1 (vp_one b (i + 1) (by omega)), at1 (vp_sndA b (i + 1) (by omega) 501), wi h1, rp_take, eq_self, true_and, and_true]
        refine bc_yes (by omega) (bc_yes (by omega) (bc_yes (by omega) (bc_yes (by simp) (bc_yes (by simp) ⟨(i + 2, c1, c2), h1, by show a.length - (i + 2) < a.length - (i + 1); omega, ?_⟩))))
        have e := rp_snoc (bbF a b) (i + 1)
        have := ev h1
        rw [this.1, this.2]
        show (_, [(501, AObj.sym (vp b) false 2), (1000, AObj.sym (vp ((List.range (i + 1 + 1)).map (bbF a b))) true 2), (500, AObj.sym (vp a) false 2)]) = _
        rw [← e]
      · show (if 0 = 0 then _ else _)
        rw [if_pos rfl]
        show nBb4 _ _ (i + 1) (vp ((List.range (i + 1)).map (bbF a b))) _
        rw [nBb4_text]
        refine ⟨⟨rfl, by simp⟩, ?_⟩
        have : i + 1 = a.length := by omega
        show _ = _
        rw [bth, ← this]
abbrev gt (l : List Int) (j : Nat) : Int := l.getD j 0
theorem gt_all (l : List Int) : (List.range l.length).map (gt l) = l := by
  apply List.ext_getElem
  · simp
  · intro i h1 h2
    simp [gt, List.getD, h2]
abbrev vg (l : List Int) (n : Nat) : List Value := vi ((List.range n).map (gt l))
abbrev S4 (n : Nat) : List Value := [.slice (some ⟨1001, 0, none⟩) n n, .slice (some ⟨1002, 0, none⟩) n n, .slice (some ⟨1003, 0, none⟩) n n, .slice (some ⟨1004, 0, none⟩) n n]
abbrev baO (ps : List Sv) (b : Bxs) (c1 c3 : Nat) : Nat → Slots × Blocks
  | 0 => zBa1 ps.length c1 b.length c3 (vs7 ps) (vp b)
  | 1 => zBa7 ps.length c1 b.length c3 (vs7 ps) (vp b) b.length b.length (vg (los b) b.length) (vg (dls ps) b.length)
  | _ => ([(0, (Value.slice (some ⟨500, 0, none⟩) ps.length c1)), (1, (Value.slice (some ⟨501, 0, none⟩) b.length c3)), (5, (Value.pointer (some ⟨1000, 0, none⟩))), (9, (Value.int .i64 (2)))], [(500, (AObj.sym (vs7 ps) false 7)), (501, (AObj.sym (vp b) false 2)), (1000, (AObj.cells (S4 b.length) 123 false 2)), (1001, (AObj.sym (vg (los b) b.length) true 1)), (1002, (AObj.sym (vg (dls ps) b.length) true 1)), (1003, (AObj.sym (vg (his b) b.length) true 1)), (1004, (AObj.sym (vg (dhs ps) b.length) true 1))])
abbrev baA (ps : List Sv) (b : Bxs) (c1 c3 : Nat) : Nat → Slots × Blocks
  | 0 => zBa2 ps.length c1 b.length c3 b.length c3 b.length 0 (vs7 ps) (vp b)
  | i + 1 => zBa3 ps.length c1 b.length c3 b.length c3 b.length ((i + 1 : Nat) : Int) (vs7 ps) (vp b) (i + 1) (i + 1) (vg (los b) (i + 1)) (vg (dls ps) (i + 1))
abbrev baB (ps : List Sv) (b : Bxs) (c1 c3 : Nat) : Nat → Slots × Blocks
  | 0 => zBa9 ps.length c1 b.length c3 b.length c3 b.length 0 (vs7 ps) (vp b) b.length b.length (vg (los b) b.length) (vg (dls ps) b.length)
  | i + 1 => zBa12 ps.length c1 b.length c3 b.length c3 b.length ((i + 1 : Nat) : Int) (vs7 ps) (vp b) b.length b.length (i + 1) (i + 1) (vg (los b) b.length) (vg (dls ps) b.length) (vg (his b) (i + 1)) (vg (dhs ps) (i + 1))
theorem conBa {ps : List Sv} {b : Bxs} (hv : ∀ p ∈ ps, LpV p) (hl : b.length = ps.length) (h1 : ∀ h ∈ los b, hgt h) (h2 : ∀ h ∈ his b, hgt h) (h0 : 0 < ps.length) (hn : ps.length ≤ 1000) :
    C5 45 [.sl ps.length 7 (vs7 ps), .sl b.length 2 (vp b)] [.sl ps.length 2 (vp (img ps b))] := by
  refine con_J hokK mixed [] (L := fun _ s bl => ∃ y : Nat × Nat × Nat, y.1 ≤ 2 ∧ baO ps b y.2.1 y.2.2 y.1 = (s, bl)) Try.func45 rfl (by show 2 ≤ 400; omega) rfl (pts := [0]) (loops := [0]) (by kernel_rfl) (by kernel_rfl) (fun caps _ => ?_) (fun id q1 q2 => absurd q1 q2) (fun id hid => ?_)
  · show gBa _ _ ps.length (caps 500) (vs7 ps) b.length (caps 501) (vp b) _
    rw [gBa_text]
    exact ⟨(0, caps 500, caps 501), by show 0 ≤ 2; omega, rfl⟩
  · obtain rfl := List.mem_singleton.1 hid
    have hlb : ∀ {i : Nat}, i < b.length → ((i : Int) < (b.length : Int) ∧ (i : Int) < (ps.length : Int)) := fun h => ⟨by omega, by omega⟩
    refine ⟨⟨Nat × Nat × Nat, fun y => baO ps b y.2.1 y.2.2 y.1, fun y => y.1 ≤ 2, fun y => 3 - y.1, fun s bl h => h, [2], [2], by kernel_rfl, by kernel_rfl, ?_⟩⟩
    rintro ⟨e, c1, c3⟩ he
    have he : e ≤ 2 := he
    match e, he with
    | 0, _ =>
      refine ⟨fun _ s bl => ∃ i, i ≤ b.length ∧ baA ps b c1 c3 i = (s, bl), ?_, fun id2 q1 q2 => absurd q1 q2, fun id2 hid2 => ?_⟩
      · show rBa1 _ _ ps.length c1 b.length c3 (vs7 ps) (vp b) _ _ _
        rw [rBa1_text]
        exact ⟨0, Nat.zero_le _, rfl⟩
      · obtain rfl := List.mem_singleton.1 hid2
        refine ⟨⟨Nat, baA ps b c1 c3, fun i => i ≤ b.length, fun i => b.length - i, fun s bl h => h, [], by kernel_rfl, by kernel_rfl, fun i hi => ⟨fun _ _ _ => False, ?_, fun id3 h3 => by cases h3⟩⟩⟩
        have wi : i < b.length → IntKind.wrap .i64 ((i : Int) + 1) = ((i + 1 : Nat) : Int) := fun h => by rw [w64 (by omega) (by omega)]; rfl
        cases i with
        | zero =>
          show rBa2 _ _ ps.length c1 b.length c3 b.length c3 b.length ((0 : Nat) : Int) (vs7 ps) (vp b) _ _ _
          rw [rBa2_text]
          have hb0 : 0 < b.length := by omega
          simp only [bc_t (hlb hb0).1, bc_t (hlb hb0).2, bc_t (show (0 : Int) ≤ ((0 : Nat) : Int) by omega), Int.toNat_natCast, at2 (vp_two b 0 hb0), at2 (vs7_de ps 0 h0 500), wi hb0, eq_self, true_and, and_true]
          refine ⟨1, hb0, by omega, ?_⟩
          rw [← los_at hb0, ← dls_at h0]; rfl
        | succ i =>
          show rBa3 _ _ ps.length c1 b.length c3 b.length c3 b.length ((i + 1 : Nat) : Int) (vs7 ps) (vp b) (i + 1) (i + 1) (vg (los b) (i + 1)) (vg (dls ps) (i + 1)) _ _ _
          rw [rBa3_text]
          refine bc_dec (fun h => ?_) (fun h => ?_)
          · have hb1 : i + 1 < b.length := by omega
            have hp1 : i + 1 < ps.length := by omega
            simp only [bc_t (hlb hb1).1, bc_t (hlb hb1).2, bc_t (show (0 : Int) ≤ ((i + 1 : Nat) : Int) by omega), Int.toNat_natCast, at2 (vp_two b (i + 1) hb1), at2 (vs7_de ps (i + 1) hp1 500), wi hb1, rg_take, eq_self, true_and, and_true]
            refine bc_yes (by omega) (bc_yes (by omega) (bc_yes (by omega) (bc_yes (by simp) (bc_yes (by simp) (bc_yes (by omega) (bc_yes (by omega) (bc_yes (by omega) (bc_yes (by simp) (bc_yes (by simp) ⟨i + 2, hb1, by omega, ?_⟩)))))))))
            rw [← los_at hb1, ← dls_at hp1]
            have e1 : vi ((List.range (i + 1)).map (gt (los b))) ++ [vI ((los b).getD (i + 1) 0)] = vg (los b) (i + 2) := rg_snoc (gt (los b)) (i + 1)
            have e2 : vi ((List.range (i + 1)).map (gt (dls ps))) ++ [vI ((dls ps).getD (i + 1) 0)] = vg (dls ps) (i + 2) := rg_snoc (gt (dls ps)) (i + 1)
            rw [e1, e2]
          · show (if 2 = 2 then _ else _)
            rw [if_pos rfl]
            show iBa5 _ _ ps.length c1 b.length c3 (vs7 ps) (vp b) (i + 1) (i + 1) (vg (los b) (i + 1)) (vg (dls ps) (i + 1)) _ _ _
            rw [iBa5_text]
            have : i + 1 = b.length := by omega
            exact ⟨(1, c1, c3), by show 1 ≤ 2; omega, by show 3 - 1 < 3 - 0; omega, by rw [this]; rfl⟩
    | 1, _ =>
      refine ⟨fun _ s bl => ∃ i, i ≤ b.length ∧ baB ps b c1 c3 i = (s, bl), ?_, fun id2 q1 q2 => absurd q1 q2, fun id2 hid2 => ?_⟩
      · show rBa7 _ _ ps.length c1 b.length c3 (vs7 ps) (vp b) b.length b.length (vg (los b) b.length) (vg (dls ps) b.length) _ _ _
        rw [rBa7_text]
        exact ⟨0, Nat.zero_le _, rfl⟩
      · obtain rfl := List.mem_singleton.1 hid2
        refine ⟨⟨Nat, baB ps b c1 c3, fun i => i ≤ b.length, fun i => b.length - i, fun s bl h => h, [], by kernel_rfl, by kernel_rfl, fun i hi => ⟨fun _ _ _ => False, ?_, fun id3 h3 => by cases h3⟩⟩⟩
        have wi : i < b.length → IntKind.wrap .i64 ((i : Int) + 1) = ((i + 1 : Nat) : Int) := fun h => by rw [w64 (by omega) (by omega)]; rfl
        cases i with
        | zero =>
          show rBa9 _ _ ps.length c1 b.length c3 b.length c3 b.length ((0 : Nat) : Int) (vs7 ps) (vp b) b.length b.length (vg (los b) b.length) (vg (dls ps) b.length) _ _ _
          rw [rBa9_text]
          have hb0 : 0 < b.length := by omega
          simp only [bc_t (hlb hb0).1, bc_t (hlb hb0).2, bc_t (show (0 : Int) ≤ ((0 : Nat) : Int) by omega), Int.toNat_natCast, at2 (vp_two b 0 hb0), at2 (vs7_de ps 0 h0 500), wi hb0, eq_self, true_and, and_true]
          refine ⟨1, hb0, by omega, ?_⟩
          rw [← his_at hb0, ← dhs_at h0]; rfl
        | succ i =>
          show rBa12 _ _ ps.length c1 b.length c3 b.length c3 b.length ((i + 1 : Nat) : Int) (vs7 ps) (vp b) b.length b.length (i + 1) (i + 1) (vg (los b) b.length) (vg (dls ps) b.length) (vg (his b) (i + 1)) (vg (dhs ps) (i + 1)) _ _ _
          rw [rBa12_text]
          refine bc_dec (fun h => ?_) (fun h => ?_)
          · have hb1 : i + 1 < b.length := by omega
            have hp1 : i + 1 < ps.length := by omega
            simp only [bc_t (hlb hb1).1, bc_t (hlb hb1).2, bc_t (show (0 : Int) ≤ ((i + 1 : Nat) : Int) by omega), Int.toNat_natCast, at2 (vp_two b (i + 1) hb1), at2 (vs7_de ps (i + 1) hp1 500), wi hb1, rg_take, eq_self, true_and, and_true]
            refine bc_yes (by omega) (bc_yes (by omega) (bc_yes (by omega) (bc_yes (by simp) (bc_yes (by simp) (bc_yes (by omega) (bc_yes (by omega) (bc_yes (by omega) (bc_yes (by simp) (bc_yes (by simp) ⟨i + 2, hb1, by omega, ?_⟩)))))))))
            rw [← his_at hb1, ← dhs_at hp1]
            have e1 : vi ((List.range (i + 1)).map (gt (his b))) ++ [vI ((his b).getD (i + 1) 0)] = vg (his b) (i + 2) := rg_snoc (gt (his b)) (i + 1)
            have e2 : vi ((List.range (i + 1)).map (gt (dhs ps))) ++ [vI ((dhs ps).getD (i + 1) 0)] = vg (dhs ps) (i + 2) := rg_snoc (gt (dhs ps)) (i + 1)
            rw [e1, e2]
          · show (if 2 = 2 then _ else _)
            rw [if_pos rfl]
            show iBa16 _ _ ps.length c1 b.length c3 (vs7 ps) (vp b) b.length b.length (i + 1) (i + 1) (vg (los b) b.length) (vg (dls ps) b.length) (vg (his b) (i + 1)) (vg (dhs ps) (i + 1)) _ _ _
            rw [iBa16_text]
            have : i + 1 = b.length := by omega
            exact ⟨(2, c1, c3), by show 2 ≤ 2; omega, by show 3 - 2 < 3 - 1; omega, by rw [this]; rfl⟩
    | 2, _ =>
      refine ⟨fun _ _ _ => False, ?_, fun id2 q1 q2 => absurd q1 q2, fun id2 hid2 => ?_⟩
      · show rBa20 _ _ ps.length c1 b.length c3 (vs7 ps) (vp b) b.length b.length b.length b.length (vg (los b) b.length) (vg (dls ps) b.length) (vg (his b) b.length) (vg (dhs ps) b.length) _ _ _
        rw [rBa20_text]
        show (if 0 = 0 then _ else _)
        rw [if_pos rfl]
        have g1 : vg (los b) b.length = vi (los b) := by rw [← los_length b, vg, gt_all]
        have g2 : vg (dls ps) b.length = vi (dls ps) := by rw [hl, ← dls_length ps, vg, gt_all]
        have g3 : vg (his b) b.length = vi (his b) := by rw [← his_length b, vg, gt_all]
        have g4 : vg (dhs ps) b.length = vi (dhs ps) := by rw [hl, ← dhs_length ps, vg, gt_all]
        rw [g1, g2, g3, g4]
        show nBa30 _ _ ps.length c1 (vs7 ps) b.length b.length b.length b.length (vi (los b)) (vi (dls ps)) (vi (his b)) (vi (dhs ps)) _
        rw [nBa30_text]
        have d1 : ∀ h ∈ dls ps, hgt h := by
          intro h hh; obtain ⟨p, hp, rfl⟩ := List.mem_map.1 hh; exact (hv p hp).d
        have d2 : ∀ h ∈ dhs ps, hgt h := by
          intro h hh; obtain ⟨p, hp, rfl⟩ := List.mem_map.1 hh; exact (hv p hp).e
        have a1 := conAe hv h1 d1 h0 (by simp [hl]) (by simp) hn
        have a2 := conAe hv h2 d2 h0 (by simp [hl]) (by simp) hn
        have a3 := conBo (a := aft ps (los b) (dls ps)) (b := aft ps (his b) (dhs ps)) (by simp [aft_length]) (by rw [aft_length]; exact h0) (by rw [aft_length]; exact hn)
        simp only [los_length, his_length, dls_length, dhs_length, hl, aft_length] at a1 a2 a3
        have w1 : List.take (ps.length * 1) (List.drop 0 (vi (los b))) = vi (los b) := by rw [List.drop_zero, List.take_of_length_le (by simp [hl])]
        have w2 : List.take (ps.length * 1) (List.drop 0 (vi (dls ps))) = vi (dls ps) := by rw [List.drop_zero, List.take_of_length_le (by simp)]
        have w3 : List.take (ps.length * 1) (List.drop 0 (vi (his b))) = vi (his b) := by rw [List.drop_zero, List.take_of_length_le (by simp [hl])]
        have w4 : List.take (ps.length * 1) (List.drop 0 (vi (dhs ps))) = vi (dhs ps) := by rw [List.drop_zero, List.take_of_length_le (by simp)]
        have w5 : ∀ x y : List Int, List.take (ps.length * 1) (List.drop 0 (vi (aft ps x y))) = vi (aft ps x y) := fun x y => rg_take _ _
        have l1 : ∀ x : List Int, x.length = ps.length → 0 + ps.length * 1 ≤ (vi x).length := fun x hx => by rw [vi_length, hx]; omega
        have la := fun x y => aft_length ps x y
        simp only [hl, vs7_whole, bc_t (v7le ps), bc_t (l1 (los b) (by simp [hl])), bc_t (l1 (his b) (by simp [hl])), bc_t (l1 (dls ps) (by simp)), bc_t (l1 (dhs ps) (by simp)), w1, w2, w3, w4, true_and]
        refine .inr ⟨_, _, ⟨a1⟩, .inr ⟨_, _, ⟨a2⟩, ?_⟩⟩
        simp only [bc_t (l1 (aft ps (los b) (dls ps)) (la _ _)), bc_t (l1 (aft ps (his b) (dhs ps)) (la _ _)), w5, true_and]
        refine .inr ⟨_, _, ⟨a3⟩, ?_, rfl⟩
        simp [aft_length]
      · obtain rfl := List.mem_singleton.1 hid2
        exact ⟨⟨Nat, fun _ => ([], []), fun _ => False, fun _ => 0, fun s bl h => h.elim, [], by kernel_rfl, by kernel_rfl, fun i hi => hi.elim⟩⟩
end Go.Proofs.G5b
