/- Texts of the proof, put together: GbTB, GbB5, GbTC, GbB6, GbB7, GbB8, G5Y, GbB9, GbBA, GbTD, G5Z, GbBB, GbTE, GbBC, GbTF, G5W, GbBH, AbsShort. -/
import Derived.Test.YtekodcjnlkfipaaP7
import Derived.Test.YtekodcjnlkfipaaP3
/- What is left to show of each function, written out; the kernel reckons it. -/
namespace Go.Proofs.G5b
open Go Go.Abs Go.Proofs
set_option maxRecDepth 100000
set_option linter.unusedVariables false
abbrev T501 (l : List Value) : Nat × AObj := (501, .sym l false 2)
abbrev S1000 (n : Nat) : Value := .slice (some ⟨1000, 0, none⟩) n n
def copyRg : List D → Option (List D) := fun ds => match ds with | [.sl n es cs] => some [.sl n es cs] | [.nil] => some [.sl 0 2 []] | _ => none
def preK (C : Ct) : FuncId → Option Handler := fun g => if g == 66 then some (stateH (witAll 3 56 30)) else if g == 20 then some (fixH C copyInts) else if g == 18 then some (fixH C copyRg) else if g == 10 then some (fixH C copyChain) else if [7, 37, 38, 34, 35, 42, 9, 13, 67, 43, 41, 16, 11, 14, 15, 26, 21, 8, 45, 46, 47, 48, 49, 17, 19, 50, 22, 23, 24].contains g then some (saidH Try.prog C) else none
abbrev hK (C : Ct) : Handler := handlerX Try.prog (preK C) 12 6
def gBa (C : Ct) (L : AtLoop) (n0 : Nat) (c0 : Nat) (l0 : List Value) (n1 : Nat) (c1 : Nat) (l1 : List Value) (k : List D → Prop) : Prop := jFn Try.prog (hK C) L [] 45 #[.slice (some ⟨500, 0, none⟩) n0 c0, .slice (some ⟨501, 0, none⟩) n1 c1] (heapOf [(500, .sym l0 false 7), (501, .sym l1 false 2)]) (dataK k)
theorem gBa_text (C : Ct) (L : AtLoop) (n0 : Nat) (c0 : Nat) (l0 : List Go.Value) (n1 : Nat) (c1 : Nat) (l1 : List Go.Value) (k : List D → Prop) : gBa C L n0 c0 l0 n1 c1 l1 k =
 (L 0 [(Prod.mk 0 (Go.Value.slice (Option.some (Go.Addr.mk 500 0 Option.none)) (n0) (c0))), (Prod.mk 1 (Go.Value.slice (Option.some (Go.Addr.mk 501 0 Option.none)) (n1) (c1))), (Prod.mk 5 (Go.Value.pointer (Option.some (Go.Addr.mk 1000 0 Option.none)))), (Prod.mk 9 (vI (0 : Int)))] [(Prod.mk 500 (AObj.sym (l0) false 7)), (Prod.mk 501 (AObj.sym (l1) false 2)), (Prod.mk 1000 (AObj.cells [(Go.Value.slice Option.none 0 0), (Go.Value.slice Option.none 0 0), (Go.Value.slice Option.none 0 0), (Go.Value.slice Option.none 0 0)] 123 false 2))]) := by kernel_rfl
abbrev zBa1 (n0 : Nat) (c1 : Nat) (n2 : Nat) (c3 : Nat) (l4 : List Value) (l5 : List Value) : Slots × Blocks := ([(0, (Value.slice (some ⟨500, 0, none⟩) n0 c1)), (1, (Value.slice (some ⟨501, 0, none⟩) n2 c3)), (5, (Value.pointer (some ⟨1000, 0, none⟩))), (9, (Value.int .i64 (0)))], [(500, (AObj.sym l4 false 7)), (501, (AObj.sym l5 false 2)), (1000, (AObj.cells [(Value.slice none 0 0), (Value.slice none 0 0), (Value.slice none 0 0), (Value.slice none 0 0)] 123 false 2))])
def rBa1 (C : Ct) (L : AtLoop) (n0 : Nat) (c1 : Nat) (n2 : Nat) (c3 : Nat) (l4 : List Value) (l5 : List Value) (B : Bx) (X : Xx) (k : List D → Prop) : Prop := jRound Try.prog (hK C) L [] 45 0 [(0, (Value.slice (some ⟨500, 0, none⟩) n0 c1)), (1, (Value.slice (some ⟨501, 0, none⟩) n2 c3)), (5, (Value.pointer (some ⟨1000, 0, none⟩))), (9, (Value.int .i64 (0)))] [(500, (AObj.sym l4 false 7)), (501, (AObj.sym l5 false 2)), (1000, (AObj.cells [(Value.slice none 0 0), (Value.slice none 0 0), (Value.slice none 0 0), (Value.slice none 0 0)] 123 false 2))] B X (dataK k)
theorem rBa1_text (C : Ct) (L : AtLoop) (n0 : Nat) (c1 : Nat) (n2 : Nat) (c3 : Nat) (l4 : List Go.Value) (l5 : List Go.Value) (B : Bx) (X : Xx) (k : List D → Prop) : rBa1 C L n0 c1 n2 c3 l4 l5 B X k =
 (L 2 [(Prod.mk 0 (Go.Value.slice (Option.some (Go.Addr.mk 500 0 Option.none)) (n0) (c1))), (Prod.mk 1 (Go.Value.slice (Option.some (Go.Addr.mk 501 0 Option.none)) (n2) (c3))), (Prod.mk 5 (Go.Value.pointer (Option.some (Go.Addr.mk 1000 0 Option.none)))), (Prod.mk 6 (vI (0 : Int))), (Prod.mk 9 (vI (0 : Int))), (Prod.mk 12 (Go.Value.slice (Option.some (Go.Addr.mk 501 0 Option.none)) (n2) (c3))), (Prod.mk 13 (vI ((↑n2 : Int)))), (Prod.mk 14 (vI (0 : Int)))] [(Prod.mk 500 (AObj.sym (l4) false 7)), (Prod.mk 501 (AObj.sym (l5) false 2)), (Prod.mk 1000 (AObj.cells [(Go.Value.slice Option.none 0 0), (Go.Value.slice Option.none 0 0), (Go.Value.slice Option.none 0 0), (Go.Value.slice Option.none 0 0)] 123 false 2))]) := by kernel_rfl
abbrev zBa2 (n0 : Nat) (c1 : Nat) (n2 : Nat) (c3 : Nat) (n4 : Nat) (c5 : Nat) (x6 : Int) (x7 : Int) (l8 : List Value) (l9 : List Value) : Slots × Blocks := ([(0, (Value.slice (some ⟨500, 0, none⟩) n0 c1)), (1, (Value.slice (some ⟨501, 0, none⟩) n2 c3)), (5, (Value.pointer (some ⟨1000, 0, none⟩))), (6, (Value.int .i64 (0))), (9, (Value.int .i64 (0))), (12, (Value.slice (some ⟨501, 0, none⟩) n4 c5)), (13, (Value.int .i64 x6)), (14, (Value.int .i64 x7))], [(500, (AObj.sym l8 false 7)), (501, (AObj.sym l9 false 2)), (1000, (AObj.cells [(Value.slice none 0 0), (Value.slice none 0 0), (Value.slice none 0 0), (Value.slice none 0 0)] 123 false 2))])
def rBa2 (C : Ct) (L : AtLoop) (n0 : Nat) (c1 : Nat) (n2 : Nat) (c3 : Nat) (n4 : Nat) (c5 : Nat) (x6 : Int) (x7 : Int) (l8 : List Value) (l9 : List Value) (B : Bx) (X : Xx) (k : List D → Prop) : Prop := jRound2 Try.prog (hK C) L [] 45 0 2 [(0, (Value.slice (some ⟨500, 0, none⟩) n0 c1)), (1, (Value.slice (some ⟨501, 0, none⟩) n2 c3)), (5, (Value.pointer (some ⟨1000, 0, none⟩))), (6, (Value.int .i64 (0))), (9, (Value.int .i64 (0))), (12, (Value.slice (some ⟨501, 0, none⟩) n4 c5)), (13, (Value.int .i64 x6)), (14, (Value.int .i64 x7))] [(500, (AObj.sym l8 false 7)), (501, (AObj.sym l9 false 2)), (1000, (AObj.cells [(Value.slice none 0 0), (Value.slice none 0 0), (Value.slice none 0 0), (Value.slice none 0 0)] 123 false 2))] B X (dataK k)
theorem rBa2_text (C : Ct) (L : AtLoop) (n0 : Nat) (c1 : Nat) (n2 : Nat) (c3 : Nat) (n4 : Nat) (c5 : Nat) (x6 : Int) (x7 : Int) (l8 : List Go.Value) (l9 : List Go.Value) (B : Bx) (X : Xx) (k : List D → Prop) : rBa2 C L n0 c1 n2 c3 n4 c5 x6 x7 l8 l9 B X k =
 (bcase (decide (x7 < x6))
 (bcase (decide (0 ≤ x7))
 (bcase (decide (x7 < (↑n4 : Int)))
 (∃ n1 : Int,
 (∃ n3 : Int,
 ((At (l9) (0 + Int.toNat x7 * 2) 2 [(vI n1), (vI n3)]) ∧
 ((((vI (0 : Int)) = (vI (0 : Int))) ∧
 (((Go.Value.agg [(vI n1), (vI n3)].toArray) = (Go.Value.agg [(vI n1), (vI n3)].toArray)) ∧
 (((Go.Value.slice Option.none 0 0) = (Go.Value.slice Option.none 0 0)) ∧
 (((Go.Value.pointer (Option.some (Go.Addr.mk 1000 0 Option.none))) = (Go.Value.pointer (Option.some (Go.Addr.mk 1000 0 Option.none)))) ∧
 (((Go.Value.pointer (Option.some (Go.Addr.mk 1000 0 Option.none))) = (Go.Value.pointer (Option.some (Go.Addr.mk 1000 0 Option.none)))) ∧
 (((vI (0 : Int)) = (vI (0 : Int))) ∧
 (((vI (0 : Int)) = (vI (0 : Int))) ∧
 True))))))) ∧
 (((((Go.Value.slice (Option.some (Go.Addr.mk 1004 0 Option.none)) 1 1) = (Go.Value.slice (Option.some (Go.Addr.mk 1004 0 Option.none)) 1 1)) ∧
 ((Option.some (AObj.cells [(vI n1)] 3 false 1)) = (Option.some (AObj.cells [(vI n1)] 3 false 1)))) ∧
 (((vI n1) = (vI n1)) ∧
 (((vI (0 : Int)) = (vI (0 : Int))) ∧
 (((Go.Value.slice Option.none 0 0) = (Go.Value.slice Option.none 0 0)) ∧
 (((Go.Value.pointer (Option.some (Go.Addr.mk 1000 0 Option.none))) = (Go.Value.pointer (Option.some (Go.Addr.mk 1000 0 Option.none)))) ∧
 (((Go.Value.pointer (Option.some (Go.Addr.mk 1000 0 Option.none))) = (Go.Value.pointer (Option.some (Go.Addr.mk 1000 0 Option.none)))) ∧
 (((vI (0 : Int)) = (vI (0 : Int))) ∧
 (((vI (0 : Int)) = (vI (0 : Int))) ∧
 True)))))))) ∧
 ((((Go.Value.pointer (Option.some (Go.Addr.mk 1000 0 Option.none))) = (Go.Value.pointer (Option.some (Go.Addr.mk 1000 0 Option.none)))) ∧
 (((Go.Value.pointer (Option.some (Go.Addr.mk 1000 0 Option.none))) = (Go.Value.pointer (Option.some (Go.Addr.mk 1000 0 Option.none)))) ∧
 (((vI n1) = (vI n1)) ∧
 (((vI (0 : Int)) = (vI (0 : Int))) ∧
 (((Go.Value.pointer (Option.some (Go.Addr.mk 1000 0 Option.none))) = (Go.Value.pointer (Option.some (Go.Addr.mk 1000 0 Option.none)))) ∧
 (((Go.Value.pointer (Option.some (Go.Addr.mk 1000 0 Option.none))) = (Go.Value.pointer (Option.some (Go.Addr.mk 1000 0 Option.none)))) ∧
 (((vI (0 : Int)) = (vI (0 : Int))) ∧
 (((vI (0 : Int)) = (vI (0 : Int))) ∧
 True)))))))) ∧
 ((((Go.Value.pointer (Option.some (Go.Addr.mk 1000 0 Option.none))) = (Go.Value.pointer (Option.some (Go.Addr.mk 1000 0 Option.none)))) ∧
 True) ∧
 (bcase (decide (0 ≤ x7))
 (bcase (decide (x7 < (↑n0 : Int)))
 (∃ n5 : Int,
 (∃ n6 : Int,
 ((At (l8) (Go.Addr.off { block := 500, off := 0 + Int.toNat x7 * 7 } + 3) 2 [(vI n5), (vI n6)]) ∧
 ((((vI (0 : Int)) = (vI (0 : Int))) ∧
 ((∃ n7 : Int,
 (∃ n8 : Int,
 ((At (l8) (Go.Addr.off { block := 500, off := 0 + Int.toNat x7 * 7 } + 3) 2 [(vI n7), (vI n8)]) ∧
 ((Go.Value.agg [(vI n7), (vI n8)].toArray) = (Go.Value.agg [(vI n5), (vI n6)].toArray))))) ∧
 (((Go.Value.pointer (Option.some (Go.Addr.mk 500 (Go.Addr.off { block := 500, off := 0 + Int.toNat x7 * 7 } + 3) Option.none))) = (Go.Value.pointer (Option.some (Go.Addr.mk 500 (Go.Addr.off { block := 500, off := 0 + Int.toNat x7 * 7 } + 3) Option.none)))) ∧
 ((bcase (decide (0 ≤ x7))
 (bcase (decide (x7 < (↑n0 : Int)))
 ((Go.Value.pointer (Option.some (Go.Addr.mk 500 (0 + Int.toNat x7 * 7) Option.none))) = (Go.Value.pointer (Option.some (Go.Addr.mk 500 (0 + Int.toNat x7 * 7) Option.none))))
 False)
 False) ∧
 (((vI x7) = (vI x7)) ∧
 (((Go.Value.slice (Option.some (Go.Addr.mk 500 0 Option.none)) (n0) (c1)) = (Go.Value.slice (Option.some (Go.Addr.mk 500 0 Option.none)) (n0) (c1))) ∧
 (((Go.Value.slice Option.none 0 0) = (Go.Value.slice Option.none 0 0)) ∧
 (((Go.Value.pointer (Option.some (Go.Addr.mk 1000 1 Option.none))) = (Go.Value.pointer (Option.some (Go.Addr.mk 1000 1 Option.none)))) ∧
 (((Go.Value.pointer (Option.some (Go.Addr.mk 1000 0 Option.none))) = (Go.Value.pointer (Option.some (Go.Addr.mk 1000 0 Option.none)))) ∧
 (((vI (0 : Int)) = (vI (0 : Int))) ∧
 (((vI (0 : Int)) = (vI (0 : Int))) ∧
 True))))))))))) ∧
 (((((Go.Value.slice (Option.some (Go.Addr.mk 1008 0 Option.none)) 1 1) = (Go.Value.slice (Option.some (Go.Addr.mk 1008 0 Option.none)) 1 1)) ∧
 ((Option.some (AObj.cells [(vI n5)] 3 false 1)) = (Option.some (AObj.cells [(vI n5)] 3 false 1)))) ∧
 (((vI n5) = (vI n5)) ∧
 (((vI (0 : Int)) = (vI (0 : Int))) ∧
 (((Go.Value.pointer (Option.some (Go.Addr.mk 500 (Go.Addr.off { block := 500, off := 0 + Int.toNat x7 * 7 } + 3) Option.none))) = (Go.Value.pointer (Option.some (Go.Addr.mk 500 (Go.Addr.off { block := 500, off := 0 + Int.toNat x7 * 7 } + 3) Option.none)))) ∧
 ((bcase (decide (0 ≤ x7))
 (bcase (decide (x7 < (↑n0 : Int)))
 ((Go.Value.pointer (Option.some (Go.Addr.mk 500 (0 + Int.toNat x7 * 7) Option.none))) = (Go.Value.pointer (Option.some (Go.Addr.mk 500 (0 + Int.toNat x7 * 7) Option.none))))
 False)
 False) ∧
 (((vI x7) = (vI x7)) ∧
 (((Go.Value.slice (Option.some (Go.Addr.mk 500 0 Option.none)) (n0) (c1)) = (Go.Value.slice (Option.some (Go.Addr.mk 500 0 Option.none)) (n0) (c1))) ∧
 (((Go.Value.slice Option.none 0 0) = (Go.Value.slice Option.none 0 0)) ∧
 (((Go.Value.pointer (Option.some (Go.Addr.mk 1000 1 Option.none))) = (Go.Value.pointer (Option.some (Go.Addr.mk 1000 1 Option.none)))) ∧
 (((Go.Value.pointer (Option.some (Go.Addr.mk 1000 0 Option.none))) = (Go.Value.pointer (Option.some (Go.Addr.mk 1000 0 Option.none)))) ∧
 (((vI (0 : Int)) = (vI (0 : Int))) ∧
 (((vI (0 : Int)) = (vI (0 : Int))) ∧
 True)))))))))))) ∧
 ((((Go.Value.pointer (Option.some (Go.Addr.mk 1000 1 Option.none))) = (Go.Value.pointer (Option.some (Go.Addr.mk 1000 1 Option.none)))) ∧
 (((Go.Value.pointer (Option.some (Go.Addr.mk 1000 0 Option.none))) = (Go.Value.pointer (Option.some (Go.Addr.mk 1000 0 Option.none)))) ∧
 (((vI n5) = (vI n5)) ∧
 (((vI (0 : Int)) = (vI (0 : Int))) ∧
 (((Go.Value.pointer (Option.some (Go.Addr.mk 500 (Go.Addr.off { block := 500, off := 0 + Int.toNat x7 * 7 } + 3) Option.none))) = (Go.Value.pointer (Option.some (Go.Addr.mk 500 (Go.Addr.off { block := 500, off := 0 + Int.toNat x7 * 7 } + 3) Option.none)))) ∧
 ((bcase (decide (0 ≤ x7))
 (bcase (decide (x7 < (↑n0 : Int)))
 ((Go.Value.pointer (Option.some (Go.Addr.mk 500 (0 + Int.toNat x7 * 7) Option.none))) = (Go.Value.pointer (Option.some (Go.Addr.mk 500 (0 + Int.toNat x7 * 7) Option.none))))
 False)
 False) ∧
 (((vI x7) = (vI x7)) ∧
 (((Go.Value.slice (Option.some (Go.Addr.mk 500 0 Option.none)) (n0) (c1)) = (Go.Value.slice (Option.some (Go.Addr.mk 500 0 Option.none)) (n0) (c1))) ∧
 (((Go.Value.pointer (Option.some (Go.Addr.mk 1000 1 Option.none))) = (Go.Value.pointer (Option.some (Go.Addr.mk 1000 1 Option.none)))) ∧
 (((Go.Value.pointer (Option.some (Go.Addr.mk 1000 0 Option.none))) = (Go.Value.pointer (Option.some (Go.Addr.mk 1000 0 Option.none)))) ∧
 (((vI (0 : Int)) = (vI (0 : Int))) ∧
 (((vI (0 : Int)) = (vI (0 : Int))) ∧
 True)))))))))))) ∧
 ((((Go.Value.pointer (Option.some (Go.Addr.mk 1000 0 Option.none))) = (Go.Value.pointer (Option.some (Go.Addr.mk 1000 0 Option.none)))) ∧
 True) ∧
 (B [(Prod.mk 0 (Go.Value.slice (Option.some (Go.Addr.mk 500 0 Option.none)) (n0) (c1))), (Prod.mk 1 (Go.Value.slice (Option.some (Go.Addr.mk 501 0 Option.none)) (n2) (c3))), (Prod.mk 5 (Go.Value.pointer (Option.some (Go.Addr.mk 1000 0 Option.none)))), (Prod.mk 6 (vI (0 : Int))), (Prod.mk 9 (vI (0 : Int))), (Prod.mk 12 (Go.Value.slice (Option.some (Go.Addr.mk 501 0 Option.none)) (n4) (c5))), (Prod.mk 13 (vI x6)), (Prod.mk 14 (vI (IntKind.wrap .i64 (x7 + 1))))] [(Prod.mk 500 (AObj.sym (l8) false 7)), (Prod.mk 501 (AObj.sym (l9) false 2)), (Prod.mk 1000 (AObj.cells [(Go.Value.slice (Option.some (Go.Addr.mk 1001 0 Option.none)) 1 1), (Go.Value.slice (Option.some (Go.Addr.mk 1002 0 Option.none)) 1 1), (Go.Value.slice Option.none 0 0), (Go.Value.slice Option.none 0 0)] 123 false 2)), (Prod.mk 1001 (AObj.sym [(vI n1)] true 1)), (Prod.mk 1002 (AObj.sym [(vI n5)] true 1))]))))))))
 False)
 False))))))))
 False)
 False)
 (X 2 [(Prod.mk 0 (Go.Value.slice (Option.some (Go.Addr.mk 500 0 Option.none)) (n0) (c1))), (Prod.mk 1 (Go.Value.slice (Option.some (Go.Addr.mk 501 0 Option.none)) (n2) (c3))), (Prod.mk 5 (Go.Value.pointer (Option.some (Go.Addr.mk 1000 0 Option.none)))), (Prod.mk 9 (vI (0 : Int)))] [(Prod.mk 500 (AObj.sym (l8) false 7)), (Prod.mk 501 (AObj.sym (l9) false 2)), (Prod.mk 1000 (AObj.cells [(Go.Value.slice Option.none 0 0), (Go.Value.slice Option.none 0 0), (Go.Value.slice Option.none 0 0), (Go.Value.slice Option.none 0 0)] 123 false 2))])) := by kernel_rfl
abbrev zBa3 (n0 : Nat) (c1 : Nat) (n2 : Nat) (c3 : Nat) (n4 : Nat) (c5 : Nat) (x6 : Int) (x7 : Int) (l8 : List Value) (l9 : List Value) (n10 : Nat) (n11 : Nat) (l12 : List Value) (l13 : List Value) : Slots × Blocks := ([(0, (Value.slice (some ⟨500, 0, none⟩) n0 c1)), (1, (Value.slice (some ⟨501, 0, none⟩) n2 c3)), (5, (Value.pointer (some ⟨1000, 0, none⟩))), (6, (Value.int .i64 (0))), (9, (Value.int .i64 (0))), (12, (Value.slice (some ⟨501, 0, none⟩) n4 c5)), (13, (Value.int .i64 x6)), (14, (Value.int .i64 x7))], [(500, (AObj.sym l8 false 7)), (501, (AObj.sym l9 false 2)), (1000, (AObj.cells [(Value.slice (some ⟨1001, 0, none⟩) n10 n10), (Value.slice (some ⟨1002, 0, none⟩) n11 n11), (Value.slice none 0 0), (Value.slice none 0 0)] 123 false 2)), (1001, (AObj.sym l12 true 1)), (1002, (AObj.sym l13 true 1))])
def rBa3 (C : Ct) (L : AtLoop) (n0 : Nat) (c1 : Nat) (n2 : Nat) (c3 : Nat) (n4 : Nat) (c5 : Nat) (x6 : Int) (x7 : Int) (l8 : List Value) (l9 : List Value) (n10 : Nat) (n11 : Nat) (l12 : List Value) (l13 : List Value) (B : Bx) (X : Xx) (k : List D → Prop) : Prop := jRound2 Try.prog (hK C) L [] 45 0 2 [(0, (Value.slice (some ⟨500, 0, none⟩) n0 c1)), (1, (Value.slice (some ⟨501, 0, none⟩) n2 c3)), (5, (Value.pointer (some ⟨1000, 0, none⟩))), (6, (Value.int .i64 (0))), (9, (Value.int .i64 (0))), (12, (Value.slice (some ⟨501, 0, none⟩) n4 c5)), (13, (Value.int .i64 x6)), (14, (Value.int .i64 x7))] [(500, (AObj.sym l8 false 7)), (501, (AObj.sym l9 false 2)), (1000, (AObj.cells [(Value.slice (some ⟨1001, 0, none⟩) n10 n10), (Value.slice (some ⟨1002, 0, none⟩) n11 n11), (Value.slice none 0 0), (Value.slice none 0 0)] 123 false 2)), (1001, (AObj.sym l12 true 1)), (1002, (AObj.sym l13 true 1))] B X (dataK k)
theorem rBa3_text (C : Ct) (L : AtLoop) (n0 : Nat) (c1 : Nat) (n2 : Nat) (c3 : Nat) (n4 : Nat) (c5 : Nat) (x6 : Int) (x7 : Int) (l8 : List Go.Value) (l9 : List Go.Value) (n10 : Nat) (n11 : Nat) (l12 : List Go.Value) (l13 : List Go.Value) (B : Bx) (X : Xx) (k : List D → Prop) : rBa3 C L n0 c1 n2 c3 n4 c5 x6 x7 l8 l9 n10 n11 l12 l13 B X k =
 (bcase (decide (x7 < x6))
 (bcase (decide (0 ≤ x7))
 (bcase (decide (x7 < (↑n4 : Int)))
 (∃ n1 : Int,
 (∃ n3 : Int,
 ((At (l9) (0 + Int.toNat x7 * 2) 2 [(vI n1), (vI n3)]) ∧
 ((((vI (0 : Int)) = (vI (0 : Int))) ∧
 (((Go.Value.agg [(vI n1), (vI n3)].toArray) = (Go.Value.agg [(vI n1), (vI n3)].toArray)) ∧
 (((Go.Value.slice (Option.some (Go.Addr.mk 1001 0 Option.none)) (n10) (n10)) = (Go.Value.slice (Option.some (Go.Addr.mk 1001 0 Option.none)) (n10) (n10))) ∧
 (((Go.Value.pointer (Option.some (Go.Addr.mk 1000 0 Option.none))) = (Go.Value.pointer (Option.some (Go.Addr.mk 1000 0 Option.none)))) ∧
 (((Go.Value.pointer (Option.some (Go.Addr.mk 1000 0 Option.none))) = (Go.Value.pointer (Option.some (Go.Addr.mk 1000 0 Option.none)))) ∧
 (((vI (0 : Int)) = (vI (0 : Int))) ∧
 (((vI (0 : Int)) = (vI (0 : Int))) ∧
 True))))))) ∧
 (((((Go.Value.slice (Option.some (Go.Addr.mk 1006 0 Option.none)) 1 1) = (Go.Value.slice (Option.some (Go.Addr.mk 1006 0 Option.none)) 1 1)) ∧
 ((Option.some (AObj.cells [(vI n1)] 3 false 1)) = (Option.some (AObj.cells [(vI n1)] 3 false 1)))) ∧
 (((vI n1) = (vI n1)) ∧
 (((vI (0 : Int)) = (vI (0 : Int))) ∧
 (((Go.Value.slice (Option.some (Go.Addr.mk 1001 0 Option.none)) (n10) (n10)) = (Go.Value.slice (Option.some (Go.Addr.mk 1001 0 Option.none)) (n10) (n10))) ∧
 (((Go.Value.pointer (Option.some (Go.Addr.mk 1000 0 Option.none))) = (Go.Value.pointer (Option.some (Go.Addr.mk 1000 0 Option.none)))) ∧
 (((Go.Value.pointer (Option.some (Go.Addr.mk 1000 0 Option.none))) = (Go.Value.pointer (Option.some (Go.Addr.mk 1000 0 Option.none)))) ∧
 (((vI (0 : Int)) = (vI (0 : Int))) ∧
 (((vI (0 : Int)) = (vI (0 : Int))) ∧
 True)))))))) ∧
 (bcase (decide (n10 < n10 + 1))
 (bcase (decide ((2 * (n10 + 1) + 768) * 8 ≤ 281474976710656))
 (bcase (decide (n10 + 1 ≤ 1099511627776))
 (bcase (decide (0 + n10 * 1 ≤ List.length l12))
 (bcase (decide (0 + n10 * 1 = List.length l12))
 ((((Go.Value.pointer (Option.some (Go.Addr.mk 1000 0 Option.none))) = (Go.Value.pointer (Option.some (Go.Addr.mk 1000 0 Option.none)))) ∧
 (((Go.Value.pointer (Option.some (Go.Addr.mk 1000 0 Option.none))) = (Go.Value.pointer (Option.some (Go.Addr.mk 1000 0 Option.none)))) ∧
 (((vI n1) = (vI n1)) ∧
 (((vI (0 : Int)) = (vI (0 : Int))) ∧
 (((Go.Value.pointer (Option.some (Go.Addr.mk 1000 0 Option.none))) = (Go.Value.pointer (Option.some (Go.Addr.mk 1000 0 Option.none)))) ∧
 (((Go.Value.pointer (Option.some (Go.Addr.mk 1000 0 Option.none))) = (Go.Value.pointer (Option.some (Go.Addr.mk 1000 0 Option.none)))) ∧
 (((vI (0 : Int)) = (vI (0 : Int))) ∧
 (((vI (0 : Int)) = (vI (0 : Int))) ∧
 True)))))))) ∧
 ((((Go.Value.pointer (Option.some (Go.Addr.mk 1000 0 Option.none))) = (Go.Value.pointer (Option.some (Go.Addr.mk 1000 0 Option.none)))) ∧
 True) ∧
 (bcase (decide (0 ≤ x7))
 (bcase (decide (x7 < (↑n0 : Int)))
 (∃ n5 : Int,
 (∃ n6 : Int,
 ((At (l8) (Go.Addr.off { block := 500, off := 0 + Int.toNat x7 * 7 } + 3) 2 [(vI n5), (vI n6)]) ∧
 ((((vI (0 : Int)) = (vI (0 : Int))) ∧
 ((∃ n7 : Int,
 (∃ n8 : Int,
 ((At (l8) (Go.Addr.off { block := 500, off := 0 + Int.toNat x7 * 7 } + 3) 2 [(vI n7), (vI n8)]) ∧
 ((Go.Value.agg [(vI n7), (vI n8)].toArray) = (Go.Value.agg [(vI n5), (vI n6)].toArray))))) ∧
 (((Go.Value.pointer (Option.some (Go.Addr.mk 500 (Go.Addr.off { block := 500, off := 0 + Int.toNat x7 * 7 } + 3) Option.none))) = (Go.Value.pointer (Option.some (Go.Addr.mk 500 (Go.Addr.off { block := 500, off := 0 + Int.toNat x7 * 7 } + 3) Option.none)))) ∧
 ((bcase (decide (0 ≤ x7))
 (bcase (decide (x7 < (↑n0 : Int)))
 ((Go.Value.pointer (Option.some (Go.Addr.mk 500 (0 + Int.toNat x7 * 7) Option.none))) = (Go.Value.pointer (Option.some (Go.Addr.mk 500 (0 + Int.toNat x7 * 7) Option.none))))
 False)
 False) ∧
 (((vI x7) = (vI x7)) ∧
 (((Go.Value.slice (Option.some (Go.Addr.mk 500 0 Option.none)) (n0) (c1)) = (Go.Value.slice (Option.some (Go.Addr.mk 500 0 Option.none)) (n0) (c1))) ∧
 (((Go.Value.slice (Option.some (Go.Addr.mk 1002 0 Option.none)) (n11) (n11)) = (Go.Value.slice (Option.some (Go.Addr.mk 1002 0 Option.none)) (n11) (n11))) ∧
 (((Go.Value.pointer (Option.some (Go.Addr.mk 1000 1 Option.none))) = (Go.Value.pointer (Option.some (Go.Addr.mk 1000 1 Option.none)))) ∧
 (((Go.Value.pointer (Option.some (Go.Addr.mk 1000 0 Option.none))) = (Go.Value.pointer (Option.some (Go.Addr.mk 1000 0 Option.none)))) ∧
 (((vI (0 : Int)) = (vI (0 : Int))) ∧
 (((vI (0 : Int)) = (vI (0 : Int))) ∧
 True))))))))))) ∧
 (((((Go.Value.slice (Option.some (Go.Addr.mk 1010 0 Option.none)) 1 1) = (Go.Value.slice (Option.some (Go.Addr.mk 1010 0 Option.none)) 1 1)) ∧
 ((Option.some (AObj.cells [(vI n5)] 3 false 1)) = (Option.some (AObj.cells [(vI n5)] 3 false 1)))) ∧
 (((vI n5) = (vI n5)) ∧
 (((vI (0 : Int)) = (vI (0 : Int))) ∧
 (((Go.Value.pointer (Option.some (Go.Addr.mk 500 (Go.Addr.off { block := 500, off := 0 + Int.toNat x7 * 7 } + 3) Option.none))) = (Go.Value.pointer (Option.some (Go.Addr.mk 500 (Go.Addr.off { block := 500, off := 0 + Int.toNat x7 * 7 } + 3) Option.none)))) ∧
 ((bcase (decide (0 ≤ x7))
 (bcase (decide (x7 < (↑n0 : Int)))
 ((Go.Value.pointer (Option.some (Go.Addr.mk 500 (0 + Int.toNat x7 * 7) Option.none))) = (Go.Value.pointer (Option.some (Go.Addr.mk 500 (0 + Int.toNat x7 * 7) Option.none))))
 False)
 False) ∧
 (((vI x7) = (vI x7)) ∧
 (((Go.Value.slice (Option.some (Go.Addr.mk 500 0 Option.none)) (n0) (c1)) = (Go.Value.slice (Option.some (Go.Addr.mk 500 0 Option.none)) (n0) (c1))) ∧
 (((Go.Value.slice (Option.some (Go.Addr.mk 1002 0 Option.none)) (n11) (n11)) = (Go.Value.slice (Option.some (Go.Addr.mk 1002 0 Option.none)) (n11) (n11))) ∧
 (((Go.Value.pointer (Option.some (Go.Addr.mk 1000 1 Option.none))) = (Go.Value.pointer (Option.some (Go.Addr.mk 1000 1 Option.none)))) ∧
 (((Go.Value.pointer (Option.some (Go.Addr.mk 1000 0 Option.none))) = (Go.Value.pointer (Option.some (Go.Addr.mk 1000 0 Option.none)))) ∧
 (((vI (0 : Int)) = (vI (0 : Int))) ∧
 (((vI (0 : Int)) = (vI (0 : Int))) ∧
 True)))))))))))) ∧
 (bcase (decide (n11 < n11 + 1))
 (bcase (decide ((2 * (n11 + 1) + 768) * 8 ≤ 281474976710656))
 (bcase (decide (n11 + 1 ≤ 1099511627776))
 (bcase (decide (0 + n11 * 1 ≤ List.length l13))
 (bcase (decide (0 + n11 * 1 = List.length l13))
 ((((Go.Value.pointer (Option.some (Go.Addr.mk 1000 1 Option.none))) = (Go.Value.pointer (Option.some (Go.Addr.mk 1000 1 Option.none)))) ∧
 (((Go.Value.pointer (Option.some (Go.Addr.mk 1000 0 Option.none))) = (Go.Value.pointer (Option.some (Go.Addr.mk 1000 0 Option.none)))) ∧
 (((vI n5) = (vI n5)) ∧
 (((vI (0 : Int)) = (vI (0 : Int))) ∧
 (((Go.Value.pointer (Option.some (Go.Addr.mk 500 (Go.Addr.off { block := 500, off := 0 + Int.toNat x7 * 7 } + 3) Option.none))) = (Go.Value.pointer (Option.some (Go.Addr.mk 500 (Go.Addr.off { block := 500, off := 0 + Int.toNat x7 * 7 } + 3) Option.none)))) ∧
 ((bcase (decide (0 ≤ x7))
 (bcase (decide (x7 < (↑n0 : Int)))
 ((Go.Value.pointer (Option.some (Go.Addr.mk 500 (0 + Int.toNat x7 * 7) Option.none))) = (Go.Value.pointer (Option.some (Go.Addr.mk 500 (0 + Int.toNat x7 * 7) Option.none))))
 False)
 False) ∧
 (((vI x7) = (vI x7)) ∧
 (((Go.Value.slice (Option.some (Go.Addr.mk 500 0 Option.none)) (n0) (c1)) = (Go.Value.slice (Option.some (Go.Addr.mk 500 0 Option.none)) (n0) (c1))) ∧
 (((Go.Value.pointer (Option.some (Go.Addr.mk 1000 1 Option.none))) = (Go.Value.pointer (Option.some (Go.Addr.mk 1000 1 Option.none)))) ∧
 (((Go.Value.pointer (Option.some (Go.Addr.mk 1000 0 Option.none))) = (Go.Value.pointer (Option.some (Go.Addr.mk 1000 0 Option.none)))) ∧
 (((vI (0 : Int)) = (vI (0 : Int))) ∧
 (((vI (0 : Int)) = (vI (0 : Int))) ∧
 True)))))))))))) ∧
 ((((Go.Value.pointer (Option.some (Go.Addr.mk 1000 0 Option.none))) = (Go.Value.pointer (Option.some (Go.Addr.mk 1000 0 Option.none)))) ∧
 True) ∧
 (B [(Prod.mk 0 (Go.Value.slice (Option.some (Go.Addr.mk 500 0 Option.none)) (n0) (c1))), (Prod.mk 1 (Go.Value.slice (Option.some (Go.Addr.mk 501 0 Option.none)) (n2) (c3))), (Prod.mk 5 (Go.Value.pointer (Option.some (Go.Addr.mk 1000 0 Option.none)))), (Prod.mk 6 (vI (0 : Int))), (Prod.mk 9 (vI (0 : Int))), (Prod.mk 12 (Go.Value.slice (Option.some (Go.Addr.mk 501 0 Option.none)) (n4) (c5))), (Prod.mk 13 (vI x6)), (Prod.mk 14 (vI (IntKind.wrap .i64 (x7 + 1))))] [(Prod.mk 500 (AObj.sym (l8) false 7)), (Prod.mk 501 (AObj.sym (l9) false 2)), (Prod.mk 1000 (AObj.cells [(Go.Value.slice (Option.some (Go.Addr.mk 1001 0 Option.none)) (n10 + 1) (n10 + 1)), (Go.Value.slice (Option.some (Go.Addr.mk 1002 0 Option.none)) (n11 + 1) (n11 + 1)), (Go.Value.slice Option.none 0 0), (Go.Value.slice Option.none 0 0)] 123 false 2)), (Prod.mk 1001 (AObj.sym ((List.take (n10 * 1) (List.drop 0 l12)) ++ [(vI n1)]) true 1)), (Prod.mk 1002 (AObj.sym ((List.take (n11 * 1) (List.drop 0 l13)) ++ [(vI n5)]) true 1))])))
 False)
 False)
 False)
 False)
 False))))))
 False)
 False)))
 False)
 False)
 False)
 False)
 False))))))
 False)
 False)
 (X 2 [(Prod.mk 0 (Go.Value.slice (Option.some (Go.Addr.mk 500 0 Option.none)) (n0) (c1))), (Prod.mk 1 (Go.Value.slice (Option.some (Go.Addr.mk 501 0 Option.none)) (n2) (c3))), (Prod.mk 5 (Go.Value.pointer (Option.some (Go.Addr.mk 1000 0 Option.none)))), (Prod.mk 9 (vI (0 : Int)))] [(Prod.mk 500 (AObj.sym (l8) false 7)), (Prod.mk 501 (AObj.sym (l9) false 2)), (Prod.mk 1000 (AObj.cells [(Go.Value.slice (Option.some (Go.Addr.mk 1001 0 Option.none)) (n10) (n10)), (Go.Value.slice (Option.some (Go.Addr.mk 1002 0 Option.none)) (n11) (n11)), (Go.Value.slice Option.none 0 0), (Go.Value.slice Option.none 0 0)] 123 false 2)), (Prod.mk 1001 (AObj.sym (l12) true 1)), (Prod.mk 1002 (AObj.sym (l13) true 1))])) := by kernel_rfl
def iBa5 (C : Ct) (L : AtLoop) (n0 : Nat) (c1 : Nat) (n2 : Nat) (c3 : Nat) (l4 : List Value) (l5 : List Value) (n6 : Nat) (n7 : Nat) (l8 : List Value) (l9 : List Value) (B : Bx) (X : Xx) (k : List D → Prop) : Prop := jIn Try.prog (hK C) L [] 45 0 2 .normal [(0, (Value.slice (some ⟨500, 0, none⟩) n0 c1)), (1, (Value.slice (some ⟨501, 0, none⟩) n2 c3)), (5, (Value.pointer (some ⟨1000, 0, none⟩))), (9, (Value.int .i64 (0)))] [(500, (AObj.sym l4 false 7)), (501, (AObj.sym l5 false 2)), (1000, (AObj.cells [(Value.slice (some ⟨1001, 0, none⟩) n6 n6), (Value.slice (some ⟨1002, 0, none⟩) n7 n7), (Value.slice none 0 0), (Value.slice none 0 0)] 123 false 2)), (1001, (AObj.sym l8 true 1)), (1002, (AObj.sym l9 true 1))] B X (dataK k)
theorem iBa5_text (C : Ct) (L : AtLoop) (n0 : Nat) (c1 : Nat) (n2 : Nat) (c3 : Nat) (l4 : List Go.Value) (l5 : List Go.Value) (n6 : Nat) (n7 : Nat) (l8 : List Go.Value) (l9 : List Go.Value) (B : Bx) (X : Xx) (k : List D → Prop) : iBa5 C L n0 c1 n2 c3 l4 l5 n6 n7 l8 l9 B X k =
 (B [(Prod.mk 0 (Go.Value.slice (Option.some (Go.Addr.mk 500 0 Option.none)) (n0) (c1))), (Prod.mk 1 (Go.Value.slice (Option.some (Go.Addr.mk 501 0 Option.none)) (n2) (c3))), (Prod.mk 5 (Go.Value.pointer (Option.some (Go.Addr.mk 1000 0 Option.none)))), (Prod.mk 9 (vI (1 : Int)))] [(Prod.mk 500 (AObj.sym (l4) false 7)), (Prod.mk 501 (AObj.sym (l5) false 2)), (Prod.mk 1000 (AObj.cells [(Go.Value.slice (Option.some (Go.Addr.mk 1001 0 Option.none)) (n6) (n6)), (Go.Value.slice (Option.some (Go.Addr.mk 1002 0 Option.none)) (n7) (n7)), (Go.Value.slice Option.none 0 0), (Go.Value.slice Option.none 0 0)] 123 false 2)), (Prod.mk 1001 (AObj.sym (l8) true 1)), (Prod.mk 1002 (AObj.sym (l9) true 1))]) := by kernel_rfl
abbrev zBa7 (n0 : Nat) (c1 : Nat) (n2 : Nat) (c3 : Nat) (l4 : List Value) (l5 : List Value) (n6 : Nat) (n7 : Nat) (l8 : List Value) (l9 : List Value) : Slots × Blocks := ([(0, (Value.slice (some ⟨500, 0, none⟩) n0 c1)), (1, (Value.slice (some ⟨501, 0, none⟩) n2 c3)), (5, (Value.pointer (some ⟨1000, 0, none⟩))), (9, (Value.int .i64 (1)))], [(500, (AObj.sym l4 false 7)), (501, (AObj.sym l5 false 2)), (1000, (AObj.cells [(Value.slice (some ⟨1001, 0, none⟩) n6 n6), (Value.slice (some ⟨1002, 0, none⟩) n7 n7), (Value.slice none 0 0), (Value.slice none 0 0)] 123 false 2)), (1001, (AObj.sym l8 true 1)), (1002, (AObj.sym l9 true 1))])
def rBa7 (C : Ct) (L : AtLoop) (n0 : Nat) (c1 : Nat) (n2 : Nat) (c3 : Nat) (l4 : List Value) (l5 : List Value) (n6 : Nat) (n7 : Nat) (l8 : List Value) (l9 : List Value) (B : Bx) (X : Xx) (k : List D → Prop) : Prop := jRound Try.prog (hK C) L [] 45 0 [(0, (Value.slice (some ⟨500, 0, none⟩) n0 c1)), (1, (Value.slice (some ⟨501, 0, none⟩) n2 c3)), (5, (Value.pointer (some ⟨1000, 0, none⟩))), (9, (Value.int .i64 (1)))] [(500, (AObj.sym l4 false 7)), (501, (AObj.sym l5 false 2)), (1000, (AObj.cells [(Value.slice (some ⟨1001, 0, none⟩) n6 n6), (Value.slice (some ⟨1002, 0, none⟩) n7 n7), (Value.slice none 0 0), (Value.slice none 0 0)] 123 false 2)), (1001, (AObj.sym l8 true 1)), (1002, (AObj.sym l9 true 1))] B X (dataK k)
theorem rBa7_text (C : Ct) (L : AtLoop) (n0 : Nat) (c1 : Nat) (n2 : Nat) (c3 : Nat) (l4 : List Go.Value) (l5 : List Go.Value) (n6 : Nat) (n7 : Nat) (l8 : List Go.Value) (l9 : List Go.Value) (B : Bx) (X : Xx) (k : List D → Prop) : rBa7 C L n0 c1 n2 c3 l4 l5 n6 n7 l8 l9 B X k =
 (L 2 [(Prod.mk 0 (Go.Value.slice (Option.some (Go.Addr.mk 500 0 Option.none)) (n0) (c1))), (Prod.mk 1 (Go.Value.slice (Option.some (Go.Addr.mk 501 0 Option.none)) (n2) (c3))), (Prod.mk 5 (Go.Value.pointer (Option.some (Go.Addr.mk 1000 0 Option.none)))), (Prod.mk 6 (vI (1 : Int))), (Prod.mk 9 (vI (1 : Int))), (Prod.mk 12 (Go.Value.slice (Option.some (Go.Addr.mk 501 0 Option.none)) (n2) (c3))), (Prod.mk 13 (vI ((↑n2 : Int)))), (Prod.mk 14 (vI (0 : Int)))] [(Prod.mk 500 (AObj.sym (l4) false 7)), (Prod.mk 501 (AObj.sym (l5) false 2)), (Prod.mk 1000 (AObj.cells [(Go.Value.slice (Option.some (Go.Addr.mk 1001 0 Option.none)) (n6) (n6)), (Go.Value.slice (Option.some (Go.Addr.mk 1002 0 Option.none)) (n7) (n7)), (Go.Value.slice Option.none 0 0), (Go.Value.slice Option.none 0 0)] 123 false 2)), (Prod.mk 1001 (AObj.sym (l8) true 1)), (Prod.mk 1002 (AObj.sym (l9) true 1))]) := by kernel_rfl
abbrev zBa9 (n0 : Nat) (c1 : Nat) (n2 : Nat) (c3 : Nat) (n4 : Nat) (c5 : Nat) (x6 : Int) (x7 : Int) (l8 : List Value) (l9 : List Value) (n10 : Nat) (n11 : Nat) (l12 : List Value) (l13 : List Value) : Slots × Blocks := ([(0, (Value.slice (some ⟨500, 0, none⟩) n0 c1)), (1, (Value.slice (some ⟨501, 0, none⟩) n2 c3)), (5, (Value.pointer (some ⟨1000, 0, none⟩))), (6, (Value.int .i64 (1))), (9, (Value.int .i64 (1))), (12, (Value.slice (some ⟨501, 0, none⟩) n4 c5)), (13, (Value.int .i64 x6)), (14, (Value.int .i64 x7))], [(500, (AObj.sym l8 false 7)), (501, (AObj.sym l9 false 2)), (1000, (AObj.cells [(Value.slice (some ⟨1001, 0, none⟩) n10 n10), (Value.slice (some ⟨1002, 0, none⟩) n11 n11), (Value.slice none 0 0), (Value.slice none 0 0)] 123 false 2)), (1001, (AObj.sym l12 true 1)), (1002, (AObj.sym l13 true 1))])
def rBa9 (C : Ct) (L : AtLoop) (n0 : Nat) (c1 : Nat) (n2 : Nat) (c3 : Nat) (n4 : Nat) (c5 : Nat) (x6 : Int) (x7 : Int) (l8 : List Value) (l9 : List Value) (n10 : Nat) (n11 : Nat) (l12 : List Value) (l13 : List Value) (B : Bx) (X : Xx) (k : List D → Prop) : Prop := jRound2 Try.prog (hK C) L [] 45 0 2 [(0, (Value.slice (some ⟨500, 0, none⟩) n0 c1)), (1, (Value.slice (some ⟨501, 0, none⟩) n2 c3)), (5, (Value.pointer (some ⟨1000, 0, none⟩))), (6, (Value.int .i64 (1))), (9, (Value.int .i64 (1))), (12, (Value.slice (some ⟨501, 0, none⟩) n4 c5)), (13, (Value.int .i64 x6)), (14, (Value.int .i64 x7))] [(500, (AObj.sym l8 false 7)), (501, (AObj.sym l9 false 2)), (1000, (AObj.cells [(Value.slice (some ⟨1001, 0, none⟩) n10 n10), (Value.slice (some ⟨1002, 0, none⟩) n11 n11), (Value.slice none 0 0), (Value.slice none 0 0)] 123 false 2)), (1001, (AObj.sym l12 true 1)), (1002, (AObj.sym l13 true 1))] B X (dataK k)
theorem rBa9_text (C : Ct) (L : AtLoop) (n0 : Nat) (c1 : Nat) (n2 : Nat) (c3 : Nat) (n4 : Nat) (c5 : Nat) (x6 : Int) (x7 : Int) (l8 : List Go.Value) (l9 : List Go.Value) (n10 : Nat) (n11 : Nat) (l12 : List Go.Value) (l13 : List Go.Value) (B : Bx) (X : Xx) (k : List D → Prop) : rBa9 C L n0 c1 n2 c3 n4 c5 x6 x7 l8 l9 n10 n11 l12 l13 B X k =
 (bcase (decide (x7 < x6))
 (bcase (decide (0 ≤ x7))
 (bcase (decide (x7 < (↑n4 : Int)))
 (∃ n1 : Int,
 (∃ n3 : Int,
 ((At (l9) (0 + Int.toNat x7 * 2) 2 [(vI n1), (vI n3)]) ∧
 ((((vI (1 : Int)) = (vI (1 : Int))) ∧
 (((Go.Value.agg [(vI n1), (vI n3)].toArray) = (Go.Value.agg [(vI n1), (vI n3)].toArray)) ∧
 (((Go.Value.slice Option.none 0 0) = (Go.Value.slice Option.none 0 0)) ∧
 (((Go.Value.pointer (Option.some (Go.Addr.mk 1000 2 Option.none))) = (Go.Value.pointer (Option.some (Go.Addr.mk 1000 2 Option.none)))) ∧
 (((Go.Value.pointer (Option.some (Go.Addr.mk 1000 2 Option.none))) = (Go.Value.pointer (Option.some (Go.Addr.mk 1000 2 Option.none)))) ∧
 (((vI (1 : Int)) = (vI (1 : Int))) ∧
 (((vI (1 : Int)) = (vI (1 : Int))) ∧
 True))))))) ∧
 (((((Go.Value.slice (Option.some (Go.Addr.mk 1006 0 Option.none)) 1 1) = (Go.Value.slice (Option.some (Go.Addr.mk 1006 0 Option.none)) 1 1)) ∧
 ((Option.some (AObj.cells [(vI n3)] 3 false 1)) = (Option.some (AObj.cells [(vI n3)] 3 false 1)))) ∧
 (((vI n3) = (vI n3)) ∧
 (((vI (1 : Int)) = (vI (1 : Int))) ∧
 (((Go.Value.slice Option.none 0 0) = (Go.Value.slice Option.none 0 0)) ∧
 (((Go.Value.pointer (Option.some (Go.Addr.mk 1000 2 Option.none))) = (Go.Value.pointer (Option.some (Go.Addr.mk 1000 2 Option.none)))) ∧
 (((Go.Value.pointer (Option.some (Go.Addr.mk 1000 2 Option.none))) = (Go.Value.pointer (Option.some (Go.Addr.mk 1000 2 Option.none)))) ∧
 (((vI (1 : Int)) = (vI (1 : Int))) ∧
 (((vI (1 : Int)) = (vI (1 : Int))) ∧
 True)))))))) ∧
 ((((Go.Value.pointer (Option.some (Go.Addr.mk 1000 2 Option.none))) = (Go.Value.pointer (Option.some (Go.Addr.mk 1000 2 Option.none)))) ∧
 (((Go.Value.pointer (Option.some (Go.Addr.mk 1000 2 Option.none))) = (Go.Value.pointer (Option.some (Go.Addr.mk 1000 2 Option.none)))) ∧
 (((vI n3) = (vI n3)) ∧
 (((vI (1 : Int)) = (vI (1 : Int))) ∧
 (((Go.Value.pointer (Option.some (Go.Addr.mk 1000 2 Option.none))) = (Go.Value.pointer (Option.some (Go.Addr.mk 1000 2 Option.none)))) ∧
 (((Go.Value.pointer (Option.some (Go.Addr.mk 1000 2 Option.none))) = (Go.Value.pointer (Option.some (Go.Addr.mk 1000 2 Option.none)))) ∧
 (((vI (1 : Int)) = (vI (1 : Int))) ∧
 (((vI (1 : Int)) = (vI (1 : Int))) ∧
 True)))))))) ∧
 ((((Go.Value.pointer (Option.some (Go.Addr.mk 1000 2 Option.none))) = (Go.Value.pointer (Option.some (Go.Addr.mk 1000 2 Option.none)))) ∧
 True) ∧
 (bcase (decide (0 ≤ x7))
 (bcase (decide (x7 < (↑n0 : Int)))
 (∃ n5 : Int,
 (∃ n6 : Int,
 ((At (l8) (Go.Addr.off { block := 500, off := 0 + Int.toNat x7 * 7 } + 3) 2 [(vI n5), (vI n6)]) ∧
 ((((vI (1 : Int)) = (vI (1 : Int))) ∧
 ((∃ n7 : Int,
 (∃ n8 : Int,
 ((At (l8) (Go.Addr.off { block := 500, off := 0 + Int.toNat x7 * 7 } + 3) 2 [(vI n7), (vI n8)]) ∧
 ((Go.Value.agg [(vI n7), (vI n8)].toArray) = (Go.Value.agg [(vI n5), (vI n6)].toArray))))) ∧
 (((Go.Value.pointer (Option.some (Go.Addr.mk 500 (Go.Addr.off { block := 500, off := 0 + Int.toNat x7 * 7 } + 3) Option.none))) = (Go.Value.pointer (Option.some (Go.Addr.mk 500 (Go.Addr.off { block := 500, off := 0 + Int.toNat x7 * 7 } + 3) Option.none)))) ∧
 ((bcase (decide (0 ≤ x7))
 (bcase (decide (x7 < (↑n0 : Int)))
 ((Go.Value.pointer (Option.some (Go.Addr.mk 500 (0 + Int.toNat x7 * 7) Option.none))) = (Go.Value.pointer (Option.some (Go.Addr.mk 500 (0 + Int.toNat x7 * 7) Option.none))))
 False)
 False) ∧
 (((vI x7) = (vI x7)) ∧
 (((Go.Value.slice (Option.some (Go.Addr.mk 500 0 Option.none)) (n0) (c1)) = (Go.Value.slice (Option.some (Go.Addr.mk 500 0 Option.none)) (n0) (c1))) ∧
 (((Go.Value.slice Option.none 0 0) = (Go.Value.slice Option.none 0 0)) ∧
 (((Go.Value.pointer (Option.some (Go.Addr.mk 1000 3 Option.none))) = (Go.Value.pointer (Option.some (Go.Addr.mk 1000 3 Option.none)))) ∧
 (((Go.Value.pointer (Option.some (Go.Addr.mk 1000 2 Option.none))) = (Go.Value.pointer (Option.some (Go.Addr.mk 1000 2 Option.none)))) ∧
 (((vI (1 : Int)) = (vI (1 : Int))) ∧
 (((vI (1 : Int)) = (vI (1 : Int))) ∧
 True))))))))))) ∧
 (((((Go.Value.slice (Option.some (Go.Addr.mk 1010 0 Option.none)) 1 1) = (Go.Value.slice (Option.some (Go.Addr.mk 1010 0 Option.none)) 1 1)) ∧
 ((Option.some (AObj.cells [(vI n6)] 3 false 1)) = (Option.some (AObj.cells [(vI n6)] 3 false 1)))) ∧
 (((vI n6) = (vI n6)) ∧
 (((vI (1 : Int)) = (vI (1 : Int))) ∧
 (((Go.Value.pointer (Option.some (Go.Addr.mk 500 (Go.Addr.off { block := 500, off := 0 + Int.toNat x7 * 7 } + 3) Option.none))) = (Go.Value.pointer (Option.some (Go.Addr.mk 500 (Go.Addr.off { block := 500, off := 0 + Int.toNat x7 * 7 } + 3) Option.none)))) ∧
 ((bcase (decide (0 ≤ x7))
 (bcase (decide (x7 < (↑n0 : Int)))
 ((Go.Value.pointer (Option.some (Go.Addr.mk 500 (0 + Int.toNat x7 * 7) Option.none))) = (Go.Value.pointer (Option.some (Go.Addr.mk 500 (0 + Int.toNat x7 * 7) Option.none))))
 False)
 False) ∧
 (((vI x7) = (vI x7)) ∧
 (((Go.Value.slice (Option.some (Go.Addr.mk 500 0 Option.none)) (n0) (c1)) = (Go.Value.slice (Option.some (Go.Addr.mk 500 0 Option.none)) (n0) (c1))) ∧
 (((Go.Value.slice Option.none 0 0) = (Go.Value.slice Option.none 0 0)) ∧
 (((Go.Value.pointer (Option.some (Go.Addr.mk 1000 3 Option.none))) = (Go.Value.pointer (Option.some (Go.Addr.mk 1000 3 Option.none)))) ∧
 (((Go.Value.pointer (Option.some (Go.Addr.mk 1000 2 Option.none))) = (Go.Value.pointer (Option.some (Go.Addr.mk 1000 2 Option.none)))) ∧
 (((vI (1 : Int)) = (vI (1 : Int))) ∧
 (((vI (1 : Int)) = (vI (1 : Int))) ∧
 True)))))))))))) ∧
 ((((Go.Value.pointer (Option.some (Go.Addr.mk 1000 3 Option.none))) = (Go.Value.pointer (Option.some (Go.Addr.mk 1000 3 Option.none)))) ∧
 (((Go.Value.pointer (Option.some (Go.Addr.mk 1000 2 Option.none))) = (Go.Value.pointer (Option.some (Go.Addr.mk 1000 2 Option.none)))) ∧
 (((vI n6) = (vI n6)) ∧
 (((vI (1 : Int)) = (vI (1 : Int))) ∧
 (((Go.Value.pointer (Option.some (Go.Addr.mk 500 (Go.Addr.off { block := 500, off := 0 + Int.toNat x7 * 7 } + 3) Option.none))) = (Go.Value.pointer (Option.some (Go.Addr.mk 500 (Go.Addr.off { block := 500, off := 0 + Int.toNat x7 * 7 } + 3) Option.none)))) ∧
 ((bcase (decide (0 ≤ x7))
 (bcase (decide (x7 < (↑n0 : Int)))
 ((Go.Value.pointer (Option.some (Go.Addr.mk 500 (0 + Int.toNat x7 * 7) Option.none))) = (Go.Value.pointer (Option.some (Go.Addr.mk 500 (0 + Int.toNat x7 * 7) Option.none))))
 False)
 False) ∧
 (((vI x7) = (vI x7)) ∧
 (((Go.Value.slice (Option.some (Go.Addr.mk 500 0 Option.none)) (n0) (c1)) = (Go.Value.slice (Option.some (Go.Addr.mk 500 0 Option.none)) (n0) (c1))) ∧
 (((Go.Value.pointer (Option.some (Go.Addr.mk 1000 3 Option.none))) = (Go.Value.pointer (Option.some (Go.Addr.mk 1000 3 Option.none)))) ∧
 (((Go.Value.pointer (Option.some (Go.Addr.mk 1000 2 Option.none))) = (Go.Value.pointer (Option.some (Go.Addr.mk 1000 2 Option.none)))) ∧
 (((vI (1 : Int)) = (vI (1 : Int))) ∧
 (((vI (1 : Int)) = (vI (1 : Int))) ∧
 True)))))))))))) ∧
 ((((Go.Value.pointer (Option.some (Go.Addr.mk 1000 2 Option.none))) = (Go.Value.pointer (Option.some (Go.Addr.mk 1000 2 Option.none)))) ∧
 True) ∧
 (B [(Prod.mk 0 (Go.Value.slice (Option.some (Go.Addr.mk 500 0 Option.none)) (n0) (c1))), (Prod.mk 1 (Go.Value.slice (Option.some (Go.Addr.mk 501 0 Option.none)) (n2) (c3))), (Prod.mk 5 (Go.Value.pointer (Option.some (Go.Addr.mk 1000 0 Option.none)))), (Prod.mk 6 (vI (1 : Int))), (Prod.mk 9 (vI (1 : Int))), (Prod.mk 12 (Go.Value.slice (Option.some (Go.Addr.mk 501 0 Option.none)) (n4) (c5))), (Prod.mk 13 (vI x6)), (Prod.mk 14 (vI (IntKind.wrap .i64 (x7 + 1))))] [(Prod.mk 500 (AObj.sym (l8) false 7)), (Prod.mk 501 (AObj.sym (l9) false 2)), (Prod.mk 1000 (AObj.cells [(Go.Value.slice (Option.some (Go.Addr.mk 1001 0 Option.none)) (n10) (n10)), (Go.Value.slice (Option.some (Go.Addr.mk 1002 0 Option.none)) (n11) (n11)), (Go.Value.slice (Option.some (Go.Addr.mk 1003 0 Option.none)) 1 1), (Go.Value.slice (Option.some (Go.Addr.mk 1004 0 Option.none)) 1 1)] 123 false 2)), (Prod.mk 1001 (AObj.sym (l12) true 1)), (Prod.mk 1002 (AObj.sym (l13) true 1)), (Prod.mk 1003 (AObj.sym [(vI n3)] true 1)), (Prod.mk 1004 (AObj.sym [(vI n6)] true 1))]))))))))
 False)
 False))))))))
 False)
 False)
 (X 2 [(Prod.mk 0 (Go.Value.slice (Option.some (Go.Addr.mk 500 0 Option.none)) (n0) (c1))), (Prod.mk 1 (Go.Value.slice (Option.some (Go.Addr.mk 501 0 Option.none)) (n2) (c3))), (Prod.mk 5 (Go.Value.pointer (Option.some (Go.Addr.mk 1000 0 Option.none)))), (Prod.mk 9 (vI (1 : Int)))] [(Prod.mk 500 (AObj.sym (l8) false 7)), (Prod.mk 501 (AObj.sym (l9) false 2)), (Prod.mk 1000 (AObj.cells [(Go.Value.slice (Option.some (Go.Addr.mk 1001 0 Option.none)) (n10) (n10)), (Go.Value.slice (Option.some (Go.Addr.mk 1002 0 Option.none)) (n11) (n11)), (Go.Value.slice Option.none 0 0), (Go.Value.slice Option.none 0 0)] 123 false 2)), (Prod.mk 1001 (AObj.sym (l12) true 1)), (Prod.mk 1002 (AObj.sym (l13) true 1))])) := by kernel_rfl
abbrev zBa12 (n0 : Nat) (c1 : Nat) (n2 : Nat) (c3 : Nat) (n4 : Nat) (c5 : Nat) (x6 : Int) (x7 : Int) (l8 : List Value) (l9 : List Value) (n10 : Nat) (n11 : Nat) (n12 : Nat) (n13 : Nat) (l14 : List Value) (l15 : List Value) (l16 : List Value) (l17 : List Value) : Slots × Blocks := ([(0, (Value.slice (some ⟨500, 0, none⟩) n0 c1)), (1, (Value.slice (some ⟨501, 0, none⟩) n2 c3)), (5, (Value.pointer (some ⟨1000, 0, none⟩))), (6, (Value.int .i64 (1))), (9, (Value.int .i64 (1))), (12, (Value.slice (some ⟨501, 0, none⟩) n4 c5)), (13, (Value.int .i64 x6)), (14, (Value.int .i64 x7))], [(500, (AObj.sym l8 false 7)), (501, (AObj.sym l9 false 2)), (1000, (AObj.cells [(Value.slice (some ⟨1001, 0, none⟩) n10 n10), (Value.slice (some ⟨1002, 0, none⟩) n11 n11), (Value.slice (some ⟨1003, 0, none⟩) n12 n12), (Value.slice (some ⟨1004, 0, none⟩) n13 n13)] 123 false 2)), (1001, (AObj.sym l14 true 1)), (1002, (AObj.sym l15 true 1)), (1003, (AObj.sym l16 true 1)), (1004, (AObj.sym l17 true 1))])
def rBa12 (C : Ct) (L : AtLoop) (n0 : Nat) (c1 : Nat) (n2 : Nat) (c3 : Nat) (n4 : Nat) (c5 : Nat) (x6 : Int) (x7 : Int) (l8 : List Value) (l9 : List Value) (n10 : Nat) (n11 : Nat) (n12 : Nat) (n13 : Nat) (l14 : List Value) (l15 : List Value) (l16 : List Value) (l17 : List Value) (B : Bx) (X : Xx) (k : List D → Prop) : Prop := jRound2 Try.prog (hK C) L [] 45 0 2 [(0, (Value.slice (some ⟨500, 0, none⟩) n0 c1)), (1, (Value.slice (some ⟨501, 0, none⟩) n2 c3)), (5, (Value.pointer (some ⟨1000, 0, none⟩))), (6, (Value.int .i64 (1))), (9, (Value.int .i64 (1))), (12, (Value.slice (some ⟨501, 0, none⟩) n4 c5)), (13, (Value.int .i64 x6)), (14, (Value.int .i64 x7))] [(500, (AObj.sym l8 false 7)), (501, (AObj.sym l9 false 2)), (1000, (AObj.cells [(Value.slice (some ⟨1001, 0, none⟩) n10 n10), (Value.slice (some ⟨1002, 0, none⟩) n11 n11), (Value.slice (some ⟨1003, 0, none⟩) n12 n12), (Value.slice (some ⟨1004, 0, none⟩) n13 n13)] 123 false 2)), (1001, (AObj.sym l14 true 1)), (1002, (AObj.sym l15 true 1)), (1003, (AObj.sym l16 true 1)), (1004, (AObj.sym l17 true 1))] B X (dataK k)
theorem rBa12_text (C : Ct) (L : AtLoop) (n0 : Nat) (c1 : Nat) (n2 : Nat) (c3 : Nat) (n4 : Nat) (c5 : Nat) (x6 : Int) (x7 : Int) (l8 : List Go.Value) (l9 : List Go.Value) (n10 : Nat) (n11 : Nat) (n12 : Nat) (n13 : Nat) (l14 : List Go.Value) (l15 : List Go.Value) (l16 : List Go.Value) (l17 : List Go.Value) (B : Bx) (X : Xx) (k : List D → Prop) : rBa12 C L n0 c1 n2 c3 n4 c5 x6 x7 l8 l9 n10 n11 n12 n13 l14 l15 l16 l17 B X k =
 (bcase (decide (x7 < x6))
 (bcase (decide (0 ≤ x7))
 (bcase (decide (x7 < (↑n4 : Int)))
 (∃ n1 : Int,
 (∃ n3 : Int,
 ((At (l9) (0 + Int.toNat x7 * 2) 2 [(vI n1), (vI n3)]) ∧
 ((((vI (1 : Int)) = (vI (1 : Int))) ∧
 (((Go.Value.agg [(vI n1), (vI n3)].toArray) = (Go.Value.agg [(vI n1), (vI n3)].toArray)) ∧
 (((Go.Value.slice (Option.some (Go.Addr.mk 1003 0 Option.none)) (n12) (n12)) = (Go.Value.slice (Option.some (Go.Addr.mk 1003 0 Option.none)) (n12) (n12))) ∧
 (((Go.Value.pointer (Option.some (Go.Addr.mk 1000 2 Option.none))) = (Go.Value.pointer (Option.some (Go.Addr.mk 1000 2 Option.none)))) ∧
 (((Go.Value.pointer (Option.some (Go.Addr.mk 1000 2 Option.none))) = (Go.Value.pointer (Option.some (Go.Addr.mk 1000 2 Option.none)))) ∧
 (((vI (1 : Int)) = (vI (1 : Int))) ∧
 (((vI (1 : Int)) = (vI (1 : Int))) ∧
 True))))))) ∧
 (((((Go.Value.slice (Option.some (Go.Addr.mk 1008 0 Option.none)) 1 1) = (Go.Value.slice (Option.some (Go.Addr.mk 1008 0 Option.none)) 1 1)) ∧
 ((Option.some (AObj.cells [(vI n3)] 3 false 1)) = (Option.some (AObj.cells [(vI n3)] 3 false 1)))) ∧
 (((vI n3) = (vI n3)) ∧
 (((vI (1 : Int)) = (vI (1 : Int))) ∧
 (((Go.Value.slice (Option.some (Go.Addr.mk 1003 0 Option.none)) (n12) (n12)) = (Go.Value.slice (Option.some (Go.Addr.mk 1003 0 Option.none)) (n12) (n12))) ∧
 (((Go.Value.pointer (Option.some (Go.Addr.mk 1000 2 Option.none))) = (Go.Value.pointer (Option.some (Go.Addr.mk 1000 2 Option.none)))) ∧
 (((Go.Value.pointer (Option.some (Go.Addr.mk 1000 2 Option.none))) = (Go.Value.pointer (Option.some (Go.Addr.mk 1000 2 Option.none)))) ∧
 (((vI (1 : Int)) = (vI (1 : Int))) ∧
 (((vI (1 : Int)) = (vI (1 : Int))) ∧
 True)))))))) ∧
 (bcase (decide (n12 < n12 + 1))
 (bcase (decide ((2 * (n12 + 1) + 768) * 8 ≤ 281474976710656))
 (bcase (decide (n12 + 1 ≤ 1099511627776))
 (bcase (decide (0 + n12 * 1 ≤ List.length l16))
 (bcase (decide (0 + n12 * 1 = List.length l16))
 ((((Go.Value.pointer (Option.some (Go.Addr.mk 1000 2 Option.none))) = (Go.Value.pointer (Option.some (Go.Addr.mk 1000 2 Option.none)))) ∧
 (((Go.Value.pointer (Option.some (Go.Addr.mk 1000 2 Option.none))) = (Go.Value.pointer (Option.some (Go.Addr.mk 1000 2 Option.none)))) ∧
 (((vI n3) = (vI n3)) ∧
 (((vI (1 : Int)) = (vI (1 : Int))) ∧
 (((Go.Value.pointer (Option.some (Go.Addr.mk 1000 2 Option.none))) = (Go.Value.pointer (Option.some (Go.Addr.mk 1000 2 Option.none)))) ∧
 (((Go.Value.pointer (Option.some (Go.Addr.mk 1000 2 Option.none))) = (Go.Value.pointer (Option.some (Go.Addr.mk 1000 2 Option.none)))) ∧
 (((vI (1 : Int)) = (vI (1 : Int))) ∧
 (((vI (1 : Int)) = (vI (1 : Int))) ∧
 True)))))))) ∧
 ((((Go.Value.pointer (Option.some (Go.Addr.mk 1000 2 Option.none))) = (Go.Value.pointer (Option.some (Go.Addr.mk 1000 2 Option.none)))) ∧
 True) ∧
 (bcase (decide (0 ≤ x7))
 (bcase (decide (x7 < (↑n0 : Int)))
 (∃ n5 : Int,
 (∃ n6 : Int,
 ((At (l8) (Go.Addr.off { block := 500, off := 0 + Int.toNat x7 * 7 } + 3) 2 [(vI n5), (vI n6)]) ∧
 ((((vI (1 : Int)) = (vI (1 : Int))) ∧
 ((∃ n7 : Int,
 (∃ n8 : Int,
 ((At (l8) (Go.Addr.off { block := 500, off := 0 + Int.toNat x7 * 7 } + 3) 2 [(vI n7), (vI n8)]) ∧
 ((Go.Value.agg [(vI n7), (vI n8)].toArray) = (Go.Value.agg [(vI n5), (vI n6)].toArray))))) ∧
 (((Go.Value.pointer (Option.some (Go.Addr.mk 500 (Go.Addr.off { block := 500, off := 0 + Int.toNat x7 * 7 } + 3) Option.none))) = (Go.Value.pointer (Option.some (Go.Addr.mk 500 (Go.Addr.off { block := 500, off := 0 + Int.toNat x7 * 7 } + 3) Option.none)))) ∧
 ((bcase (decide (0 ≤ x7))
 (bcase (decide (x7 < (↑n0 : Int)))
 ((Go.Value.pointer (Option.some (Go.Addr.mk 500 (0 + Int.toNat x7 * 7) Option.none))) = (Go.Value.pointer (Option.some (Go.Addr.mk 500 (0 + Int.toNat x7 * 7) Option.none))))
 False)
 False) ∧
 (((vI x7) = (vI x7)) ∧
 (((Go.Value.slice (Option.some (Go.Addr.mk 500 0 Option.none)) (n0) (c1)) = (Go.Value.slice (Option.some (Go.Addr.mk 500 0 Option.none)) (n0) (c1))) ∧
 (((Go.Value.slice (Option.some (Go.Addr.mk 1004 0 Option.none)) (n13) (n13)) = (Go.Value.slice (Option.some (Go.Addr.mk 1004 0 Option.none)) (n13) (n13))) ∧
 (((Go.Value.pointer (Option.some (Go.Addr.mk 1000 3 Option.none))) = (Go.Value.pointer (Option.some (Go.Addr.mk 1000 3 Option.none)))) ∧
 (((Go.Value.pointer (Option.some (Go.Addr.mk 1000 2 Option.none))) = (Go.Value.pointer (Option.some (Go.Addr.mk 1000 2 Option.none)))) ∧
 (((vI (1 : Int)) = (vI (1 : Int))) ∧
 (((vI (1 : Int)) = (vI (1 : Int))) ∧
 True))))))))))) ∧
 (((((Go.Value.slice (Option.some (Go.Addr.mk 1012 0 Option.none)) 1 1) = (Go.Value.slice (Option.some (Go.Addr.mk 1012 0 Option.none)) 1 1)) ∧
 ((Option.some (AObj.cells [(vI n6)] 3 false 1)) = (Option.some (AObj.cells [(vI n6)] 3 false 1)))) ∧
 (((vI n6) = (vI n6)) ∧
 (((vI (1 : Int)) = (vI (1 : Int))) ∧
 (((Go.Value.pointer (Option.some (Go.Addr.mk 500 (Go.Addr.off { block := 500, off := 0 + Int.toNat x7 * 7 } + 3) Option.none))) = (Go.Value.pointer (Option.some (Go.Addr.mk 500 (Go.Addr.off { block := 500, off := 0 + Int.toNat x7 * 7 } + 3) Option.none)))) ∧
 ((bcase (decide (0 ≤ x7))
 (bcase (decide (x7 < (↑n0 : Int)))
 ((Go.Value.pointer (Option.some (Go.Addr.mk 500 (0 + Int.toNat x7 * 7) Option.none))) = (Go.Value.pointer (Option.some (Go.Addr.mk 500 (0 + Int.toNat x7 * 7) Option.none))))
 False)
 False) ∧
 (((vI x7) = (vI x7)) ∧
 (((Go.Value.slice (Option.some (Go.Addr.mk 500 0 Option.none)) (n0) (c1)) = (Go.Value.slice (Option.some (Go.Addr.mk 500 0 Option.none)) (n0) (c1))) ∧
 (((Go.Value.slice (Option.some (Go.Addr.mk 1004 0 Option.none)) (n13) (n13)) = (Go.Value.slice (Option.some (Go.Addr.mk 1004 0 Option.none)) (n13) (n13))) ∧
 (((Go.Value.pointer (Option.some (Go.Addr.mk 1000 3 Option.none))) = (Go.Value.pointer (Option.some (Go.Addr.mk 1000 3 Option.none)))) ∧
 (((Go.Value.pointer (Option.some (Go.Addr.mk 1000 2 Option.none))) = (Go.Value.pointer (Option.some (Go.Addr.mk 1000 2 Option.none)))) ∧
 (((vI (1 : Int)) = (vI (1 : Int))) ∧
 (((vI (1 : Int)) = (vI (1 : Int))) ∧
 True)))))))))))) ∧
 (bcase (decide (n13 < n13 + 1))
 (bcase (decide ((2 * (n13 + 1) + 768) * 8 ≤ 281474976710656))
 (bcase (decide (n13 + 1 ≤ 1099511627776))
 (bcase (decide (0 + n13 * 1 ≤ List.length l17))
 (bcase (decide (0 + n13 * 1 = List.length l17))
 ((((Go.Value.pointer (Option.some (Go.Addr.mk 1000 3 Option.none))) = (Go.Value.pointer (Option.some (Go.Addr.mk 1000 3 Option.none)))) ∧
 (((Go.Value.pointer (Option.some (Go.Addr.mk 1000 2 Option.none))) = (Go.Value.pointer (Option.some (Go.Addr.mk 1000 2 Option.none)))) ∧
 (((vI n6) = (vI n6)) ∧
 (((vI (1 : Int)) = (vI (1 : Int))) ∧
 (((Go.Value.pointer (Option.some (Go.Addr.mk 500 (Go.Addr.off { block := 500, off := 0 + Int.toNat x7 * 7 } + 3) Option.none))) = (Go.Value.pointer (Option.some (Go.Addr.mk 500 (Go.Addr.off { block := 500, off := 0 + Int.toNat x7 * 7 } + 3) Option.none)))) ∧
 ((bcase (decide (0 ≤ x7))
 (bcase (decide (x7 < (↑n0 : Int)))
 ((Go.Value.pointer (Option.some (Go.Addr.mk 500 (0 + Int.toNat x7 * 7) Option.none))) = (Go.Value.pointer (Option.some (Go.Addr.mk 500 (0 + Int.toNat x7 * 7) Option.none))))
 False)
 False) ∧
 (((vI x7) = (vI x7)) ∧
 (((Go.Value.slice (Option.some (Go.Addr.mk 500 0 Option.none)) (n0) (c1)) = (Go.Value.slice (Option.some (Go.Addr.mk 500 0 Option.none)) (n0) (c1))) ∧
 (((Go.Value.pointer (Option.some (Go.Addr.mk 1000 3 Option.none))) = (Go.Value.pointer (Option.some (Go.Addr.mk 1000 3 Option.none)))) ∧
 (((Go.Value.pointer (Option.some (Go.Addr.mk 1000 2 Option.none))) = (Go.Value.pointer (Option.some (Go.Addr.mk 1000 2 Option.none)))) ∧
 (((vI (1 : Int)) = (vI (1 : Int))) ∧
 (((vI (1 : Int)) = (vI (1 : Int))) ∧
 True)))))))))))) ∧
 ((((Go.Value.pointer (Option.some (Go.Addr.mk 1000 2 Option.none))) = (Go.Value.pointer (Option.some (Go.Addr.mk 1000 2 Option.none)))) ∧
 True) ∧
 (B [(Prod.mk 0 (Go.Value.slice (Option.some (Go.Addr.mk 500 0 Option.none)) (n0) (c1))), (Prod.mk 1 (Go.Value.slice (Option.some (Go.Addr.mk 501 0 Option.none)) (n2) (c3))), (Prod.mk 5 (Go.Value.pointer (Option.some (Go.Addr.mk 1000 0 Option.none)))), (Prod.mk 6 (vI (1 : Int))), (Prod.mk 9 (vI (1 : Int))), (Prod.mk 12 (Go.Value.slice (Option.some (Go.Addr.mk 501 0 Option.none)) (n4) (c5))), (Prod.mk 13 (vI x6)), (Prod.mk 14 (vI (IntKind.wrap .i64 (x7 + 1))))] [(Prod.mk 500 (AObj.sym (l8) false 7)), (Prod.mk 501 (AObj.sym (l9) false 2)), (Prod.mk 1000 (AObj.cells [(Go.Value.slice (Option.some (Go.Addr.mk 1001 0 Option.none)) (n10) (n10)), (Go.Value.slice (Option.some (Go.Addr.mk 1002 0 Option.none)) (n11) (n11)), (Go.Value.slice (Option.some (Go.Addr.mk 1003 0 Option.none)) (n12 + 1) (n12 + 1)), (Go.Value.slice (Option.some (Go.Addr.mk 1004 0 Option.none)) (n13 + 1) (n13 + 1))] 123 false 2)), (Prod.mk 1001 (AObj.sym (l14) true 1)), (Prod.mk 1002 (AObj.sym (l15) true 1)), (Prod.mk 1003 (AObj.sym ((List.take (n12 * 1) (List.drop 0 l16)) ++ [(vI n3)]) true 1)), (Prod.mk 1004 (AObj.sym ((List.take (n13 * 1) (List.drop 0 l17)) ++ [(vI n6)]) true 1))])))
 False)
 False)
 False)
 False)
 False))))))
 False)
 False)))
 False)
 False)
 False)
 False)
 False))))))
 False)
 False)
 (X 2 [(Prod.mk 0 (Go.Value.slice (Option.some (Go.Addr.mk 500 0 Option.none)) (n0) (c1))), (Prod.mk 1 (Go.Value.slice (Option.some (Go.Addr.mk 501 0 Option.none)) (n2) (c3))), (Prod.mk 5 (Go.Value.pointer (Option.some (Go.Addr.mk 1000 0 Option.none)))), (Prod.mk 9 (vI (1 : Int)))] [(Prod.mk 500 (AObj.sym (l8) false 7)), (Prod.mk 501 (AObj.sym (l9) false 2)), (Prod.mk 1000 (AObj.cells [(Go.Value.slice (Option.some (Go.Addr.mk 1001 0 Option.none)) (n10) (n10)), (Go.Value.slice (Option.some (Go.Addr.mk 1002 0 Option.none)) (n11) (n11)), (Go.Value.slice (Option.some (Go.Addr.mk 1003 0 Option.none)) (n12) (n12)), (Go.Value.slice (Option.some (Go.Addr.mk 1004 0 Option.none)) (n13) (n13))] 123 false 2)), (Prod.mk 1001 (AObj.sym (l14) true 1)), (Prod.mk 1002 (AObj.sym (l15) true 1)), (Prod.mk 1003 (AObj.sym (l16) true 1)), (Prod.mk 1004 (AObj.sym (l17) true 1))])) := by kernel_rfl
def iBa16 (C : Ct) (L : AtLoop) (n0 : Nat) (c1 : Nat) (n2 : Nat) (c3 : Nat) (l4 : List Value) (l5 : List Value) (n6 : Nat) (n7 : Nat) (n8 : Nat) (n9 : Nat) (l10 : List Value) (l11 : List Value) (l12 : List Value) (l13 : List Value) (B : Bx) (X : Xx) (k : List D → Prop) : Prop := jIn Try.prog (hK C) L [] 45 0 2 .normal [(0, (Value.slice (some ⟨500, 0, none⟩) n0 c1)), (1, (Value.slice (some ⟨501, 0, none⟩) n2 c3)), (5, (Value.pointer (some ⟨1000, 0, none⟩))), (9, (Value.int .i64 (1)))] [(500, (AObj.sym l4 false 7)), (501, (AObj.sym l5 false 2)), (1000, (AObj.cells [(Value.slice (some ⟨1001, 0, none⟩) n6 n6), (Value.slice (some ⟨1002, 0, none⟩) n7 n7), (Value.slice (some ⟨1003, 0, none⟩) n8 n8), (Value.slice (some ⟨1004, 0, none⟩) n9 n9)] 123 false 2)), (1001, (AObj.sym l10 true 1)), (1002, (AObj.sym l11 true 1)), (1003, (AObj.sym l12 true 1)), (1004, (AObj.sym l13 true 1))] B X (dataK k)
theorem iBa16_text (C : Ct) (L : AtLoop) (n0 : Nat) (c1 : Nat) (n2 : Nat) (c3 : Nat) (l4 : List Go.Value) (l5 : List Go.Value) (n6 : Nat) (n7 : Nat) (n8 : Nat) (n9 : Nat) (l10 : List Go.Value) (l11 : List Go.Value) (l12 : List Go.Value) (l13 : List Go.Value) (B : Bx) (X : Xx) (k : List D → Prop) : iBa16 C L n0 c1 n2 c3 l4 l5 n6 n7 n8 n9 l10 l11 l12 l13 B X k =
 (B [(Prod.mk 0 (Go.Value.slice (Option.some (Go.Addr.mk 500 0 Option.none)) (n0) (c1))), (Prod.mk 1 (Go.Value.slice (Option.some (Go.Addr.mk 501 0 Option.none)) (n2) (c3))), (Prod.mk 5 (Go.Value.pointer (Option.some (Go.Addr.mk 1000 0 Option.none)))), (Prod.mk 9 (vI (2 : Int)))] [(Prod.mk 500 (AObj.sym (l4) false 7)), (Prod.mk 501 (AObj.sym (l5) false 2)), (Prod.mk 1000 (AObj.cells [(Go.Value.slice (Option.some (Go.Addr.mk 1001 0 Option.none)) (n6) (n6)), (Go.Value.slice (Option.some (Go.Addr.mk 1002 0 Option.none)) (n7) (n7)), (Go.Value.slice (Option.some (Go.Addr.mk 1003 0 Option.none)) (n8) (n8)), (Go.Value.slice (Option.some (Go.Addr.mk 1004 0 Option.none)) (n9) (n9))] 123 false 2)), (Prod.mk 1001 (AObj.sym (l10) true 1)), (Prod.mk 1002 (AObj.sym (l11) true 1)), (Prod.mk 1003 (AObj.sym (l12) true 1)), (Prod.mk 1004 (AObj.sym (l13) true 1))]) := by kernel_rfl
def gBo (C : Ct) (L : AtLoop) (n0 : Nat) (c0 : Nat) (l0 : List Value) (n1 : Nat) (c1 : Nat) (l1 : List Value) (k : List D → Prop) : Prop := wpFn Try.prog (hE C) L 0 46 #[.slice (some ⟨500, 0, none⟩) n0 c0, .slice (some ⟨501, 0, none⟩) n1 c1] (heapOf [(500, .sym l0 false 1), (501, .sym l1 false 1)]) (dataK k)
theorem gBo_text (C : Ct) (L : AtLoop) (n0 : Nat) (c0 : Nat) (l0 : List Go.Value) (n1 : Nat) (c1 : Nat) (l1 : List Go.Value) (k : List D → Prop) : gBo C L n0 c0 l0 n1 c1 l1 k =
 (L 0 [(Prod.mk 1 (Go.Value.slice (Option.some (Go.Addr.mk 501 0 Option.none)) (n1) (c1))), (Prod.mk 5 (Go.Value.slice Option.none 0 0)), (Prod.mk 8 (Go.Value.slice (Option.some (Go.Addr.mk 500 0 Option.none)) (n0) (c0))), (Prod.mk 9 (vI ((↑n0 : Int)))), (Prod.mk 10 (vI (0 : Int)))] [(Prod.mk 501 (AObj.sym (l1) false 1)), (Prod.mk 500 (AObj.sym (l0) false 1))]) := by kernel_rfl
abbrev zBo1 (n0 : Nat) (c1 : Nat) (n2 : Nat) (c3 : Nat) (x4 : Int) (x5 : Int) (l6 : List Value) (l7 : List Value) : Slots × Blocks := ([(1, (Value.slice (some ⟨501, 0, none⟩) n0 c1)), (5, (Value.slice none 0 0)), (8, (Value.slice (some ⟨500, 0, none⟩) n2 c3)), (9, (Value.int .i64 x4)), (10, (Value.int .i64 x5))], [(501, (AObj.sym l6 false 1)), (500, (AObj.sym l7 false 1))])
def rBo1 (C : Ct) (L : AtLoop) (n0 : Nat) (c1 : Nat) (n2 : Nat) (c3 : Nat) (x4 : Int) (x5 : Int) (l6 : List Value) (l7 : List Value) (B : Bx) (X : Xx) (k : List D → Prop) : Prop := wpRound Try.prog (hE C) L 46 0 [(1, (Value.slice (some ⟨501, 0, none⟩) n0 c1)), (5, (Value.slice none 0 0)), (8, (Value.slice (some ⟨500, 0, none⟩) n2 c3)), (9, (Value.int .i64 x4)), (10, (Value.int .i64 x5))] [(501, (AObj.sym l6 false 1)), (500, (AObj.sym l7 false 1))] B X (dataK k)
theorem rBo1_text (C : Ct) (L : AtLoop) (n0 : Nat) (c1 : Nat) (n2 : Nat) (c3 : Nat) (x4 : Int) (x5 : Int) (l6 : List Go.Value) (l7 : List Go.Value) (B : Bx) (X : Xx) (k : List D → Prop) : rBo1 C L n0 c1 n2 c3 x4 x5 l6 l7 B X k =
 (bcase (decide (x5 < x4))
 (bcase (decide (0 ≤ x5))
 (bcase (decide (x5 < (↑n2 : Int)))
 (∃ n1 : Int,
 ((At (l7) (0 + Int.toNat x5 * 1) 1 [(vI n1)]) ∧
 (bcase (decide (0 ≤ x5))
 (bcase (decide (x5 < (↑n0 : Int)))
 (∃ n3 : Int,
 ((At (l6) (0 + Int.toNat x5 * 1) 1 [(vI n3)]) ∧
 (B [(Prod.mk 1 (Go.Value.slice (Option.some (Go.Addr.mk 501 0 Option.none)) (n0) (c1))), (Prod.mk 5 (Go.Value.slice (Option.some (Go.Addr.mk 1000 0 Option.none)) 1 1)), (Prod.mk 8 (Go.Value.slice (Option.some (Go.Addr.mk 500 0 Option.none)) (n2) (c3))), (Prod.mk 9 (vI x4)), (Prod.mk 10 (vI (IntKind.wrap .i64 (x5 + 1))))] [(Prod.mk 501 (AObj.sym (l6) false 1)), (Prod.mk 1000 (AObj.sym [(vI n1), (vI n3)] true 2)), (Prod.mk 500 (AObj.sym (l7) false 1))])))
 False)
 False)))
 False)
 False)
 (X 0 [(Prod.mk 5 (Go.Value.slice Option.none 0 0))] [])) := by kernel_rfl
abbrev zBo2 (n0 : Nat) (c1 : Nat) (n2 : Nat) (n3 : Nat) (c4 : Nat) (x5 : Int) (x6 : Int) (l7 : List Value) (l8 : List Value) (l9 : List Value) : Slots × Blocks := ([(1, (Value.slice (some ⟨501, 0, none⟩) n0 c1)), (5, (Value.slice (some ⟨1000, 0, none⟩) n2 n2)), (8, (Value.slice (some ⟨500, 0, none⟩) n3 c4)), (9, (Value.int .i64 x5)), (10, (Value.int .i64 x6))], [(501, (AObj.sym l7 false 1)), (1000, (AObj.sym l8 true 2)), (500, (AObj.sym l9 false 1))])
def rBo2 (C : Ct) (L : AtLoop) (n0 : Nat) (c1 : Nat) (n2 : Nat) (n3 : Nat) (c4 : Nat) (x5 : Int) (x6 : Int) (l7 : List Value) (l8 : List Value) (l9 : List Value) (B : Bx) (X : Xx) (k : List D → Prop) : Prop := wpRound Try.prog (hE C) L 46 0 [(1, (Value.slice (some ⟨501, 0, none⟩) n0 c1)), (5, (Value.slice (some ⟨1000, 0, none⟩) n2 n2)), (8, (Value.slice (some ⟨500, 0, none⟩) n3 c4)), (9, (Value.int .i64 x5)), (10, (Value.int .i64 x6))] [(501, (AObj.sym l7 false 1)), (1000, (AObj.sym l8 true 2)), (500, (AObj.sym l9 false 1))] B X (dataK k)
theorem rBo2_text (C : Ct) (L : AtLoop) (n0 : Nat) (c1 : Nat) (n2 : Nat) (n3 : Nat) (c4 : Nat) (x5 : Int) (x6 : Int) (l7 : List Go.Value) (l8 : List Go.Value) (l9 : List Go.Value) (B : Bx) (X : Xx) (k : List D → Prop) : rBo2 C L n0 c1 n2 n3 c4 x5 x6 l7 l8 l9 B X k =
 (bcase (decide (x6 < x5))
 (bcase (decide (0 ≤ x6))
 (bcase (decide (x6 < (↑n3 : Int)))
 (∃ n1 : Int,
 ((At (l9) (0 + Int.toNat x6 * 1) 1 [(vI n1)]) ∧
 (bcase (decide (0 ≤ x6))
 (bcase (decide (x6 < (↑n0 : Int)))
 (∃ n4 : Int,
 ((At (l7) (0 + Int.toNat x6 * 1) 1 [(vI n4)]) ∧
 (bcase (decide (n2 < n2 + 1))
 (bcase (decide ((2 * (n2 + 1) + 768) * 16 ≤ 281474976710656))
 (bcase (decide (n2 + 1 ≤ 1099511627776))
 (bcase (decide (0 + n2 * 2 ≤ List.length l8))
 (bcase (decide (0 + n2 * 2 = List.length l8))
 (B [(Prod.mk 1 (Go.Value.slice (Option.some (Go.Addr.mk 501 0 Option.none)) (n0) (c1))), (Prod.mk 5 (Go.Value.slice (Option.some (Go.Addr.mk 1000 0 Option.none)) (n2 + 1) (n2 + 1))), (Prod.mk 8 (Go.Value.slice (Option.some (Go.Addr.mk 500 0 Option.none)) (n3) (c4))), (Prod.mk 9 (vI x5)), (Prod.mk 10 (vI (IntKind.wrap .i64 (x6 + 1))))] [(Prod.mk 501 (AObj.sym (l7) false 1)), (Prod.mk 1000 (AObj.sym ((List.take (n2 * 2) (List.drop 0 l8)) ++ [(vI n1), (vI n4)]) true 2)), (Prod.mk 500 (AObj.sym (l9) false 1))])
 False)
 False)
 False)
 False)
 False)))
 False)
 False)))
 False)
 False)
 (X 0 [(Prod.mk 5 (Go.Value.slice (Option.some (Go.Addr.mk 1000 0 Option.none)) (n2) (n2)))] [(Prod.mk 1000 (AObj.sym (l8) true 2))])) := by kernel_rfl
def nBo4 (C : Ct) (L : AtLoop) (n0 : Nat) (l1 : List Value) (k : List D → Prop) : Prop := wpNext Try.prog (hE C) L 46 0 .normal [(5, (Value.slice (some ⟨1000, 0, none⟩) n0 n0))] [(1000, (AObj.sym l1 true 2))] (dataK k)
theorem nBo4_text (C : Ct) (L : AtLoop) (n0 : Nat) (l1 : List Go.Value) (k : List D → Prop) : nBo4 C L n0 l1 k =
 ((((n0) = (n0)) ∧
 ((List.length l1) = (n0 * 2))) ∧
 (k [(D.sl (n0) 2 (l1))])) := by kernel_rfl
def gBb (C : Ct) (L : AtLoop) (n0 : Nat) (c0 : Nat) (l0 : List Value) (n1 : Nat) (c1 : Nat) (l1 : List Value) (k : List D → Prop) : Prop := wpFn Try.prog (hE C) L 0 47 #[.slice (some ⟨500, 0, none⟩) n0 c0, .slice (some ⟨501, 0, none⟩) n1 c1] (heapOf [(500, .sym l0 false 2), (501, .sym l1 false 2)]) (dataK k)
theorem gBb_text (C : Ct) (L : AtLoop) (n0 : Nat) (c0 : Nat) (l0 : List Go.Value) (n1 : Nat) (c1 : Nat) (l1 : List Go.Value) (k : List D → Prop) : gBb C L n0 c0 l0 n1 c1 l1 k =
 (L 0 [(Prod.mk 1 (Go.Value.slice (Option.some (Go.Addr.mk 501 0 Option.none)) (n1) (c1))), (Prod.mk 5 (Go.Value.slice Option.none 0 0)), (Prod.mk 8 (Go.Value.slice (Option.some (Go.Addr.mk 500 0 Option.none)) (n0) (c0))), (Prod.mk 9 (vI ((↑n0 : Int)))), (Prod.mk 10 (vI (0 : Int)))] [(Prod.mk 501 (AObj.sym (l1) false 2)), (Prod.mk 500 (AObj.sym (l0) false 2))]) := by kernel_rfl
abbrev zBb1 (n0 : Nat) (c1 : Nat) (n2 : Nat) (c3 : Nat) (x4 : Int) (x5 : Int) (l6 : List Value) (l7 : List Value) : Slots × Blocks := ([(1, (Value.slice (some ⟨501, 0, none⟩) n0 c1)), (5, (Value.slice none 0 0)), (8, (Value.slice (some ⟨500, 0, none⟩) n2 c3)), (9, (Value.int .i64 x4)), (10, (Value.int .i64 x5))], [(501, (AObj.sym l6 false 2)), (500, (AObj.sym l7 false 2))])
def rBb1 (C : Ct) (L : AtLoop) (n0 : Nat) (c1 : Nat) (n2 : Nat) (c3 : Nat) (x4 : Int) (x5 : Int) (l6 : List Value) (l7 : List Value) (B : Bx) (X : Xx) (k : List D → Prop) : Prop := wpRound Try.prog (hE C) L 47 0 [(1, (Value.slice (some ⟨501, 0, none⟩) n0 c1)), (5, (Value.slice none 0 0)), (8, (Value.slice (some ⟨500, 0, none⟩) n2 c3)), (9, (Value.int .i64 x4)), (10, (Value.int .i64 x5))] [(501, (AObj.sym l6 false 2)), (500, (AObj.sym l7 false 2))] B X (dataK k)
theorem rBb1_text (C : Ct) (L : AtLoop) (n0 : Nat) (c1 : Nat) (n2 : Nat) (c3 : Nat) (x4 : Int) (x5 : Int) (l6 : List Go.Value) (l7 : List Go.Value) (B : Bx) (X : Xx) (k : List D → Prop) : rBb1 C L n0 c1 n2 c3 x4 x5 l6 l7 B X k =
 (bcase (decide (x5 < x4))
 (bcase (decide (0 ≤ x5))
 (bcase (decide (x5 < (↑n2 : Int)))
 (∃ n1 : Int,
 (∃ n3 : Int,
 ((At (l7) (0 + Int.toNat x5 * 2) 2 [(vI n1), (vI n3)]) ∧
 (bcase (decide (0 ≤ x5))
 (bcase (decide (x5 < (↑n0 : Int)))
 (∃ n4 : Int,
 ((At (l6) (0 + Int.toNat x5 * 2) 1 [(vI n4)]) ∧
 (bcase (decide (0 ≤ x5))
 (bcase (decide (x5 < (↑n0 : Int)))
 (∃ n5 : Int,
 ((At (l6) (Go.Addr.off { block := 501, off := 0 + Int.toNat x5 * 2 } + 1) 1 [(vI n5)]) ∧
 (((((Go.Value.slice (Option.some (Go.Addr.mk 1001 0 Option.none)) 1 1) = (Go.Value.slice (Option.some (Go.Addr.mk 1001 0 Option.none)) 1 1)) ∧
 ((Option.some (AObj.cells [(vI (if n4 < n1 then n4 else n1)), (vI (if n5 > n3 then n5 else n3))] 56 false 2)) = (Option.some (AObj.cells [(vI (if n4 < n1 then n4 else n1)), (vI (if n5 > n3 then n5 else n3))] 56 false 2)))) ∧
 (((Go.Value.agg [(vI (if n4 < n1 then n4 else n1)), (vI (if n5 > n3 then n5 else n3))].toArray) = (Go.Value.agg [(vI (if n4 < n1 then n4 else n1)), (vI (if n5 > n3 then n5 else n3))].toArray)) ∧
 (((vI (if n5 > n3 then n5 else n3)) = (vI (if n5 > n3 then n5 else n3))) ∧
 ((∃ n6 : Int,
 ((At (l6) (Go.Addr.off { block := 501, off := 0 + Int.toNat x5 * 2 } + 1) 1 [(vI n6)]) ∧
 ((vI n6) = (vI n5)))) ∧
 (((Go.Value.pointer (Option.some (Go.Addr.mk 501 (Go.Addr.off { block := 501, off := 0 + Int.toNat x5 * 2 } + 1) Option.none))) = (Go.Value.pointer (Option.some (Go.Addr.mk 501 (Go.Addr.off { block := 501, off := 0 + Int.toNat x5 * 2 } + 1) Option.none)))) ∧
 ((bcase (decide (0 ≤ x5))
 (bcase (decide (x5 < (↑n0 : Int)))
 ((Go.Value.pointer (Option.some (Go.Addr.mk 501 (0 + Int.toNat x5 * 2) Option.none))) = (Go.Value.pointer (Option.some (Go.Addr.mk 501 (0 + Int.toNat x5 * 2) Option.none))))
 False)
 False) ∧
 (((vI x5) = (vI x5)) ∧
 (((Go.Value.slice (Option.some (Go.Addr.mk 501 0 Option.none)) (n0) (c1)) = (Go.Value.slice (Option.some (Go.Addr.mk 501 0 Option.none)) (n0) (c1))) ∧
 (((vI n3) = (vI n3)) ∧
 (((Go.Value.pointer (Option.some (Go.Addr.mk 1000 1 Option.none))) = (Go.Value.pointer (Option.some (Go.Addr.mk 1000 1 Option.none)))) ∧
 (((vI (if n4 < n1 then n4 else n1)) = (vI (if n4 < n1 then n4 else n1))) ∧
 ((∃ n6 : Int,
 ((At (l6) (0 + Int.toNat x5 * 2) 1 [(vI n6)]) ∧
 ((vI n6) = (vI n4)))) ∧
 (((Go.Value.pointer (Option.some (Go.Addr.mk 501 (0 + Int.toNat x5 * 2) Option.none))) = (Go.Value.pointer (Option.some (Go.Addr.mk 501 (0 + Int.toNat x5 * 2) Option.none)))) ∧
 ((bcase (decide (0 ≤ x5))
 (bcase (decide (x5 < (↑n0 : Int)))
 ((Go.Value.pointer (Option.some (Go.Addr.mk 501 (0 + Int.toNat x5 * 2) Option.none))) = (Go.Value.pointer (Option.some (Go.Addr.mk 501 (0 + Int.toNat x5 * 2) Option.none))))
 False)
 False) ∧
 (((vI x5) = (vI x5)) ∧
 (((Go.Value.slice (Option.some (Go.Addr.mk 501 0 Option.none)) (n0) (c1)) = (Go.Value.slice (Option.some (Go.Addr.mk 501 0 Option.none)) (n0) (c1))) ∧
 (((vI n1) = (vI n1)) ∧
 (((Go.Value.pointer (Option.some (Go.Addr.mk 1000 0 Option.none))) = (Go.Value.pointer (Option.some (Go.Addr.mk 1000 0 Option.none)))) ∧
 (((Go.Value.slice Option.none 0 0) = (Go.Value.slice Option.none 0 0)) ∧
 True))))))))))))))))))) ∧
 ((((Go.Value.agg [(vI (if n4 < n1 then n4 else n1)), (vI (if n5 > n3 then n5 else n3))].toArray) = (Go.Value.agg [(vI (if n4 < n1 then n4 else n1)), (vI (if n5 > n3 then n5 else n3))].toArray)) ∧
 (((vI (if n5 > n3 then n5 else n3)) = (vI (if n5 > n3 then n5 else n3))) ∧
 ((∃ n6 : Int,
 ((At (l6) (Go.Addr.off { block := 501, off := 0 + Int.toNat x5 * 2 } + 1) 1 [(vI n6)]) ∧
 ((vI n6) = (vI n5)))) ∧
 (((Go.Value.pointer (Option.some (Go.Addr.mk 501 (Go.Addr.off { block := 501, off := 0 + Int.toNat x5 * 2 } + 1) Option.none))) = (Go.Value.pointer (Option.some (Go.Addr.mk 501 (Go.Addr.off { block := 501, off := 0 + Int.toNat x5 * 2 } + 1) Option.none)))) ∧
 ((bcase (decide (0 ≤ x5))
 (bcase (decide (x5 < (↑n0 : Int)))
 ((Go.Value.pointer (Option.some (Go.Addr.mk 501 (0 + Int.toNat x5 * 2) Option.none))) = (Go.Value.pointer (Option.some (Go.Addr.mk 501 (0 + Int.toNat x5 * 2) Option.none))))
 False)
 False) ∧
 (((vI x5) = (vI x5)) ∧
 (((Go.Value.slice (Option.some (Go.Addr.mk 501 0 Option.none)) (n0) (c1)) = (Go.Value.slice (Option.some (Go.Addr.mk 501 0 Option.none)) (n0) (c1))) ∧
 (((vI n3) = (vI n3)) ∧
 (((Go.Value.pointer (Option.some (Go.Addr.mk 1000 1 Option.none))) = (Go.Value.pointer (Option.some (Go.Addr.mk 1000 1 Option.none)))) ∧
 (((vI (if n4 < n1 then n4 else n1)) = (vI (if n4 < n1 then n4 else n1))) ∧
 ((∃ n6 : Int,
 ((At (l6) (0 + Int.toNat x5 * 2) 1 [(vI n6)]) ∧
 ((vI n6) = (vI n4)))) ∧
 (((Go.Value.pointer (Option.some (Go.Addr.mk 501 (0 + Int.toNat x5 * 2) Option.none))) = (Go.Value.pointer (Option.some (Go.Addr.mk 501 (0 + Int.toNat x5 * 2) Option.none)))) ∧
 ((bcase (decide (0 ≤ x5))
 (bcase (decide (x5 < (↑n0 : Int)))
 ((Go.Value.pointer (Option.some (Go.Addr.mk 501 (0 + Int.toNat x5 * 2) Option.none))) = (Go.Value.pointer (Option.some (Go.Addr.mk 501 (0 + Int.toNat x5 * 2) Option.none))))
 False)
 False) ∧
 (((vI x5) = (vI x5)) ∧
 (((Go.Value.slice (Option.some (Go.Addr.mk 501 0 Option.none)) (n0) (c1)) = (Go.Value.slice (Option.some (Go.Addr.mk 501 0 Option.none)) (n0) (c1))) ∧
 (((vI n1) = (vI n1)) ∧
 (((Go.Value.pointer (Option.some (Go.Addr.mk 1000 0 Option.none))) = (Go.Value.pointer (Option.some (Go.Addr.mk 1000 0 Option.none)))) ∧
 True))))))))))))))))) ∧
 (True ∧
 (B [(Prod.mk 1 (Go.Value.slice (Option.some (Go.Addr.mk 501 0 Option.none)) (n0) (c1))), (Prod.mk 5 (Go.Value.slice (Option.some (Go.Addr.mk 1000 0 Option.none)) 1 1)), (Prod.mk 8 (Go.Value.slice (Option.some (Go.Addr.mk 500 0 Option.none)) (n2) (c3))), (Prod.mk 9 (vI x4)), (Prod.mk 10 (vI (IntKind.wrap .i64 (x5 + 1))))] [(Prod.mk 501 (AObj.sym (l6) false 2)), (Prod.mk 1000 (AObj.sym [(vI (if n4 < n1 then n4 else n1)), (vI (if n5 > n3 then n5 else n3))] true 2)), (Prod.mk 500 (AObj.sym (l7) false 2))]))))))
 False)
 False)))
 False)
 False))))
 False)
 False)
 (X 0 [(Prod.mk 5 (Go.Value.slice Option.none 0 0))] [])) := by kernel_rfl
abbrev zBb2 (n0 : Nat) (c1 : Nat) (n2 : Nat) (n3 : Nat) (c4 : Nat) (x5 : Int) (x6 : Int) (l7 : List Value) (l8 : List Value) (l9 : List Value) : Slots × Blocks := ([(1, (Value.slice (some ⟨501, 0, none⟩) n0 c1)), (5, (Value.slice (some ⟨1000, 0, none⟩) n2 n2)), (8, (Value.slice (some ⟨500, 0, none⟩) n3 c4)), (9, (Value.int .i64 x5)), (10, (Value.int .i64 x6))], [(501, (AObj.sym l7 false 2)), (1000, (AObj.sym l8 true 2)), (500, (AObj.sym l9 false 2))])
def rBb2 (C : Ct) (L : AtLoop) (n0 : Nat) (c1 : Nat) (n2 : Nat) (n3 : Nat) (c4 : Nat) (x5 : Int) (x6 : Int) (l7 : List Value) (l8 : List Value) (l9 : List Value) (B : Bx) (X : Xx) (k : List D → Prop) : Prop := wpRound Try.prog (hE C) L 47 0 [(1, (Value.slice (some ⟨501, 0, none⟩) n0 c1)), (5, (Value.slice (some ⟨1000, 0, none⟩) n2 n2)), (8, (Value.slice (some ⟨500, 0, none⟩) n3 c4)), (9, (Value.int .i64 x5)), (10, (Value.int .i64 x6))] [(501, (AObj.sym l7 false 2)), (1000, (AObj.sym l8 true 2)), (500, (AObj.sym l9 false 2))] B X (dataK k)
theorem rBb2_text (C : Ct) (L : AtLoop) (n0 : Nat) (c1 : Nat) (n2 : Nat) (n3 : Nat) (c4 : Nat) (x5 : Int) (x6 : Int) (l7 : List Go.Value) (l8 : List Go.Value) (l9 : List Go.Value) (B : Bx) (X : Xx) (k : List D → Prop) : rBb2 C L n0 c1 n2 n3 c4 x5 x6 l7 l8 l9 B X k =
 (bcase (decide (x6 < x5))
 (bcase (decide (0 ≤ x6))
 (bcase (decide (x6 < (↑n3 : Int)))
 (∃ n1 : Int,
 (∃ n4 : Int,
 ((At (l9) (0 + Int.toNat x6 * 2) 2 [(vI n1), (vI n4)]) ∧
 (bcase (decide (0 ≤ x6))
 (bcase (decide (x6 < (↑n0 : Int)))
 (∃ n5 : Int,
 ((At (l7) (0 + Int.toNat x6 * 2) 1 [(vI n5)]) ∧
 (bcase (decide (0 ≤ x6))
 (bcase (decide (x6 < (↑n0 : Int)))
 (∃ n6 : Int,
 ((At (l7) (Go.Addr.off { block := 501, off := 0 + Int.toNat x6 * 2 } + 1) 1 [(vI n6)]) ∧
 (((((Go.Value.slice (Option.some (Go.Addr.mk 1002 0 Option.none)) 1 1) = (Go.Value.slice (Option.some (Go.Addr.mk 1002 0 Option.none)) 1 1)) ∧
 ((Option.some (AObj.cells [(vI (if n5 < n1 then n5 else n1)), (vI (if n6 > n4 then n6 else n4))] 56 false 2)) = (Option.some (AObj.cells [(vI (if n5 < n1 then n5 else n1)), (vI (if n6 > n4 then n6 else n4))] 56 false 2)))) ∧
 (((Go.Value.agg [(vI (if n5 < n1 then n5 else n1)), (vI (if n6 > n4 then n6 else n4))].toArray) = (Go.Value.agg [(vI (if n5 < n1 then n5 else n1)), (vI (if n6 > n4 then n6 else n4))].toArray)) ∧
 (((vI (if n6 > n4 then n6 else n4)) = (vI (if n6 > n4 then n6 else n4))) ∧
 ((∃ n7 : Int,
 ((At (l7) (Go.Addr.off { block := 501, off := 0 + Int.toNat x6 * 2 } + 1) 1 [(vI n7)]) ∧
 ((vI n7) = (vI n6)))) ∧
 (((Go.Value.pointer (Option.some (Go.Addr.mk 501 (Go.Addr.off { block := 501, off := 0 + Int.toNat x6 * 2 } + 1) Option.none))) = (Go.Value.pointer (Option.some (Go.Addr.mk 501 (Go.Addr.off { block := 501, off := 0 + Int.toNat x6 * 2 } + 1) Option.none)))) ∧
 ((bcase (decide (0 ≤ x6))
 (bcase (decide (x6 < (↑n0 : Int)))
 ((Go.Value.pointer (Option.some (Go.Addr.mk 501 (0 + Int.toNat x6 * 2) Option.none))) = (Go.Value.pointer (Option.some (Go.Addr.mk 501 (0 + Int.toNat x6 * 2) Option.none))))
 False)
 False) ∧
 (((vI x6) = (vI x6)) ∧
 (((Go.Value.slice (Option.some (Go.Addr.mk 501 0 Option.none)) (n0) (c1)) = (Go.Value.slice (Option.some (Go.Addr.mk 501 0 Option.none)) (n0) (c1))) ∧
 (((vI n4) = (vI n4)) ∧
 (((Go.Value.pointer (Option.some (Go.Addr.mk 1001 1 Option.none))) = (Go.Value.pointer (Option.some (Go.Addr.mk 1001 1 Option.none)))) ∧
 (((vI (if n5 < n1 then n5 else n1)) = (vI (if n5 < n1 then n5 else n1))) ∧
 ((∃ n7 : Int,
 ((At (l7) (0 + Int.toNat x6 * 2) 1 [(vI n7)]) ∧
 ((vI n7) = (vI n5)))) ∧
 (((Go.Value.pointer (Option.some (Go.Addr.mk 501 (0 + Int.toNat x6 * 2) Option.none))) = (Go.Value.pointer (Option.some (Go.Addr.mk 501 (0 + Int.toNat x6 * 2) Option.none)))) ∧
 ((bcase (decide (0 ≤ x6))
 (bcase (decide (x6 < (↑n0 : Int)))
 ((Go.Value.pointer (Option.some (Go.Addr.mk 501 (0 + Int.toNat x6 * 2) Option.none))) = (Go.Value.pointer (Option.some (Go.Addr.mk 501 (0 + Int.toNat x6 * 2) Option.none))))
 False)
 False) ∧
 (((vI x6) = (vI x6)) ∧
 (((Go.Value.slice (Option.some (Go.Addr.mk 501 0 Option.none)) (n0) (c1)) = (Go.Value.slice (Option.some (Go.Addr.mk 501 0 Option.none)) (n0) (c1))) ∧
 (((vI n1) = (vI n1)) ∧
 (((Go.Value.pointer (Option.some (Go.Addr.mk 1001 0 Option.none))) = (Go.Value.pointer (Option.some (Go.Addr.mk 1001 0 Option.none)))) ∧
 (((Go.Value.slice (Option.some (Go.Addr.mk 1000 0 Option.none)) (n2) (n2)) = (Go.Value.slice (Option.some (Go.Addr.mk 1000 0 Option.none)) (n2) (n2))) ∧
 True))))))))))))))))))) ∧
 (bcase (decide (n2 < n2 + 1))
 (bcase (decide ((2 * (n2 + 1) + 768) * 16 ≤ 281474976710656))
 (bcase (decide (n2 + 1 ≤ 1099511627776))
 (bcase (decide (0 + n2 * 2 ≤ List.length l8))
 (bcase (decide (0 + n2 * 2 = List.length l8))
 ((((Go.Value.agg [(vI (if n5 < n1 then n5 else n1)), (vI (if n6 > n4 then n6 else n4))].toArray) = (Go.Value.agg [(vI (if n5 < n1 then n5 else n1)), (vI (if n6 > n4 then n6 else n4))].toArray)) ∧
 (((vI (if n6 > n4 then n6 else n4)) = (vI (if n6 > n4 then n6 else n4))) ∧
 ((∃ n7 : Int,
 ((At (l7) (Go.Addr.off { block := 501, off := 0 + Int.toNat x6 * 2 } + 1) 1 [(vI n7)]) ∧
 ((vI n7) = (vI n6)))) ∧
 (((Go.Value.pointer (Option.some (Go.Addr.mk 501 (Go.Addr.off { block := 501, off := 0 + Int.toNat x6 * 2 } + 1) Option.none))) = (Go.Value.pointer (Option.some (Go.Addr.mk 501 (Go.Addr.off { block := 501, off := 0 + Int.toNat x6 * 2 } + 1) Option.none)))) ∧
 ((bcase (decide (0 ≤ x6))
 (bcase (decide (x6 < (↑n0 : Int)))
 ((Go.Value.pointer (Option.some (Go.Addr.mk 501 (0 + Int.toNat x6 * 2) Option.none))) = (Go.Value.pointer (Option.some (Go.Addr.mk 501 (0 + Int.toNat x6 * 2) Option.none))))
 False)
 False) ∧
 (((vI x6) = (vI x6)) ∧
 (((Go.Value.slice (Option.some (Go.Addr.mk 501 0 Option.none)) (n0) (c1)) = (Go.Value.slice (Option.some (Go.Addr.mk 501 0 Option.none)) (n0) (c1))) ∧
 (((vI n4) = (vI n4)) ∧
 (((Go.Value.pointer (Option.some (Go.Addr.mk 1001 1 Option.none))) = (Go.Value.pointer (Option.some (Go.Addr.mk 1001 1 Option.none)))) ∧
 (((vI (if n5 < n1 then n5 else n1)) = (vI (if n5 < n1 then n5 else n1))) ∧
 ((∃ n7 : Int,
 ((At (l7) (0 + Int.toNat x6 * 2) 1 [(vI n7)]) ∧
 ((vI n7) = (vI n5)))) ∧
 (((Go.Value.pointer (Option.some (Go.Addr.mk 501 (0 + Int.toNat x6 * 2) Option.none))) = (Go.Value.pointer (Option.some (Go.Addr.mk 501 (0 + Int.toNat x6 * 2) Option.none)))) ∧
 ((bcase (decide (0 ≤ x6))
 (bcase (decide (x6 < (↑n0 : Int)))
 ((Go.Value.pointer (Option.some (Go.Addr.mk 501 (0 + Int.toNat x6 * 2) Option.none))) = (Go.Value.pointer (Option.some (Go.Addr.mk 501 (0 + Int.toNat x6 * 2) Option.none))))
 False)
 False) ∧
 (((vI x6) = (vI x6)) ∧
 (((Go.Value.slice (Option.some (Go.Addr.mk 501 0 Option.none)) (n0) (c1)) = (Go.Value.slice (Option.some (Go.Addr.mk 501 0 Option.none)) (n0) (c1))) ∧
 (((vI n1) = (vI n1)) ∧
 (((Go.Value.pointer (Option.some (Go.Addr.mk 1001 0 Option.none))) = (Go.Value.pointer (Option.some (Go.Addr.mk 1001 0 Option.none)))) ∧
 True))))))))))))))))) ∧
 (True ∧
 (B [(Prod.mk 1 (Go.Value.slice (Option.some (Go.Addr.mk 501 0 Option.none)) (n0) (c1))), (Prod.mk 5 (Go.Value.slice (Option.some (Go.Addr.mk 1000 0 Option.none)) (n2 + 1) (n2 + 1))), (Prod.mk 8 (Go.Value.slice (Option.some (Go.Addr.mk 500 0 Option.none)) (n3) (c4))), (Prod.mk 9 (vI x5)), (Prod.mk 10 (vI (IntKind.wrap .i64 (x6 + 1))))] [(Prod.mk 501 (AObj.sym (l7) false 2)), (Prod.mk 1000 (AObj.sym ((List.take (n2 * 2) (List.drop 0 l8)) ++ [(vI (if n5 < n1 then n5 else n1)), (vI (if n6 > n4 then n6 else n4))]) true 2)), (Prod.mk 500 (AObj.sym (l9) false 2))])))
 False)
 False)
 False)
 False)
 False))))
 False)
 False)))
 False)
 False))))
 False)
 False)
 (X 0 [(Prod.mk 5 (Go.Value.slice (Option.some (Go.Addr.mk 1000 0 Option.none)) (n2) (n2)))] [(Prod.mk 1000 (AObj.sym (l8) true 2))])) := by kernel_rfl
def nBb4 (C : Ct) (L : AtLoop) (n0 : Nat) (l1 : List Value) (k : List D → Prop) : Prop := wpNext Try.prog (hE C) L 47 0 .normal [(5, (Value.slice (some ⟨1000, 0, none⟩) n0 n0))] [(1000, (AObj.sym l1 true 2))] (dataK k)
theorem nBb4_text (C : Ct) (L : AtLoop) (n0 : Nat) (l1 : List Go.Value) (k : List D → Prop) : nBb4 C L n0 l1 k =
 ((((n0) = (n0)) ∧
 ((List.length l1) = (n0 * 2))) ∧
 (k [(D.sl (n0) 2 (l1))])) := by kernel_rfl
def rBa20 (C : Ct) (L : AtLoop) (n0 : Nat) (c1 : Nat) (n2 : Nat) (c3 : Nat) (l4 : List Value) (l7 : List Value) (n3 : Nat) (n4 : Nat) (n8 : Nat) (n9 : Nat) (l5 : List Value) (l6 : List Value) (l10 : List Value) (l11 : List Value) (B : Bx) (X : Xx) (k : List D → Prop) : Prop := jRound Try.prog (hK C) L [] 45 0 [(0, (Value.slice (some ⟨500, 0, none⟩) n0 c1)), (1, (Value.slice (some ⟨501, 0, none⟩) n2 c3)), (5, (Value.pointer (some ⟨1000, 0, none⟩))), (9, (Value.int .i64 (2)))] [(500, (AObj.sym l4 false 7)), (501, (AObj.sym l7 false 2)), (1000, (AObj.cells [(Value.slice (some ⟨1001, 0, none⟩) n3 n3), (Value.slice (some ⟨1002, 0, none⟩) n4 n4), (Value.slice (some ⟨1003, 0, none⟩) n8 n8), (Value.slice (some ⟨1004, 0, none⟩) n9 n9)] 123 false 2)), (1001, (AObj.sym l5 true 1)), (1002, (AObj.sym l6 true 1)), (1003, (AObj.sym l10 true 1)), (1004, (AObj.sym l11 true 1))] B X (dataK k)
theorem rBa20_text (C : Ct) (L : AtLoop) (n0 : Nat) (c1 : Nat) (n2 : Nat) (c3 : Nat) (l4 : List Go.Value) (l7 : List Go.Value) (n3 : Nat) (n4 : Nat) (n8 : Nat) (n9 : Nat) (l5 : List Go.Value) (l6 : List Go.Value) (l10 : List Go.Value) (l11 : List Go.Value) (B : Bx) (X : Xx) (k : List D → Prop) : rBa20 C L n0 c1 n2 c3 l4 l7 n3 n4 n8 n9 l5 l6 l10 l11 B X k =
 (X 0 [(Prod.mk 0 (Go.Value.slice (Option.some (Go.Addr.mk 500 0 Option.none)) (n0) (c1))), (Prod.mk 5 (Go.Value.pointer (Option.some (Go.Addr.mk 1000 0 Option.none))))] [(Prod.mk 500 (AObj.sym (l4) false 7)), (Prod.mk 1000 (AObj.cells [(Go.Value.slice (Option.some (Go.Addr.mk 1001 0 Option.none)) (n3) (n3)), (Go.Value.slice (Option.some (Go.Addr.mk 1002 0 Option.none)) (n4) (n4)), (Go.Value.slice (Option.some (Go.Addr.mk 1003 0 Option.none)) (n8) (n8)), (Go.Value.slice (Option.some (Go.Addr.mk 1004 0 Option.none)) (n9) (n9))] 123 false 2)), (Prod.mk 1001 (AObj.sym (l5) true 1)), (Prod.mk 1002 (AObj.sym (l6) true 1)), (Prod.mk 1003 (AObj.sym (l10) true 1)), (Prod.mk 1004 (AObj.sym (l11) true 1))]) := by kernel_rfl
def nBa30 (C : Ct) (L : AtLoop) (n0 : Nat) (c1 : Nat) (l2 : List Value) (n3 : Nat) (n4 : Nat) (n8 : Nat) (n9 : Nat) (l5 : List Value) (l6 : List Value) (l10 : List Value) (l11 : List Value) (k : List D → Prop) : Prop := jNext Try.prog (hK C) L [] 45 0 .normal [(0, (Value.slice (some ⟨500, 0, none⟩) n0 c1)), (5, (Value.pointer (some ⟨1000, 0, none⟩)))] [(500, (AObj.sym l2 false 7)), (1000, (AObj.cells [(Value.slice (some ⟨1001, 0, none⟩) n3 n3), (Value.slice (some ⟨1002, 0, none⟩) n4 n4), (Value.slice (some ⟨1003, 0, none⟩) n8 n8), (Value.slice (some ⟨1004, 0, none⟩) n9 n9)] 123 false 2)), (1001, (AObj.sym l5 true 1)), (1002, (AObj.sym l6 true 1)), (1003, (AObj.sym l10 true 1)), (1004, (AObj.sym l11 true 1))] (dataK k)
theorem nBa30_text (C : Ct) (L : AtLoop) (n0 : Nat) (c1 : Nat) (l2 : List Go.Value) (n3 : Nat) (n4 : Nat) (n8 : Nat) (n9 : Nat) (l5 : List Go.Value) (l6 : List Go.Value) (l10 : List Go.Value) (l11 : List Go.Value) (k : List D → Prop) : nBa30 C L n0 c1 l2 n3 n4 n8 n9 l5 l6 l10 l11 k =
 ((((Go.Value.agg [(Go.Value.slice (Option.some (Go.Addr.mk 1003 0 Option.none)) (n8) (n8)), (Go.Value.slice (Option.some (Go.Addr.mk 1004 0 Option.none)) (n9) (n9))].toArray) = (Go.Value.agg [(Go.Value.slice (Option.some (Go.Addr.mk 1003 0 Option.none)) (n8) (n8)), (Go.Value.slice (Option.some (Go.Addr.mk 1004 0 Option.none)) (n9) (n9))].toArray)) ∧
 (((Go.Value.pointer (Option.some (Go.Addr.mk 1000 2 Option.none))) = (Go.Value.pointer (Option.some (Go.Addr.mk 1000 2 Option.none)))) ∧
 (((Go.Value.slice (Option.some (Go.Addr.mk 500 0 Option.none)) (n0) (c1)) = (Go.Value.slice (Option.some (Go.Addr.mk 500 0 Option.none)) (n0) (c1))) ∧
 (((Go.Value.agg [(Go.Value.slice (Option.some (Go.Addr.mk 1001 0 Option.none)) (n3) (n3)), (Go.Value.slice (Option.some (Go.Addr.mk 1002 0 Option.none)) (n4) (n4))].toArray) = (Go.Value.agg [(Go.Value.slice (Option.some (Go.Addr.mk 1001 0 Option.none)) (n3) (n3)), (Go.Value.slice (Option.some (Go.Addr.mk 1002 0 Option.none)) (n4) (n4))].toArray)) ∧
 (((Go.Value.pointer (Option.some (Go.Addr.mk 1000 0 Option.none))) = (Go.Value.pointer (Option.some (Go.Addr.mk 1000 0 Option.none)))) ∧
 (((Go.Value.slice (Option.some (Go.Addr.mk 500 0 Option.none)) (n0) (c1)) = (Go.Value.slice (Option.some (Go.Addr.mk 500 0 Option.none)) (n0) (c1))) ∧
 True)))))) ∧
 (bcase (decide (0 + n0 * 7 ≤ List.length l2))
 (bcase (decide (0 + n3 * 1 ≤ List.length l5))
 (bcase (decide (0 + n4 * 1 ≤ List.length l6))
 (((Says C 41 [(D.sl (n0) 7 (List.take (n0 * 7) (List.drop 0 l2))), (D.agg [(D.sl (n3) 1 (List.take (n3 * 1) (List.drop 0 l5))), (D.sl (n4) 1 (List.take (n4 * 1) (List.drop 0 l6)))])] [D.nil]) ∧
 ((((Go.Value.agg [(Go.Value.slice (Option.some (Go.Addr.mk 1003 0 Option.none)) (n8) (n8)), (Go.Value.slice (Option.some (Go.Addr.mk 1004 0 Option.none)) (n9) (n9))].toArray) = (Go.Value.agg [(Go.Value.slice (Option.some (Go.Addr.mk 1003 0 Option.none)) (n8) (n8)), (Go.Value.slice (Option.some (Go.Addr.mk 1004 0 Option.none)) (n9) (n9))].toArray)) ∧
 (((Go.Value.pointer (Option.some (Go.Addr.mk 1000 2 Option.none))) = (Go.Value.pointer (Option.some (Go.Addr.mk 1000 2 Option.none)))) ∧
 (((Go.Value.slice (Option.some (Go.Addr.mk 500 0 Option.none)) (n0) (c1)) = (Go.Value.slice (Option.some (Go.Addr.mk 500 0 Option.none)) (n0) (c1))) ∧
 (((Go.Value.pointer (Option.some (Go.Addr.mk 1000 0 Option.none))) = (Go.Value.pointer (Option.some (Go.Addr.mk 1000 0 Option.none)))) ∧
 True)))) ∧
 (bcase (decide (0 + n0 * 7 ≤ List.length l2))
 (bcase (decide (0 + n8 * 1 ≤ List.length l10))
 (bcase (decide (0 + n9 * 1 ≤ List.length l11))
 (((Says C 41 [(D.sl (n0) 7 (List.take (n0 * 7) (List.drop 0 l2))), (D.agg [(D.sl (n8) 1 (List.take (n8 * 1) (List.drop 0 l10))), (D.sl (n9) 1 (List.take (n9 * 1) (List.drop 0 l11)))])] [D.nil]) ∧
 ((((Go.Value.pointer (Option.some (Go.Addr.mk 1000 2 Option.none))) = (Go.Value.pointer (Option.some (Go.Addr.mk 1000 2 Option.none)))) ∧
 (((Go.Value.pointer (Option.some (Go.Addr.mk 1000 0 Option.none))) = (Go.Value.pointer (Option.some (Go.Addr.mk 1000 0 Option.none)))) ∧
 True)) ∧
 (((Says C 46 [D.nil, D.nil] [D.nil]) ∧
 ((((Go.Value.pointer (Option.some (Go.Addr.mk 1000 2 Option.none))) = (Go.Value.pointer (Option.some (Go.Addr.mk 1000 2 Option.none)))) ∧
 (((Go.Value.pointer (Option.some (Go.Addr.mk 1000 0 Option.none))) = (Go.Value.pointer (Option.some (Go.Addr.mk 1000 0 Option.none)))) ∧
 True)) ∧
 (True ∧
 (k [D.nil])))) ∨
 (∃ n1 : Nat,
 (∃ cs1 : List Go.Value,
 ((Says C 46 [D.nil, D.nil] [(D.sl (n1) 2 (cs1))]) ∧
 ((((Go.Value.pointer (Option.some (Go.Addr.mk 1000 2 Option.none))) = (Go.Value.pointer (Option.some (Go.Addr.mk 1000 2 Option.none)))) ∧
 (((Go.Value.pointer (Option.some (Go.Addr.mk 1000 0 Option.none))) = (Go.Value.pointer (Option.some (Go.Addr.mk 1000 0 Option.none)))) ∧
 True)) ∧
 (True ∧
 ((((n1) = (n1)) ∧
 ((List.length cs1) = (n1 * 2))) ∧
 (k [(D.sl (n1) 2 (cs1))])))))))))) ∨
 (∃ n1 : Nat,
 (∃ cs1 : List Go.Value,
 ((Says C 41 [(D.sl (n0) 7 (List.take (n0 * 7) (List.drop 0 l2))), (D.agg [(D.sl (n8) 1 (List.take (n8 * 1) (List.drop 0 l10))), (D.sl (n9) 1 (List.take (n9 * 1) (List.drop 0 l11)))])] [(D.sl (n1) 1 (cs1))]) ∧
 ((((Go.Value.pointer (Option.some (Go.Addr.mk 1000 2 Option.none))) = (Go.Value.pointer (Option.some (Go.Addr.mk 1000 2 Option.none)))) ∧
 (((Go.Value.pointer (Option.some (Go.Addr.mk 1000 0 Option.none))) = (Go.Value.pointer (Option.some (Go.Addr.mk 1000 0 Option.none)))) ∧
 True)) ∧
 (bcase (decide (0 + n1 * 1 ≤ List.length cs1))
 (((Says C 46 [D.nil, (D.sl (n1) 1 (List.take (n1 * 1) (List.drop 0 cs1)))] [D.nil]) ∧
 ((((Go.Value.pointer (Option.some (Go.Addr.mk 1000 2 Option.none))) = (Go.Value.pointer (Option.some (Go.Addr.mk 1000 2 Option.none)))) ∧
 (((Go.Value.pointer (Option.some (Go.Addr.mk 1000 0 Option.none))) = (Go.Value.pointer (Option.some (Go.Addr.mk 1000 0 Option.none)))) ∧
 True)) ∧
 (True ∧
 (k [D.nil])))) ∨
 (∃ n2 : Nat,
 (∃ cs2 : List Go.Value,
 ((Says C 46 [D.nil, (D.sl (n1) 1 (List.take (n1 * 1) (List.drop 0 cs1)))] [(D.sl (n2) 2 (cs2))]) ∧
 ((((Go.Value.pointer (Option.some (Go.Addr.mk 1000 2 Option.none))) = (Go.Value.pointer (Option.some (Go.Addr.mk 1000 2 Option.none)))) ∧
 (((Go.Value.pointer (Option.some (Go.Addr.mk 1000 0 Option.none))) = (Go.Value.pointer (Option.some (Go.Addr.mk 1000 0 Option.none)))) ∧
 True)) ∧
 (True ∧
 ((((n2) = (n2)) ∧
 ((List.length cs2) = (n2 * 2))) ∧
 (k [(D.sl (n2) 2 (cs2))]))))))))
 False))))))
 False)
 False)
 False))) ∨
 (∃ n1 : Nat,
 (∃ cs1 : List Go.Value,
 ((Says C 41 [(D.sl (n0) 7 (List.take (n0 * 7) (List.drop 0 l2))), (D.agg [(D.sl (n3) 1 (List.take (n3 * 1) (List.drop 0 l5))), (D.sl (n4) 1 (List.take (n4 * 1) (List.drop 0 l6)))])] [(D.sl (n1) 1 (cs1))]) ∧
 ((((Go.Value.agg [(Go.Value.slice (Option.some (Go.Addr.mk 1003 0 Option.none)) (n8) (n8)), (Go.Value.slice (Option.some (Go.Addr.mk 1004 0 Option.none)) (n9) (n9))].toArray) = (Go.Value.agg [(Go.Value.slice (Option.some (Go.Addr.mk 1003 0 Option.none)) (n8) (n8)), (Go.Value.slice (Option.some (Go.Addr.mk 1004 0 Option.none)) (n9) (n9))].toArray)) ∧
 (((Go.Value.pointer (Option.some (Go.Addr.mk 1000 2 Option.none))) = (Go.Value.pointer (Option.some (Go.Addr.mk 1000 2 Option.none)))) ∧
 (((Go.Value.slice (Option.some (Go.Addr.mk 500 0 Option.none)) (n0) (c1)) = (Go.Value.slice (Option.some (Go.Addr.mk 500 0 Option.none)) (n0) (c1))) ∧
 (((Go.Value.pointer (Option.some (Go.Addr.mk 1000 0 Option.none))) = (Go.Value.pointer (Option.some (Go.Addr.mk 1000 0 Option.none)))) ∧
 True)))) ∧
 (bcase (decide (0 + n0 * 7 ≤ List.length l2))
 (bcase (decide (0 + n8 * 1 ≤ List.length l10))
 (bcase (decide (0 + n9 * 1 ≤ List.length l11))
 (((Says C 41 [(D.sl (n0) 7 (List.take (n0 * 7) (List.drop 0 l2))), (D.agg [(D.sl (n8) 1 (List.take (n8 * 1) (List.drop 0 l10))), (D.sl (n9) 1 (List.take (n9 * 1) (List.drop 0 l11)))])] [D.nil]) ∧
 ((((Go.Value.pointer (Option.some (Go.Addr.mk 1000 2 Option.none))) = (Go.Value.pointer (Option.some (Go.Addr.mk 1000 2 Option.none)))) ∧
 (((Go.Value.pointer (Option.some (Go.Addr.mk 1000 0 Option.none))) = (Go.Value.pointer (Option.some (Go.Addr.mk 1000 0 Option.none)))) ∧
 True)) ∧
 (bcase (decide (0 + n1 * 1 ≤ List.length cs1))
 (((Says C 46 [(D.sl (n1) 1 (List.take (n1 * 1) (List.drop 0 cs1))), D.nil] [D.nil]) ∧
 ((((Go.Value.pointer (Option.some (Go.Addr.mk 1000 2 Option.none))) = (Go.Value.pointer (Option.some (Go.Addr.mk 1000 2 Option.none)))) ∧
 (((Go.Value.pointer (Option.some (Go.Addr.mk 1000 0 Option.none))) = (Go.Value.pointer (Option.some (Go.Addr.mk 1000 0 Option.none)))) ∧
 True)) ∧
 (True ∧
 (k [D.nil])))) ∨
 (∃ n2 : Nat,
 (∃ cs2 : List Go.Value,
 ((Says C 46 [(D.sl (n1) 1 (List.take (n1 * 1) (List.drop 0 cs1))), D.nil] [(D.sl (n2) 2 (cs2))]) ∧
 ((((Go.Value.pointer (Option.some (Go.Addr.mk 1000 2 Option.none))) = (Go.Value.pointer (Option.some (Go.Addr.mk 1000 2 Option.none)))) ∧
 (((Go.Value.pointer (Option.some (Go.Addr.mk 1000 0 Option.none))) = (Go.Value.pointer (Option.some (Go.Addr.mk 1000 0 Option.none)))) ∧
 True)) ∧
 (True ∧
 ((((n2) = (n2)) ∧
 ((List.length cs2) = (n2 * 2))) ∧
 (k [(D.sl (n2) 2 (cs2))]))))))))
 False))) ∨
 (∃ n2 : Nat,
 (∃ cs2 : List Go.Value,
 ((Says C 41 [(D.sl (n0) 7 (List.take (n0 * 7) (List.drop 0 l2))), (D.agg [(D.sl (n8) 1 (List.take (n8 * 1) (List.drop 0 l10))), (D.sl (n9) 1 (List.take (n9 * 1) (List.drop 0 l11)))])] [(D.sl (n2) 1 (cs2))]) ∧
 ((((Go.Value.pointer (Option.some (Go.Addr.mk 1000 2 Option.none))) = (Go.Value.pointer (Option.some (Go.Addr.mk 1000 2 Option.none)))) ∧
 (((Go.Value.pointer (Option.some (Go.Addr.mk 1000 0 Option.none))) = (Go.Value.pointer (Option.some (Go.Addr.mk 1000 0 Option.none)))) ∧
 True)) ∧
 (bcase (decide (0 + n1 * 1 ≤ List.length cs1))
 (bcase (decide (0 + n2 * 1 ≤ List.length cs2))
 (((Says C 46 [(D.sl (n1) 1 (List.take (n1 * 1) (List.drop 0 cs1))), (D.sl (n2) 1 (List.take (n2 * 1) (List.drop 0 cs2)))] [D.nil]) ∧
 ((((Go.Value.pointer (Option.some (Go.Addr.mk 1000 2 Option.none))) = (Go.Value.pointer (Option.some (Go.Addr.mk 1000 2 Option.none)))) ∧
 (((Go.Value.pointer (Option.some (Go.Addr.mk 1000 0 Option.none))) = (Go.Value.pointer (Option.some (Go.Addr.mk 1000 0 Option.none)))) ∧
 True)) ∧
 (True ∧
 (k [D.nil])))) ∨
 (∃ n5 : Nat,
 (∃ cs3 : List Go.Value,
 ((Says C 46 [(D.sl (n1) 1 (List.take (n1 * 1) (List.drop 0 cs1))), (D.sl (n2) 1 (List.take (n2 * 1) (List.drop 0 cs2)))] [(D.sl (n5) 2 (cs3))]) ∧
 ((((Go.Value.pointer (Option.some (Go.Addr.mk 1000 2 Option.none))) = (Go.Value.pointer (Option.some (Go.Addr.mk 1000 2 Option.none)))) ∧
 (((Go.Value.pointer (Option.some (Go.Addr.mk 1000 0 Option.none))) = (Go.Value.pointer (Option.some (Go.Addr.mk 1000 0 Option.none)))) ∧
 True)) ∧
 (True ∧
 ((((n5) = (n5)) ∧
 ((List.length cs3) = (n5 * 2))) ∧
 (k [(D.sl (n5) 2 (cs3))]))))))))
 False)
 False))))))
 False)
 False)
 False))))))
 False)
 False)
 False)) := by kernel_rfl
end Go.Proofs.G5b

/- Chapter 5: boxes out of lists, both of two boxes, the box after a tick, in data. -/
namespace Go.Proofs.G5b
open Go Go.Abs Go.Proofs Go.Proofs.G5
set_option maxRecDepth 100000
theorem preKOK : PreOK Try.prog (preK C5) := by
  intro g h he args ats H k hk
  unfold preK at he
  split at he
  · rename_i e
    obtain rfl := Option.some.inj he
    rw [beq_iff_eq] at e
    subst e
    exact wpState_call (fun args bs K hk => wit_ok hk) hk
  · split at he
    · obtain rfl := Option.some.inj he
      exact fixH_ok (fun _ _ _ h => h) _ _ _ _ _ hk
    · split at he
      · obtain rfl := Option.some.inj he
        exact fixH_ok (fun _ _ _ h => h) _ _ _ _ _ hk
      · split at he
        · obtain rfl := Option.some.inj he
          exact fixH_ok (fun _ _ _ h => h) _ _ _ _ _ hk
        · split at he
          · obtain rfl := Option.some.inj he
            exact saidH_ok (fun _ _ _ h => h) _ _ _ _ _ hk
          · cases he
theorem hokK : HandlerOK Try.prog (hK C5) := handlerX_ok mixed preKOK (by decide) 6
abbrev boF (a b : List Int) (j : Nat) : Int × Int := (a.getD j 0, b.getD j 0)
abbrev boS (a b : List Int) (c1 c2 : Nat) : Nat → Slots × Blocks
  | 0 => zBo1 b.length c2 a.length c1 a.length 0 (vi b) (vi a)
  | i + 1 => zBo2 b.length c2 (i + 1) a.length c1 a.length ((i + 1 : Nat) : Int) (vi b) (vp ((List.range (i + 1)).map (boF a b))) (vi a)
theorem conBo {a b : List Int} (hl : b.length = a.length) (h0 : 0 < a.length) (hn : a.length ≤ 1000) : C5 46 [.sl a.length 1 (vi a), .sl b.length 1 (vi b)] [.sl a.length 2 (vp (bxOf a b))] := by
  let inv : Nat × Nat × Nat → Prop := fun y => y.1 ≤ a.length
  let st : Nat × Nat × Nat → Slots × Blocks := fun y => boS a b y.2.1 y.2.2 y.1
  refine con_of (L := fun _ s b => ∃ x, inv x ∧ st x = (s, b)) hokE' mixed Try.func46 rfl (by show 2 ≤ 400; omega) rfl (ids := [0]) (by kernel_rfl) rfl (fun caps => ?_) (fun id hid => ?_)
  · show gBo _ _ a.length (caps 500) (vi a) b.length (caps 501) (vi b) _
    rw [gBo_text]
    exact ⟨(0, caps 500, caps 501), Nat.zero_le _, rfl⟩
  · obtain rfl := List.mem_singleton.1 hid
    refine ⟨_, st, inv, fun y => a.length - y.1, ⟨fun s b h => h, by kernel_rfl, ?_⟩⟩
    rintro ⟨i, c1, c2⟩ hi
    have hi : i ≤ a.length := hi
    have wi : i < a.length → IntKind.wrap .i64 ((i : Int) + 1) = ((i + 1 : Nat) : Int) := fun h => by rw [w64 (by omega) (by omega)]; rfl
    cases i with
    | zero =>
      show rBo1 _ _ b.length c2 a.length c1 a.length ((0 : Nat) : Int) (vi b) (vi a) _ _ _
      rw [rBo1_text]
      simp only [bc_t (show ((0 : Nat) : Int) < (a.length : Int) by omega), bc_t (show ((0 : Nat) : Int) < (b.length : Int) by omega), bc_t (show (0 : Int) ≤ ((0 : Nat) : Int) by omega), Int.toNat_natCast, at1 (vi_at a 0 h0), at1 (vi_at b 0 (by omega)), wi h0]
      refine ⟨(1, c1, c2), h0, by show a.length - 1 < a.length - 0; omega, ?_⟩
      rw [← gd_at (d := 0) h0, ← gd_at (d := 0) (show 0 < b.length by omega)]
      rfl
    | succ i =>
      show rBo2 _ _ b.length c2 (i + 1) a.length c1 a.length ((i + 1 : Nat) : Int) (vi b) (vp ((List.range (i + 1)).map (boF a b))) (vi a) _ _ _
      rw [rBo2_text]
      refine bc_dec (fun h => ?_) (fun h => ?_)
      · have h1 : i + 1 < a.length := by omega
        simp only [bc_t h, bc_t (show ((i + 1 : Nat) : Int) < (b.length : Int) by omega), bc_t (show (0 : Int) ≤ ((i + 1 : Nat) : Int) by omega), Int.toNat_natCast, at1 (vi_at a (i + 1) h1), at1 (vi_at b (i + 1) (by omega)), wi h1, rp_take]
        refine bc_yes (by omega) (bc_yes (by omega) (bc_yes (by omega) (bc_yes (by simp) (bc_yes (by simp) ⟨(i + 2, c1, c2), h1, by show a.length - (i + 2) < a.length - (i + 1); omega, ?_⟩))))
        have e := rp_snoc (boF a b) (i + 1)
        rw [← gd_at (d := 0) h1, ← gd_at (d := 0) (show i + 1 < b.length by omega)]
        show (_, [(501, AObj.sym (vi b) false 1), (1000, AObj.sym (vp ((List.range (i + 1 + 1)).map (boF a b))) true 2), (500, AObj.sym (vi a) false 1)]) = _
        rw [← e]
      · show (if 0 = 0 then _ else _)
        rw [if_pos rfl]
        show nBo4 _ _ (i + 1) (vp ((List.range (i + 1)).map (boF a b))) _
        rw [nBo4_text]
        refine ⟨⟨rfl, by simp⟩, ?_⟩
        have : i + 1 = a.length := by omega
        show _ = _
        rw [bxOf, ← this]
abbrev bbF (a b : Bxs) (j : Nat) : Int × Int := (mnI (a.getD j (0, 0)).1 (b.getD j (0, 0)).1, mxI (a.getD j (0, 0)).2 (b.getD j (0, 0)).2)
abbrev bbS (a b : Bxs) (c1 c2 : Nat) : Nat → Slots × Blocks
  | 0 => zBb1 b.length c2 a.length c1 a.length 0 (vp b) (vp a)
  | i + 1 => zBb2 b.length c2 (i + 1) a.length c1 a.length ((i + 1 : Nat) : Int) (vp b) (vp ((List.range (i + 1)).map (bbF a b))) (vp a)
theorem conBb {a b : Bxs} (hl : b.length = a.length) (h0 : 0 < a.length) (hn : a.length ≤ 1000) : C5 47 [.sl a.length 2 (vp a), .sl b.length 2 (vp b)] [.sl a.length 2 (vp (bth a b))] := by
  let inv : Nat × Nat × Nat → Prop := fun y => y.1 ≤ a.length
  let st : Nat × Nat × Nat → Slots × Blocks := fun y => bbS a b y.2.1 y.2.2 y.1
  refine con_of (L := fun _ s b => ∃ x, inv x ∧ st x = (s, b)) hokE' mixed Try.func47 rfl (by show 2 ≤ 400; omega) rfl (ids := [0]) (by kernel_rfl) rfl (fun caps => ?_) (fun id hid => ?_)
  · show gBb _ _ a.length (caps 500) (vp a) b.length (caps 501) (vp b) _
    rw [gBb_text]
    exact ⟨(0, caps 500, caps 501), Nat.zero_le _, rfl⟩
  · obtain rfl := List.mem_singleton.1 hid
    refine ⟨_, st, inv, fun y => a.length - y.1, ⟨fun s b h => h, by kernel_rfl, ?_⟩⟩
    rintro ⟨i, c1, c2⟩ hi
    have hi : i ≤ a.length := hi
    have wi : i < a.length → IntKind.wrap .i64 ((i : Int) + 1) = ((i + 1 : Nat) : Int) := fun h => by rw [w64 (by omega) (by omega)]; rfl
    have ev : ∀ (h : i < a.length), (if (b[i]'(by omega)).1 < a[i].1 then (b[i]'(by omega)).1 else a[i].1) = (bbF a b i).1 ∧ (if (b[i]'(by omega)).2 > a[i].2 then (b[i]'(by omega)).2 else a[i].2) = (bbF a b i).2 := by
      intro h
      rw [bbF, gd_at h, gd_at (show i < b.length by omega)]
      exact ⟨rfl, rfl⟩
    cases i with
    | zero =>
      show rBb1 _ _ b.length c2 a.length c1 a.length ((0 : Nat) : Int) (vp b) (vp a) _ _ _
      rw [rBb1_text]
      simp only [bc_t (show ((0 : Nat) : Int) < (a.length : Int) by omega), bc_t (show ((0 : Nat) : Int) < (b.length : Int) by omega), bc_t (show (0 : Int) ≤ ((0 : Nat) : Int) by omega), Int.toNat_natCast, at2 (vp_two a 0 h0), at1 (vp_one b 0 (by omega)), at1 (vp_sndA b 0 (by omega) 501), wi h0, eq_self, true_and, and_true]
      refine ⟨(1, c1, c2), h0, by show a.length - 1 < a.length - 0; omega, ?_⟩
      have := ev h0
      rw [this.1, this.2]
      rfl
    | succ i =>
      show rBb2 _ _ b.length c2 (i + 1) a.length c1 a.length ((i + 1 : Nat) : Int) (vp b) (vp ((List.range (i + 1)).map (bbF a b))) (vp a) _ _ _
      rw [rBb2_text]
      refine bc_dec (fun h => ?_) (fun h => ?_)
      · have h1 : i + 1 < a.length := by omega
        simp only [bc_t h, bc_t (show ((i + 1 : Nat) : Int) < (b.length : Int) by omega), bc_t (show (0 : Int) ≤ ((i + 1 : Nat) : Int) by omega), Int.toNat_natCast, at2 (vp_two a (i + 1) h1), at1 (vp_one b (i + 1) (by omega)), at1 (vp_sndA b (i + 1) (by omega) 501), wi h1, rp_take, eq_self, true_and, and_true]
        refine bc_yes (by omega) (bc_yes (by omega) (bc_yes (by omega) (bc_yes (by simp) (bc_yes (by simp) ⟨(i + 2, c1, c2), h1, by show a.length - (i + 2) < a.length - (i + 1); omega, ?_⟩))))
        have e := rp_snoc (bbF a b) (i + 1)
        have := ev h1
        rw [this.1, this.2]
        show (_, [(501, AObj.sym (vp b) false 2), (1000, AObj.sym (vp ((List.range (i + 1 + 1)).map (bbF a b))) true 2), (500, AObj.sym (vp a) false 2)]) = _
        rw [← e]
      · show (if 0 = 0 then _ else _)
        rw [if_pos rfl]
        show nBb4 _ _ (i + 1) (vp ((List.range (i + 1)).map (bbF a b))) _
        rw [nBb4_text]
        refine ⟨⟨rfl, by simp⟩, ?_⟩
        have : i + 1 = a.length := by omega
        show _ = _
        rw [bth, ← this]
abbrev gt (l : List Int) (j : Nat) : Int := l.getD j 0
theorem gt_all (l : List Int) : (List.range l.length).map (gt l) = l := by
  apply List.ext_getElem
  · simp
  · intro i h1 h2
    simp [gt, List.getD, h2]
abbrev vg (l : List Int) (n : Nat) : List Value := vi ((List.range n).map (gt l))
abbrev S4 (n : Nat) : List Value := [.slice (some ⟨1001, 0, none⟩) n n, .slice (some ⟨1002, 0, none⟩) n n, .slice (some ⟨1003, 0, none⟩) n n, .slice (some ⟨1004, 0, none⟩) n n]
abbrev baO (ps : List Sv) (b : Bxs) (c1 c3 : Nat) : Nat → Slots × Blocks
  | 0 => zBa1 ps.length c1 b.length c3 (vs7 ps) (vp b)
  | 1 => zBa7 ps.length c1 b.length c3 (vs7 ps) (vp b) b.length b.length (vg (los b) b.length) (vg (dls ps) b.length)
  | _ => ([(0, (Value.slice (some ⟨500, 0, none⟩) ps.length c1)), (1, (Value.slice (some ⟨501, 0, none⟩) b.length c3)), (5, (Value.pointer (some ⟨1000, 0, none⟩))), (9, (Value.int .i64 (2)))], [(500, (AObj.sym (vs7 ps) false 7)), (501, (AObj.sym (vp b) false 2)), (1000, (AObj.cells (S4 b.length) 123 false 2)), (1001, (AObj.sym (vg (los b) b.length) true 1)), (1002, (AObj.sym (vg (dls ps) b.length) true 1)), (1003, (AObj.sym (vg (his b) b.length) true 1)), (1004, (AObj.sym (vg (dhs ps) b.length) true 1))])
abbrev baA (ps : List Sv) (b : Bxs) (c1 c3 : Nat) : Nat → Slots × Blocks
  | 0 => zBa2 ps.length c1 b.length c3 b.length c3 b.length 0 (vs7 ps) (vp b)
  | i + 1 => zBa3 ps.length c1 b.length c3 b.length c3 b.length ((i + 1 : Nat) : Int) (vs7 ps) (vp b) (i + 1) (i + 1) (vg (los b) (i + 1)) (vg (dls ps) (i + 1))
abbrev baB (ps : List Sv) (b : Bxs) (c1 c3 : Nat) : Nat → Slots × Blocks
  | 0 => zBa9 ps.length c1 b.length c3 b.length c3 b.length 0 (vs7 ps) (vp b) b.length b.length (vg (los b) b.length) (vg (dls ps) b.length)
  | i + 1 => zBa12 ps.length c1 b.length c3 b.length c3 b.length ((i + 1 : Nat) : Int) (vs7 ps) (vp b) b.length b.length (i + 1) (i + 1) (vg (los b) b.length) (vg (dls ps) b.length) (vg (his b) (i + 1)) (vg (dhs ps) (i + 1))
theorem conBa {ps : List Sv} {b : Bxs} (hv : ∀ p ∈ ps, LpV p) (hl : b.length = ps.length) (h1 : ∀ h ∈ los b, hgt h) (h2 : ∀ h ∈ his b, hgt h) (h0 : 0 < ps.length) (hn : ps.length ≤ 1000) :
    C5 45 [.sl ps.length 7 (vs7 ps), .sl b.length 2 (vp b)] [.sl ps.length 2 (vp (img ps b))] := by
  refine con_J hokK mixed [] (L := fun _ s bl => ∃ y : Nat × Nat × Nat, y.1 ≤ 2 ∧ baO ps b y.2.1 y.2.2 y.1 = (s, bl)) Try.func45 rfl (by show 2 ≤ 400; omega) rfl (pts := [0]) (loops := [0]) (by kernel_rfl) (by kernel_rfl) (fun caps _ => ?_) (fun id q1 q2 => absurd q1 q2) (fun id hid => ?_)
  · show gBa _ _ ps.length (caps 500) (vs7 ps) b.length (caps 501) (vp b) _
    rw [gBa_text]
    exact ⟨(0, caps 500, caps 501), by show 0 ≤ 2; omega, rfl⟩
  · obtain rfl := List.mem_singleton.1 hid
    have hlb : ∀ {i : Nat}, i < b.length → ((i : Int) < (b.length : Int) ∧ (i : Int) < (ps.length : Int)) := fun h => ⟨by omega, by omega⟩
    refine ⟨⟨Nat × Nat × Nat, fun y => baO ps b y.2.1 y.2.2 y.1, fun y => y.1 ≤ 2, fun y => 3 - y.1, fun s bl h => h, [2], [2], by kernel_rfl, by kernel_rfl, ?_⟩⟩
    rintro ⟨e, c1, c3⟩ he
    have he : e ≤ 2 := he
    match e, he with
    | 0, _ =>
      refine ⟨fun _ s bl => ∃ i, i ≤ b.length ∧ baA ps b c1 c3 i = (s, bl), ?_, fun id2 q1 q2 => absurd q1 q2, fun id2 hid2 => ?_⟩
      · show rBa1 _ _ ps.length c1 b.length c3 (vs7 ps) (vp b) _ _ _
        rw [rBa1_text]
        exact ⟨0, Nat.zero_le _, rfl⟩
      · obtain rfl := List.mem_singleton.1 hid2
        refine ⟨⟨Nat, baA ps b c1 c3, fun i => i ≤ b.length, fun i => b.length - i, fun s bl h => h, [], by kernel_rfl, by kernel_rfl, fun i hi => ⟨fun _ _ _ => False, ?_, fun id3 h3 => by cases h3⟩⟩⟩
        have wi : i < b.length → IntKind.wrap .i64 ((i : Int) + 1) = ((i + 1 : Nat) : Int) := fun h => by rw [w64 (by omega) (by omega)]; rfl
        cases i with
        | zero =>
          show rBa2 _ _ ps.length c1 b.length c3 b.length c3 b.length ((0 : Nat) : Int) (vs7 ps) (vp b) _ _ _
          rw [rBa2_text]
          have hb0 : 0 < b.length := by omega
          simp only [bc_t (hlb hb0).1, bc_t (hlb hb0).2, bc_t (show (0 : Int) ≤ ((0 : Nat) : Int) by omega), Int.toNat_natCast, at2 (vp_two b 0 hb0), at2 (vs7_de ps 0 h0 500), wi hb0, eq_self, true_and, and_true]
          refine ⟨1, hb0, by omega, ?_⟩
          rw [← los_at hb0, ← dls_at h0]; rfl
        | succ i =>
          show rBa3 _ _ ps.length c1 b.length c3 b.length c3 b.length ((i + 1 : Nat) : Int) (vs7 ps) (vp b) (i + 1) (i + 1) (vg (los b) (i + 1)) (vg (dls ps) (i + 1)) _ _ _
          rw [rBa3_text]
          refine bc_dec (fun h => ?_) (fun h => ?_)
          · have hb1 : i + 1 < b.length := by omega
            have hp1 : i + 1 < ps.length := by omega
            simp only [bc_t (hlb hb1).1, bc_t (hlb hb1).2, bc_t (show (0 : Int) ≤ ((i + 1 : Nat) : Int) by omega), Int.toNat_natCast, at2 (vp_two b (i + 1) hb1), at2 (vs7_de ps (i + 1) hp1 500), wi hb1, rg_take, eq_self, true_and, and_true]
            refine bc_yes (by omega) (bc_yes (by omega) (bc_yes (by omega) (bc_yes (by simp) (bc_yes (by simp) (bc_yes (by omega) (bc_yes (by omega) (bc_yes (by omega) (bc_yes (by simp) (bc_yes (by simp) ⟨i + 2, hb1, by omega, ?_⟩)))))))))
            rw [← los_at hb1, ← dls_at hp1]
            have e1 : vi ((List.range (i + 1)).map (gt (los b))) ++ [vI ((los b).getD (i + 1) 0)] = vg (los b) (i + 2) := rg_snoc (gt (los b)) (i + 1)
            have e2 : vi ((List.range (i + 1)).map (gt (dls ps))) ++ [vI ((dls ps).getD (i + 1) 0)] = vg (dls ps) (i + 2) := rg_snoc (gt (dls ps)) (i + 1)
            rw [e1, e2]
          · show (if 2 = 2 then _ else _)
            rw [if_pos rfl]
            show iBa5 _ _ ps.length c1 b.length c3 (vs7 ps) (vp b) (i + 1) (i + 1) (vg (los b) (i + 1)) (vg (dls ps) (i + 1)) _ _ _
            rw [iBa5_text]
            have : i + 1 = b.length := by omega
            exact ⟨(1, c1, c3), by show 1 ≤ 2; omega, by show 3 - 1 < 3 - 0; omega, by rw [this]; rfl⟩
    | 1, _ =>
      refine ⟨fun _ s bl => ∃ i, i ≤ b.length ∧ baB ps b c1 c3 i = (s, bl), ?_, fun id2 q1 q2 => absurd q1 q2, fun id2 hid2 => ?_⟩
      · show rBa7 _ _ ps.length c1 b.length c3 (vs7 ps) (vp b) b.length b.length (vg (los b) b.length) (vg (dls ps) b.length) _ _ _
        rw [rBa7_text]
        exact ⟨0, Nat.zero_le _, rfl⟩
      · obtain rfl := List.mem_singleton.1 hid2
        refine ⟨⟨Nat, baB ps b c1 c3, fun i => i ≤ b.length, fun i => b.length - i, fun s bl h => h, [], by kernel_rfl, by kernel_rfl, fun i hi => ⟨fun _ _ _ => False, ?_, fun id3 h3 => by cases h3⟩⟩⟩
        have wi : i < b.length → IntKind.wrap .i64 ((i : Int) + 1) = ((i + 1 : Nat) : Int) := fun h => by rw [w64 (by omega) (by omega)]; rfl
        cases i with
        | zero =>
          show rBa9 _ _ ps.length c1 b.length c3 b.length c3 b.length ((0 : Nat) : Int) (vs7 ps) (vp b) b.length b.length (vg (los b) b.length) (vg (dls ps) b.length) _ _ _
          rw [rBa9_text]
          have hb0 : 0 < b.length := by omega
          simp only [bc_t (hlb hb0).1, bc_t (hlb hb0).2, bc_t (show (0 : Int) ≤ ((0 : Nat) : Int) by omega), Int.toNat_natCast, at2 (vp_two b 0 hb0), at2 (vs7_de ps 0 h0 500), wi hb0, eq_self, true_and, and_true]
          refine ⟨1, hb0, by omega, ?_⟩
          rw [← his_at hb0, ← dhs_at h0]; rfl
        | succ i =>
          show rBa12 _ _ ps.length c1 b.length c3 b.length c3 b.length ((i + 1 : Nat) : Int) (vs7 ps) (vp b) b.length b.length (i + 1) (i + 1) (vg (los b) b.length) (vg (dls ps) b.length) (vg (his b) (i + 1)) (vg (dhs ps) (i + 1)) _ _ _
          rw [rBa12_text]
          refine bc_dec (fun h => ?_) (fun h => ?_)
          · have hb1 : i + 1 < b.length := by omega
            have hp1 : i + 1 < ps.length := by omega
            simp only [bc_t (hlb hb1).1, bc_t (hlb hb1).2, bc_t (show (0 : Int) ≤ ((i + 1 : Nat) : Int) by omega), Int.toNat_natCast, at2 (vp_two b (i + 1) hb1), at2 (vs7_de ps (i + 1) hp1 500), wi hb1, rg_take, eq_self, true_and, and_true]
            refine bc_yes (by omega) (bc_yes (by omega) (bc_yes (by omega) (bc_yes (by simp) (bc_yes (by simp) (bc_yes (by omega) (bc_yes (by omega) (bc_yes (by omega) (bc_yes (by simp) (bc_yes (by simp) ⟨i + 2, hb1, by omega, ?_⟩)))))))))
            rw [← his_at hb1, ← dhs_at hp1]
            have e1 : vi ((List.range (i + 1)).map (gt (his b))) ++ [vI ((his b).getD (i + 1) 0)] = vg (his b) (i + 2) := rg_snoc (gt (his b)) (i + 1)
            have e2 : vi ((List.range (i + 1)).map (gt (dhs ps))) ++ [vI ((dhs ps).getD (i + 1) 0)] = vg (dhs ps) (i + 2) := rg_snoc (gt (dhs ps)) (i + 1)
            rw [e1, e2]
          · show (if 2 = 2 then _ else _)
            rw [if_pos rfl]
            show iBa16 _ _ ps.length c1 b.length c3 (vs7 ps) (vp b) b.length b.length (i + 1) (i + 1) (vg (los b) b.length) (vg (dls ps) b.length) (vg (his b) (i + 1)) (vg (dhs ps) (i + 1)) _ _ _
            rw [iBa16_text]
            have : i + 1 = b.length := by omega
            exact ⟨(2, c1, c3), by show 2 ≤ 2; omega, by show 3 - 2 < 3 - 1; omega, by rw [this]; rfl⟩
    | 2, _ =>
      refine ⟨fun _ _ _ => False, ?_, fun id2 q1 q2 => absurd q1 q2, fun id2 hid2 => ?_⟩
      · show rBa20 _ _ ps.length c1 b.length c3 (vs7 ps) (vp b) b.length b.length b.length b.length (vg (los b) b.length) (vg (dls ps) b.length) (vg (his b) b.length) (vg (dhs ps) b.length) _ _ _
        rw [rBa20_text]
        show (if 0 = 0 then _ else _)
        rw [if_pos rfl]
        have g1 : vg (los b) b.length = vi (los b) := by rw [← los_length b, vg, gt_all]
        have g2 : vg (dls ps) b.length = vi (dls ps) := by rw [hl, ← dls_length ps, vg, gt_all]
        have g3 : vg (his b) b.length = vi (his b) := by rw [← his_length b, vg, gt_all]
        have g4 : vg (dhs ps) b.length = vi (dhs ps) := by rw [hl, ← dhs_length ps, vg, gt_all]
        rw [g1, g2, g3, g4]
        show nBa30 _ _ ps.length c1 (vs7 ps) b.length b.length b.length b.length (vi (los b)) (vi (dls ps)) (vi (his b)) (vi (dhs ps)) _
        rw [nBa30_text]
        have d1 : ∀ h ∈ dls ps, hgt h := by
          intro h hh; obtain ⟨p, hp, rfl⟩ := List.mem_map.1 hh; exact (hv p hp).d
        have d2 : ∀ h ∈ dhs ps, hgt h := by
          intro h hh; obtain ⟨p, hp, rfl⟩ := List.mem_map.1 hh; exact (hv p hp).e
        have a1 := conAe hv h1 d1 h0 (by simp [hl]) (by simp) hn
        have a2 := conAe hv h2 d2 h0 (by simp [hl]) (by simp) hn
        have a3 := conBo (a := aft ps (los b) (dls ps)) (b := aft ps (his b) (dhs ps)) (by simp [aft_length]) (by rw [aft_length]; exact h0) (by rw [aft_length]; exact hn)
        simp only [los_length, his_length, dls_length, dhs_length, hl, aft_length] at a1 a2 a3
        have w1 : List.take (ps.length * 1) (List.drop 0 (vi (los b))) = vi (los b) := by rw [List.drop_zero, List.take_of_length_le (by simp [hl])]
        have w2 : List.take (ps.length * 1) (List.drop 0 (vi (dls ps))) = vi (dls ps) := by rw [List.drop_zero, List.take_of_length_le (by simp)]
        have w3 : List.take (ps.length * 1) (List.drop 0 (vi (his b))) = vi (his b) := by rw [List.drop_zero, List.take_of_length_le (by simp [hl])]
        have w4 : List.take (ps.length * 1) (List.drop 0 (vi (dhs ps))) = vi (dhs ps) := by rw [List.drop_zero, List.take_of_length_le (by simp)]
        have w5 : ∀ x y : List Int, List.take (ps.length * 1) (List.drop 0 (vi (aft ps x y))) = vi (aft ps x y) := fun x y => rg_take _ _
        have l1 : ∀ x : List Int, x.length = ps.length → 0 + ps.length * 1 ≤ (vi x).length := fun x hx => by rw [vi_length, hx]; omega
        have la := fun x y => aft_length ps x y
        simp only [hl, vs7_whole, bc_t (v7le ps), bc_t (l1 (los b) (by simp [hl])), bc_t (l1 (his b) (by simp [hl])), bc_t (l1 (dls ps) (by simp)), bc_t (l1 (dhs ps) (by simp)), w1, w2, w3, w4, true_and]
        refine .inr ⟨_, _, ⟨a1⟩, .inr ⟨_, _, ⟨a2⟩, ?_⟩⟩
        simp only [bc_t (l1 (aft ps (los b) (dls ps)) (la _ _)), bc_t (l1 (aft ps (his b) (dhs ps)) (la _ _)), w5, true_and]
        refine .inr ⟨_, _, ⟨a3⟩, ?_, rfl⟩
        simp [aft_length]
      · obtain rfl := List.mem_singleton.1 hid2
        exact ⟨⟨Nat, fun _ => ([], []), fun _ => False, fun _ => 0, fun s bl h => h.elim, [], by kernel_rfl, by kernel_rfl, fun i hi => hi.elim⟩⟩
end Go.Proofs.G5b

/- What is left to show of each function, written out; the kernel reckons it. -/
namespace Go.Proofs.G5b
open Go Go.Abs Go.Proofs
set_option maxRecDepth 100000
set_option linter.unusedVariables false
def gEq (C : Ct) (L : AtLoop) (n cap : Nat) (l : List Value) (m cap2 : Nat) (l2 : List Value) (k : List D → Prop) : Prop := wpFn Try.prog (hK C) L 0 48 #[S500 n cap, S501 m cap2] (heapOf [T500 l, T501 l2]) (dataK k)
theorem gEq_text (C : Ct) (L : AtLoop) (n : Nat) (cap : Nat) (l : List Go.Value) (m : Nat) (cap2 : Nat) (l2 : List Go.Value) (k : List D → Prop) : gEq C L n cap l m cap2 l2 k =
 (bcase ((↑n : Int) != (↑m : Int))
 (k [(D.val (Value.bool false))])
 (L 0 [(Prod.mk 0 (Go.Value.slice (Option.some (Go.Addr.mk 500 0 Option.none)) (n) (cap))), (Prod.mk 1 (Go.Value.slice (Option.some (Go.Addr.mk 501 0 Option.none)) (m) (cap2))), (Prod.mk 12 (vI ((↑n : Int)))), (Prod.mk 13 (vI (0 : Int)))] [(Prod.mk 500 (AObj.sym (l) false 2)), (Prod.mk 501 (AObj.sym (l2) false 2))])) := by kernel_rfl
def gIL (C : Ct) (L : AtLoop) (n cap : Nat) (l : List Value) (m cap2 : Nat) (l2 : List Value) (k : List D → Prop) : Prop := wpFn Try.prog (hK C) L 0 49 #[S500 n cap, S501 m cap2] (heapOf [L500 l, T501 l2]) (dataK k)
theorem gIL_text (C : Ct) (L : AtLoop) (n : Nat) (cap : Nat) (l : List Go.Value) (m : Nat) (cap2 : Nat) (l2 : List Go.Value) (k : List D → Prop) : gIL C L n cap l m cap2 l2 k =
 (L 0 [(Prod.mk 0 (Go.Value.slice (Option.some (Go.Addr.mk 500 0 Option.none)) (n) (cap))), (Prod.mk 7 (Go.Value.slice (Option.some (Go.Addr.mk 501 0 Option.none)) (m) (cap2))), (Prod.mk 8 (vI ((↑m : Int)))), (Prod.mk 9 (vI (0 : Int)))] [(Prod.mk 500 (AObj.sym (l) false 7)), (Prod.mk 501 (AObj.sym (l2) false 2))]) := by kernel_rfl
def gCB (C : Ct) (L : AtLoop) (n cap : Nat) (l : List Value) (m cap2 : Nat) (l2 : List Value) (k : List D → Prop) : Prop := wpFn Try.prog (hK C) L 0 17 #[.agg #[S500 n cap], S501 m cap2] (heapOf [L500 l, T501 l2]) (dataK k)
theorem gCB_text (C : Ct) (L : AtLoop) (n : Nat) (cap : Nat) (l : List Go.Value) (m : Nat) (cap2 : Nat) (l2 : List Go.Value) (k : List D → Prop) : gCB C L n cap l m cap2 l2 k =
 (bcase (decide (0 + n * 7 ≤ List.length l))
 (∃ n1 : Int,
 (∃ n2 : Int,
 ((Says C 9 [(D.agg [(D.sl (n) 7 (List.take (n * 7) (List.drop 0 l)))])] [(D.val (vI n1)), (D.val (vI n2))]) ∧
 (bcase (n2 != 0)
 (∃ n3 : Int,
 ((Says C 38 [(D.val (vI (0 : Int))), (D.sl 1 1 [(vI ((↑m : Int)))])] [(D.val (vI n3))]) ∧
 (∃ n4 : Int,
 ((Says C 37 [(D.sl 2 1 [(vI n2), (vI n3)])] [(D.val (vI n4))]) ∧
 (bcase (n4 != 0)
 (k [(D.val (vI (0 : Int))), (D.val (vI n4))])
 (L 0 [(Prod.mk 1 (Go.Value.slice (Option.some (Go.Addr.mk 501 0 Option.none)) (m) (cap2))), (Prod.mk 6 (Go.Value.slice Option.none 0 0)), (Prod.mk 32 (Go.Value.slice (Option.some (Go.Addr.mk 501 0 Option.none)) (m) (cap2))), (Prod.mk 33 (vI ((↑m : Int)))), (Prod.mk 34 (vI (0 : Int)))] [(Prod.mk 501 (AObj.sym (l2) false 2))]))))))
 (∃ n3 : Int,
 ((Says C 38 [(D.val (vI ((↑n : Int)))), (D.sl 1 1 [(vI ((↑m : Int)))])] [(D.val (vI n3))]) ∧
 (∃ n4 : Int,
 ((Says C 37 [(D.sl 2 1 [(vI (0 : Int)), (vI n3)])] [(D.val (vI n4))]) ∧
 (bcase (n4 != 0)
 (k [(D.val (vI (0 : Int))), (D.val (vI n4))])
 (L 0 [(Prod.mk 1 (Go.Value.slice (Option.some (Go.Addr.mk 501 0 Option.none)) (m) (cap2))), (Prod.mk 6 (Go.Value.slice (Option.some (Go.Addr.mk 500 0 Option.none)) (n) (cap))), (Prod.mk 32 (Go.Value.slice (Option.some (Go.Addr.mk 501 0 Option.none)) (m) (cap2))), (Prod.mk 33 (vI ((↑m : Int)))), (Prod.mk 34 (vI (0 : Int)))] [(Prod.mk 501 (AObj.sym (l2) false 2)), (Prod.mk 500 (AObj.sym (l) false 7))]))))))))))
 False) := by kernel_rfl
def gBF (C : Ct) (L : AtLoop) (n cap : Nat) (l : List Value) (m cap2 : Nat) (l2 : List Value) (k : List D → Prop) : Prop := wpFn Try.prog (hK C) L 0 19 #[.agg #[S500 n cap], S501 m cap2] (heapOf [L500 l, Q501 l2]) (dataK k)
theorem gBF_text (C : Ct) (L : AtLoop) (n : Nat) (cap : Nat) (l : List Go.Value) (m : Nat) (cap2 : Nat) (l2 : List Go.Value) (k : List D → Prop) : gBF C L n cap l m cap2 l2 k =
 (bcase (decide (0 + n * 7 ≤ List.length l))
 (∃ n1 : Int,
 (∃ n2 : Int,
 ((Says C 9 [(D.agg [(D.sl (n) 7 (List.take (n * 7) (List.drop 0 l)))])] [(D.val (vI n1)), (D.val (vI n2))]) ∧
 (bcase (n2 != 0)
 (∃ n3 : Int,
 ((Says C 38 [(D.val (vI (0 : Int))), (D.sl 1 1 [(vI ((↑m : Int)))])] [(D.val (vI n3))]) ∧
 (∃ n4 : Int,
 ((Says C 37 [(D.sl 2 1 [(vI n2), (vI n3)])] [(D.val (vI n4))]) ∧
 (bcase (n4 != 0)
 (k [D.nil, (D.val (vI n4))])
 (L 0 [(Prod.mk 1 (Go.Value.slice (Option.some (Go.Addr.mk 501 0 Option.none)) (m) (cap2))), (Prod.mk 6 (Go.Value.slice Option.none 0 0)), (Prod.mk 31 (Go.Value.slice (Option.some (Go.Addr.mk 501 0 Option.none)) (m) (cap2))), (Prod.mk 32 (vI ((↑m : Int)))), (Prod.mk 33 (vI (0 : Int)))] [(Prod.mk 501 (AObj.sym (l2) false 1))]))))))
 (∃ n3 : Int,
 ((Says C 38 [(D.val (vI ((↑n : Int)))), (D.sl 1 1 [(vI ((↑m : Int)))])] [(D.val (vI n3))]) ∧
 (∃ n4 : Int,
 ((Says C 37 [(D.sl 2 1 [(vI (0 : Int)), (vI n3)])] [(D.val (vI n4))]) ∧
 (bcase (n4 != 0)
 (k [D.nil, (D.val (vI n4))])
 (L 0 [(Prod.mk 1 (Go.Value.slice (Option.some (Go.Addr.mk 501 0 Option.none)) (m) (cap2))), (Prod.mk 6 (Go.Value.slice (Option.some (Go.Addr.mk 500 0 Option.none)) (n) (cap))), (Prod.mk 31 (Go.Value.slice (Option.some (Go.Addr.mk 501 0 Option.none)) (m) (cap2))), (Prod.mk 32 (vI ((↑m : Int)))), (Prod.mk 33 (vI (0 : Int)))] [(Prod.mk 501 (AObj.sym (l2) false 1)), (Prod.mk 500 (AObj.sym (l) false 7))]))))))))))
 False) := by kernel_rfl
def gCR (C : Ct) (L : AtLoop) (n cap : Nat) (l : List Value) (k : List D → Prop) : Prop := wpFn Try.prog (hE C) L 0 18 #[S500 n cap] (heapOf [T500 l]) (dataK k)
theorem gCR_text (C : Ct) (L : AtLoop) (n : Nat) (cap : Nat) (l : List Go.Value) (k : List D → Prop) : gCR C L n cap l k =
 (bcase (decide (0 + n * 2 ≤ List.length l))
 (bcase (n == 0)
 (((0 = 0) ∧
 (0 = 0)) ∧
 (k [(D.sl 0 2 [])]))
 (bcase (decide (0 < 0 + n))
 (bcase (decide ((2 * (0 + n) + 768) * 16 ≤ 281474976710656))
 (bcase (decide (0 + n ≤ 1099511627776))
 ((((0 + n) = (0 + n)) ∧
 ((List.length (List.take 0 (List.drop 0 []) ++ List.take (n * 2) (List.drop 0 l))) = ((0 + n) * 2))) ∧
 (k [(D.sl (0 + n) 2 ([] ++ (List.take (n * 2) (List.drop 0 l))))]))
 False)
 False)
 False))
 False) := by kernel_rfl
def gCRn (C : Ct) (L : AtLoop) (k : List D → Prop) : Prop := wpFn Try.prog (hE C) L 0 18 #[nilS] (heapOf []) (dataK k)
theorem gCRn_text (C : Ct) (L : AtLoop) (k : List D → Prop) : gCRn C L k =
 (((0 = 0) ∧
 (0 = 0)) ∧
 (k [(D.sl 0 2 [])])) := by kernel_rfl
def gCE (C : Ct) (L : AtLoop) (n cap : Nat) (l : List Value) (k : List D → Prop) : Prop := wpFn Try.prog (hB C) L 0 21 #[.agg #[S500 n cap]] (heapOf [L500 l]) (dataK k)
theorem gCE_text (C : Ct) (L : AtLoop) (n : Nat) (cap : Nat) (l : List Go.Value) (k : List D → Prop) : gCE C L n cap l k =
 (bcase (decide (0 + n * 7 ≤ List.length l))
 (∃ n1 : Int,
 (∃ n2 : Int,
 ((Says C 13 [(D.agg [(D.sl (n) 7 (List.take (n * 7) (List.drop 0 l)))])] [(D.val (vI n1)), (D.val (vI n2))]) ∧
 (k [(D.val (vI n2))]))))
 False) := by kernel_rfl
def gCEn (C : Ct) (L : AtLoop) (k : List D → Prop) : Prop := wpFn Try.prog (hB C) L 0 21 #[.agg #[nilS]] (heapOf []) (dataK k)
theorem gCEn_text (C : Ct) (L : AtLoop) (k : List D → Prop) : gCEn C L k =
 (∃ n1 : Int,
 (∃ n2 : Int,
 ((Says C 13 [(D.agg [D.nil])] [(D.val (vI n1)), (D.val (vI n2))]) ∧
 (k [(D.val (vI n2))])))) := by kernel_rfl
def sEq (n cap m cap2 : Nat) (i : Int) : Slots := [(0, S500 n cap), (1, S501 m cap2), (12, vI n), (13, vI i)]
def rEq (C : Ct) (L : AtLoop) (n cap : Nat) (l : List Value) (m cap2 : Nat) (l2 : List Value) (i : Int) (B : Bx) (X : Xx) (k : List D → Prop) : Prop := wpRound Try.prog (hK C) L 48 0 (sEq n cap m cap2 i) [T500 l, T501 l2] B X (dataK k)
theorem rEq_text (C : Ct) (L : AtLoop) (n : Nat) (cap : Nat) (l : List Go.Value) (m : Nat) (cap2 : Nat) (l2 : List Go.Value) (i : Int) (B : Bx) (X : Xx) (k : List D → Prop) : rEq C L n cap l m cap2 l2 i B X k =
 (bcase (decide (i < (↑n : Int)))
 (bcase (decide (0 ≤ i))
 (bcase (decide (i < (↑n : Int)))
 (∃ n1 : Int,
 (∃ n2 : Int,
 ((At (l) (0 + Int.toNat i * 2) 2 [(vI n1), (vI n2)]) ∧
 (bcase (decide (0 ≤ i))
 (bcase (decide (i < (↑m : Int)))
 (∃ n3 : Int,
 (∃ n4 : Int,
 ((At (l2) (0 + Int.toNat i * 2) 2 [(vI n3), (vI n4)]) ∧
 (bcase (if Bool.true = Bool.true then !(n1 == n3 && (n2 == n4 && Bool.true)) else n1 == n3 && (n2 == n4 && Bool.true))
 (((bcase (if Bool.true = Bool.true then !(n1 == n3 && (n2 == n4 && Bool.true)) else n1 == n3 && (n2 == n4 && Bool.true))
 ((Value.bool true) = (Value.bool true))
 ((Value.bool false) = (Value.bool true))) ∧
 ((∃ n5 : Int,
 (∃ n6 : Int,
 ((At (l2) (0 + Int.toNat i * 2) 2 [(vI n5), (vI n6)]) ∧
 ((Go.Value.agg [(vI n5), (vI n6)].toArray) = (Go.Value.agg [(vI n3), (vI n4)].toArray))))) ∧
 ((bcase (decide (0 ≤ i))
 (bcase (decide (i < (↑m : Int)))
 ((Go.Value.pointer (Option.some (Go.Addr.mk 501 (0 + Int.toNat i * 2) Option.none))) = (Go.Value.pointer (Option.some (Go.Addr.mk 501 (0 + Int.toNat i * 2) Option.none))))
 False)
 False) ∧
 (((vI i) = (vI i)) ∧
 (((Go.Value.slice (Option.some (Go.Addr.mk 501 0 Option.none)) (m) (cap2)) = (Go.Value.slice (Option.some (Go.Addr.mk 501 0 Option.none)) (m) (cap2))) ∧
 ((∃ n5 : Int,
 (∃ n6 : Int,
 ((At (l) (0 + Int.toNat i * 2) 2 [(vI n5), (vI n6)]) ∧
 ((Go.Value.agg [(vI n5), (vI n6)].toArray) = (Go.Value.agg [(vI n1), (vI n2)].toArray))))) ∧
 ((bcase (decide (0 ≤ i))
 (bcase (decide (i < (↑n : Int)))
 ((Go.Value.pointer (Option.some (Go.Addr.mk 500 (0 + Int.toNat i * 2) Option.none))) = (Go.Value.pointer (Option.some (Go.Addr.mk 500 (0 + Int.toNat i * 2) Option.none))))
 False)
 False) ∧
 (((vI i) = (vI i)) ∧
 (((Go.Value.slice (Option.some (Go.Addr.mk 500 0 Option.none)) (n) (cap)) = (Go.Value.slice (Option.some (Go.Addr.mk 500 0 Option.none)) (n) (cap))) ∧
 True))))))))) ∧
 (k [(D.val (Value.bool false))]))
 (((bcase (if Bool.true = Bool.true then !(n1 == n3 && (n2 == n4 && Bool.true)) else n1 == n3 && (n2 == n4 && Bool.true))
 ((Value.bool true) = (Value.bool false))
 ((Value.bool false) = (Value.bool false))) ∧
 ((∃ n5 : Int,
 (∃ n6 : Int,
 ((At (l2) (0 + Int.toNat i * 2) 2 [(vI n5), (vI n6)]) ∧
 ((Go.Value.agg [(vI n5), (vI n6)].toArray) = (Go.Value.agg [(vI n3), (vI n4)].toArray))))) ∧
 ((bcase (decide (0 ≤ i))
 (bcase (decide (i < (↑m : Int)))
 ((Go.Value.pointer (Option.some (Go.Addr.mk 501 (0 + Int.toNat i * 2) Option.none))) = (Go.Value.pointer (Option.some (Go.Addr.mk 501 (0 + Int.toNat i * 2) Option.none))))
 False)
 False) ∧
 (((vI i) = (vI i)) ∧
 (((Go.Value.slice (Option.some (Go.Addr.mk 501 0 Option.none)) (m) (cap2)) = (Go.Value.slice (Option.some (Go.Addr.mk 501 0 Option.none)) (m) (cap2))) ∧
 ((∃ n5 : Int,
 (∃ n6 : Int,
 ((At (l) (0 + Int.toNat i * 2) 2 [(vI n5), (vI n6)]) ∧
 ((Go.Value.agg [(vI n5), (vI n6)].toArray) = (Go.Value.agg [(vI n1), (vI n2)].toArray))))) ∧
 ((bcase (decide (0 ≤ i))
 (bcase (decide (i < (↑n : Int)))
 ((Go.Value.pointer (Option.some (Go.Addr.mk 500 (0 + Int.toNat i * 2) Option.none))) = (Go.Value.pointer (Option.some (Go.Addr.mk 500 (0 + Int.toNat i * 2) Option.none))))
 False)
 False) ∧
 (((vI i) = (vI i)) ∧
 (((Go.Value.slice (Option.some (Go.Addr.mk 500 0 Option.none)) (n) (cap)) = (Go.Value.slice (Option.some (Go.Addr.mk 500 0 Option.none)) (n) (cap))) ∧
 True))))))))) ∧
 (B [(Prod.mk 0 (Go.Value.slice (Option.some (Go.Addr.mk 500 0 Option.none)) (n) (cap))), (Prod.mk 1 (Go.Value.slice (Option.some (Go.Addr.mk 501 0 Option.none)) (m) (cap2))), (Prod.mk 12 (vI ((↑n : Int)))), (Prod.mk 13 (vI (IntKind.wrap .i64 (i + 1))))] [(Prod.mk 500 (AObj.sym (l) false 2)), (Prod.mk 501 (AObj.sym (l2) false 2))]))))))
 False)
 False))))
 False)
 False)
 (X 0 [] [])) := by kernel_rfl
def nEq (C : Ct) (L : AtLoop) (k : List D → Prop) : Prop := wpNext Try.prog (hK C) L 48 0 .normal [] [] (dataK k)
theorem nEq_text (C : Ct) (L : AtLoop) (k : List D → Prop) : nEq C L k =
 (k [(D.val (Value.bool true))]) := by kernel_rfl
def sIL (n cap m cap2 : Nat) (i : Int) : Slots := [(0, S500 n cap), (7, S501 m cap2), (8, vI m), (9, vI i)]
def rIL (C : Ct) (L : AtLoop) (n cap : Nat) (l : List Value) (m cap2 : Nat) (l2 : List Value) (i : Int) (B : Bx) (X : Xx) (k : List D → Prop) : Prop := wpRound Try.prog (hK C) L 49 0 (sIL n cap m cap2 i) [L500 l, T501 l2] B X (dataK k)
theorem rIL_text (C : Ct) (L : AtLoop) (n : Nat) (cap : Nat) (l : List Go.Value) (m : Nat) (cap2 : Nat) (l2 : List Go.Value) (i : Int) (B : Bx) (X : Xx) (k : List D → Prop) : rIL C L n cap l m cap2 l2 i B X k =
 (bcase (decide (i < (↑m : Int)))
 (bcase (decide (0 ≤ i))
 (bcase (decide (i < (↑m : Int)))
 (∃ n1 : Int,
 (∃ n2 : Int,
 ((At (l2) (0 + Int.toNat i * 2) 2 [(vI n1), (vI n2)]) ∧
 (bcase (decide (0 ≤ i))
 (bcase (decide (i < (↑n : Int)))
 (∃ n3 : Int,
 (∃ n4 : Int,
 (∃ n5 : Int,
 (∃ n6 : Int,
 (∃ n7 : Int,
 (∃ n8 : Int,
 (∃ n9 : Int,
 ((At (l) (0 + Int.toNat i * 7) 7 [(vI n3), (vI n4), (vI n5), (vI n6), (vI n7), (vI n8), (vI n9)]) ∧
 (((((Go.Value.slice (Option.some (Go.Addr.mk 1001 0 Option.none)) 2 2) = (Go.Value.slice (Option.some (Go.Addr.mk 1001 0 Option.none)) 2 2)) ∧
 ((Option.some (AObj.cells [(vI n1), (vI n2)] 3 false 1)) = (Option.some (AObj.cells [(vI n1), (vI n2)] 3 false 1)))) ∧
 (((vI n2) = (vI n2)) ∧
 (((Go.Value.pointer (Option.some (Go.Addr.mk 1000 1 Option.none))) = (Go.Value.pointer (Option.some (Go.Addr.mk 1000 1 Option.none)))) ∧
 (((vI n1) = (vI n1)) ∧
 (((Go.Value.pointer (Option.some (Go.Addr.mk 1000 0 Option.none))) = (Go.Value.pointer (Option.some (Go.Addr.mk 1000 0 Option.none)))) ∧
 ((∃ n10 : Int,
 (∃ n11 : Int,
 (∃ n12 : Int,
 (∃ n13 : Int,
 (∃ n14 : Int,
 (∃ n15 : Int,
 (∃ n16 : Int,
 ((At (l) (0 + Int.toNat i * 7) 7 [(vI n10), (vI n11), (vI n12), (vI n13), (vI n14), (vI n15), (vI n16)]) ∧
 ((Go.Value.agg [(vI n10), (vI n11), (vI n12), (vI n13), (vI n14), (vI n15), (vI n16)].toArray) = (Go.Value.agg [(vI n3), (vI n4), (vI n5), (vI n6), (vI n7), (vI n8), (vI n9)].toArray)))))))))) ∧
 ((bcase (decide (0 ≤ i))
 (bcase (decide (i < (↑n : Int)))
 ((Go.Value.pointer (Option.some (Go.Addr.mk 500 (0 + Int.toNat i * 7) Option.none))) = (Go.Value.pointer (Option.some (Go.Addr.mk 500 (0 + Int.toNat i * 7) Option.none))))
 False)
 False) ∧
 (((vI i) = (vI i)) ∧
 (((Go.Value.slice (Option.some (Go.Addr.mk 500 0 Option.none)) (n) (cap)) = (Go.Value.slice (Option.some (Go.Addr.mk 500 0 Option.none)) (n) (cap))) ∧
 True))))))))) ∧
 (∃ r1 : Int,
 ((Says witC 0 [(D.val (vI n8)), (D.val (vI n9)), (D.val (vI (22 : Int))), (D.sl 2 1 [(vI n1), (vI n2)])] [(D.val (vI r1))]) ∧
 (bcase (r1 != 0)
 (((bcase (r1 != 0)
 ((Value.bool true) = (Value.bool true))
 ((Value.bool false) = (Value.bool true))) ∧
 (((vI n2) = (vI n2)) ∧
 (((Go.Value.pointer (Option.some (Go.Addr.mk 1000 1 Option.none))) = (Go.Value.pointer (Option.some (Go.Addr.mk 1000 1 Option.none)))) ∧
 (((vI n1) = (vI n1)) ∧
 (((Go.Value.pointer (Option.some (Go.Addr.mk 1000 0 Option.none))) = (Go.Value.pointer (Option.some (Go.Addr.mk 1000 0 Option.none)))) ∧
 ((bcase (decide (0 ≤ i))
 (bcase (decide (i < (↑n : Int)))
 ((Go.Value.pointer (Option.some (Go.Addr.mk 500 (0 + Int.toNat i * 7) Option.none))) = (Go.Value.pointer (Option.some (Go.Addr.mk 500 (0 + Int.toNat i * 7) Option.none))))
 False)
 False) ∧
 (((vI i) = (vI i)) ∧
 (((Go.Value.slice (Option.some (Go.Addr.mk 500 0 Option.none)) (n) (cap)) = (Go.Value.slice (Option.some (Go.Addr.mk 500 0 Option.none)) (n) (cap))) ∧
 True)))))))) ∧
 (k [(D.val (Value.bool false))]))
 (((bcase (r1 != 0)
 ((Value.bool true) = (Value.bool false))
 ((Value.bool false) = (Value.bool false))) ∧
 (((vI n2) = (vI n2)) ∧
 (((Go.Value.pointer (Option.some (Go.Addr.mk 1000 1 Option.none))) = (Go.Value.pointer (Option.some (Go.Addr.mk 1000 1 Option.none)))) ∧
 (((vI n1) = (vI n1)) ∧
 (((Go.Value.pointer (Option.some (Go.Addr.mk 1000 0 Option.none))) = (Go.Value.pointer (Option.some (Go.Addr.mk 1000 0 Option.none)))) ∧
 ((bcase (decide (0 ≤ i))
 (bcase (decide (i < (↑n : Int)))
 ((Go.Value.pointer (Option.some (Go.Addr.mk 500 (0 + Int.toNat i * 7) Option.none))) = (Go.Value.pointer (Option.some (Go.Addr.mk 500 (0 + Int.toNat i * 7) Option.none))))
 False)
 False) ∧
 (((vI i) = (vI i)) ∧
 (((Go.Value.slice (Option.some (Go.Addr.mk 500 0 Option.none)) (n) (cap)) = (Go.Value.slice (Option.some (Go.Addr.mk 500 0 Option.none)) (n) (cap))) ∧
 True)))))))) ∧
 (B [(Prod.mk 0 (Go.Value.slice (Option.some (Go.Addr.mk 500 0 Option.none)) (n) (cap))), (Prod.mk 7 (Go.Value.slice (Option.some (Go.Addr.mk 501 0 Option.none)) (m) (cap2))), (Prod.mk 8 (vI ((↑m : Int)))), (Prod.mk 9 (vI (IntKind.wrap .i64 (i + 1))))] [(Prod.mk 500 (AObj.sym (l) false 7)), (Prod.mk 501 (AObj.sym (l2) false 2))]))))))))))))))
 False)
 False))))
 False)
 False)
 (X 0 [] [])) := by kernel_rfl
def nIL (C : Ct) (L : AtLoop) (k : List D → Prop) : Prop := wpNext Try.prog (hK C) L 49 0 .normal [] [] (dataK k)
theorem nIL_text (C : Ct) (L : AtLoop) (k : List D → Prop) : nIL C L k =
 (k [(D.val (Value.bool true))]) := by kernel_rfl
def sCB (n cap m cap2 : Nat) (i : Int) : Slots := [(1, S501 m cap2), (6, S500 n cap), (32, S501 m cap2), (33, vI m), (34, vI i)]
def rCB (C : Ct) (L : AtLoop) (n cap : Nat) (l : List Value) (m cap2 : Nat) (l2 : List Value) (i : Int) (B : Bx) (X : Xx) (k : List D → Prop) : Prop := wpRound Try.prog (hK C) L 17 0 (sCB n cap m cap2 i) [T501 l2, L500 l] B X (dataK k)
theorem rCB_text (C : Ct) (L : AtLoop) (n : Nat) (cap : Nat) (l : List Go.Value) (m : Nat) (cap2 : Nat) (l2 : List Go.Value) (i : Int) (B : Bx) (X : Xx) (k : List D → Prop) : rCB C L n cap l m cap2 l2 i B X k =
 (bcase (decide (i < (↑m : Int)))
 (bcase (decide (0 ≤ i))
 (bcase (decide (i < (↑m : Int)))
 (∃ n1 : Int,
 (∃ n2 : Int,
 ((At (l2) (0 + Int.toNat i * 2) 2 [(vI n1), (vI n2)]) ∧
 (bcase (decide (0 ≤ i))
 (bcase (decide (i < (↑n : Int)))
 (∃ n3 : Int,
 (∃ n4 : Int,
 (∃ n5 : Int,
 (∃ n6 : Int,
 (∃ n7 : Int,
 (∃ n8 : Int,
 (∃ n9 : Int,
 ((At (l) (0 + Int.toNat i * 7) 7 [(vI n3), (vI n4), (vI n5), (vI n6), (vI n7), (vI n8), (vI n9)]) ∧
 (((((Go.Value.slice (Option.some (Go.Addr.mk 1002 0 Option.none)) 2 2) = (Go.Value.slice (Option.some (Go.Addr.mk 1002 0 Option.none)) 2 2)) ∧
 ((Option.some (AObj.cells [(vI n1), (vI n2)] 3 false 1)) = (Option.some (AObj.cells [(vI n1), (vI n2)] 3 false 1)))) ∧
 (((vI n2) = (vI n2)) ∧
 (((Go.Value.pointer (Option.some (Go.Addr.mk 1000 1 Option.none))) = (Go.Value.pointer (Option.some (Go.Addr.mk 1000 1 Option.none)))) ∧
 (((vI n1) = (vI n1)) ∧
 (((Go.Value.pointer (Option.some (Go.Addr.mk 1000 0 Option.none))) = (Go.Value.pointer (Option.some (Go.Addr.mk 1000 0 Option.none)))) ∧
 ((∃ n10 : Int,
 (∃ n11 : Int,
 (∃ n12 : Int,
 (∃ n13 : Int,
 (∃ n14 : Int,
 (∃ n15 : Int,
 (∃ n16 : Int,
 ((At (l) (0 + Int.toNat i * 7) 7 [(vI n10), (vI n11), (vI n12), (vI n13), (vI n14), (vI n15), (vI n16)]) ∧
 ((Go.Value.agg [(vI n10), (vI n11), (vI n12), (vI n13), (vI n14), (vI n15), (vI n16)].toArray) = (Go.Value.agg [(vI n3), (vI n4), (vI n5), (vI n6), (vI n7), (vI n8), (vI n9)].toArray)))))))))) ∧
 ((bcase (decide (0 ≤ i))
 (bcase (decide (i < (↑n : Int)))
 ((Go.Value.pointer (Option.some (Go.Addr.mk 500 (0 + Int.toNat i * 7) Option.none))) = (Go.Value.pointer (Option.some (Go.Addr.mk 500 (0 + Int.toNat i * 7) Option.none))))
 False)
 False) ∧
 (((vI i) = (vI i)) ∧
 (((Go.Value.slice (Option.some (Go.Addr.mk 500 0 Option.none)) (n) (cap)) = (Go.Value.slice (Option.some (Go.Addr.mk 500 0 Option.none)) (n) (cap))) ∧
 ((((Go.Value.slice (Option.some (Go.Addr.mk 1001 0 Option.none)) 1 1) = (Go.Value.slice (Option.some (Go.Addr.mk 1001 0 Option.none)) 1 1)) ∧
 ((Option.some (AObj.cells [(vI n1), (vI n2)] 56 false 2)) = (Option.some (AObj.cells [(vI n1), (vI n2)] 56 false 2)))) ∧
 (((Go.Value.agg [(vI n1), (vI n2)].toArray) = (Go.Value.agg [(vI n1), (vI n2)].toArray)) ∧
 True))))))))))) ∧
 (bcase (decide (n1 > n2))
 (((((Go.Value.slice (Option.some (Go.Addr.mk 1002 0 Option.none)) 2 2) = (Go.Value.slice (Option.some (Go.Addr.mk 1002 0 Option.none)) 2 2)) ∧
 ((Option.some (AObj.cells [(vI n1), (vI n2)] 3 false 1)) = (Option.some (AObj.cells [(vI n1), (vI n2)] 3 false 1)))) ∧
 (((vI n2) = (vI n2)) ∧
 (((Go.Value.pointer (Option.some (Go.Addr.mk 1000 1 Option.none))) = (Go.Value.pointer (Option.some (Go.Addr.mk 1000 1 Option.none)))) ∧
 (((vI n1) = (vI n1)) ∧
 (((Go.Value.pointer (Option.some (Go.Addr.mk 1000 0 Option.none))) = (Go.Value.pointer (Option.some (Go.Addr.mk 1000 0 Option.none)))) ∧
 ((∃ n10 : Int,
 (∃ n11 : Int,
 (∃ n12 : Int,
 (∃ n13 : Int,
 (∃ n14 : Int,
 (∃ n15 : Int,
 (∃ n16 : Int,
 ((At (l) (0 + Int.toNat i * 7) 7 [(vI n10), (vI n11), (vI n12), (vI n13), (vI n14), (vI n15), (vI n16)]) ∧
 ((Go.Value.agg [(vI n10), (vI n11), (vI n12), (vI n13), (vI n14), (vI n15), (vI n16)].toArray) = (Go.Value.agg [(vI n3), (vI n4), (vI n5), (vI n6), (vI n7), (vI n8), (vI n9)].toArray)))))))))) ∧
 ((bcase (decide (0 ≤ i))
 (bcase (decide (i < (↑n : Int)))
 ((Go.Value.pointer (Option.some (Go.Addr.mk 500 (0 + Int.toNat i * 7) Option.none))) = (Go.Value.pointer (Option.some (Go.Addr.mk 500 (0 + Int.toNat i * 7) Option.none))))
 False)
 False) ∧
 (((vI i) = (vI i)) ∧
 (((Go.Value.slice (Option.some (Go.Addr.mk 500 0 Option.none)) (n) (cap)) = (Go.Value.slice (Option.some (Go.Addr.mk 500 0 Option.none)) (n) (cap))) ∧
 (((Go.Value.agg [(vI n1), (vI n2)].toArray) = (Go.Value.agg [(vI n1), (vI n2)].toArray)) ∧
 True)))))))))) ∧
 (∃ r1 : Int,
 ((Says witC 0 [(D.val (vI n8)), (D.val (vI n9)), (D.val (vI (22 : Int))), (D.sl 2 1 [(vI n1), (vI n2)])] [(D.val (vI r1))]) ∧
 (((((Go.Value.slice (Option.some (Go.Addr.mk 1007 0 Option.none)) 2 2) = (Go.Value.slice (Option.some (Go.Addr.mk 1007 0 Option.none)) 2 2)) ∧
 ((Option.some (AObj.cells [(vI (9 : Int)), (vI r1)] 30 false 1)) = (Option.some (AObj.cells [(vI (9 : Int)), (vI r1)] 30 false 1)))) ∧
 (((vI n2) = (vI n2)) ∧
 (((Go.Value.pointer (Option.some (Go.Addr.mk 1000 1 Option.none))) = (Go.Value.pointer (Option.some (Go.Addr.mk 1000 1 Option.none)))) ∧
 (((vI n1) = (vI n1)) ∧
 (((Go.Value.pointer (Option.some (Go.Addr.mk 1000 0 Option.none))) = (Go.Value.pointer (Option.some (Go.Addr.mk 1000 0 Option.none)))) ∧
 ((bcase (decide (0 ≤ i))
 (bcase (decide (i < (↑n : Int)))
 ((Go.Value.pointer (Option.some (Go.Addr.mk 500 (0 + Int.toNat i * 7) Option.none))) = (Go.Value.pointer (Option.some (Go.Addr.mk 500 (0 + Int.toNat i * 7) Option.none))))
 False)
 False) ∧
 (((vI i) = (vI i)) ∧
 (((Go.Value.slice (Option.some (Go.Addr.mk 500 0 Option.none)) (n) (cap)) = (Go.Value.slice (Option.some (Go.Addr.mk 500 0 Option.none)) (n) (cap))) ∧
 (((Go.Value.agg [(vI n1), (vI n2)].toArray) = (Go.Value.agg [(vI n1), (vI n2)].toArray)) ∧
 True))))))))) ∧
 (∃ n10 : Int,
 ((Says C 37 [(D.sl 2 1 [(vI (9 : Int)), (vI r1)])] [(D.val (vI n10))]) ∧
 ((((vI n2) = (vI n2)) ∧
 (((Go.Value.pointer (Option.some (Go.Addr.mk 1000 1 Option.none))) = (Go.Value.pointer (Option.some (Go.Addr.mk 1000 1 Option.none)))) ∧
 (((vI n1) = (vI n1)) ∧
 (((Go.Value.pointer (Option.some (Go.Addr.mk 1000 0 Option.none))) = (Go.Value.pointer (Option.some (Go.Addr.mk 1000 0 Option.none)))) ∧
 ((bcase (decide (0 ≤ i))
 (bcase (decide (i < (↑n : Int)))
 ((Go.Value.pointer (Option.some (Go.Addr.mk 500 (0 + Int.toNat i * 7) Option.none))) = (Go.Value.pointer (Option.some (Go.Addr.mk 500 (0 + Int.toNat i * 7) Option.none))))
 False)
 False) ∧
 (((vI i) = (vI i)) ∧
 (((Go.Value.slice (Option.some (Go.Addr.mk 500 0 Option.none)) (n) (cap)) = (Go.Value.slice (Option.some (Go.Addr.mk 500 0 Option.none)) (n) (cap))) ∧
 (((Go.Value.agg [(vI n1), (vI n2)].toArray) = (Go.Value.agg [(vI n1), (vI n2)].toArray)) ∧
 True)))))))) ∧
 (True ∧
 (bcase (n10 != 0)
 (k [(D.val (vI i)), (D.val (vI n10))])
 (B [(Prod.mk 1 (Go.Value.slice (Option.some (Go.Addr.mk 501 0 Option.none)) (m) (cap2))), (Prod.mk 6 (Go.Value.slice (Option.some (Go.Addr.mk 500 0 Option.none)) (n) (cap))), (Prod.mk 32 (Go.Value.slice (Option.some (Go.Addr.mk 501 0 Option.none)) (m) (cap2))), (Prod.mk 33 (vI ((↑m : Int)))), (Prod.mk 34 (vI (IntKind.wrap .i64 (i + 1))))] [(Prod.mk 501 (AObj.sym (l2) false 2)), (Prod.mk 500 (AObj.sym (l) false 7))]))))))))))
 (((((Go.Value.slice (Option.some (Go.Addr.mk 1002 0 Option.none)) 2 2) = (Go.Value.slice (Option.some (Go.Addr.mk 1002 0 Option.none)) 2 2)) ∧
 ((Option.some (AObj.cells [(vI n1), (vI n2)] 3 false 1)) = (Option.some (AObj.cells [(vI n1), (vI n2)] 3 false 1)))) ∧
 (((vI n2) = (vI n2)) ∧
 (((Go.Value.pointer (Option.some (Go.Addr.mk 1000 1 Option.none))) = (Go.Value.pointer (Option.some (Go.Addr.mk 1000 1 Option.none)))) ∧
 (((vI n1) = (vI n1)) ∧
 (((Go.Value.pointer (Option.some (Go.Addr.mk 1000 0 Option.none))) = (Go.Value.pointer (Option.some (Go.Addr.mk 1000 0 Option.none)))) ∧
 ((∃ n10 : Int,
 (∃ n11 : Int,
 (∃ n12 : Int,
 (∃ n13 : Int,
 (∃ n14 : Int,
 (∃ n15 : Int,
 (∃ n16 : Int,
 ((At (l) (0 + Int.toNat i * 7) 7 [(vI n10), (vI n11), (vI n12), (vI n13), (vI n14), (vI n15), (vI n16)]) ∧
 ((Go.Value.agg [(vI n10), (vI n11), (vI n12), (vI n13), (vI n14), (vI n15), (vI n16)].toArray) = (Go.Value.agg [(vI n3), (vI n4), (vI n5), (vI n6), (vI n7), (vI n8), (vI n9)].toArray)))))))))) ∧
 ((bcase (decide (0 ≤ i))
 (bcase (decide (i < (↑n : Int)))
 ((Go.Value.pointer (Option.some (Go.Addr.mk 500 (0 + Int.toNat i * 7) Option.none))) = (Go.Value.pointer (Option.some (Go.Addr.mk 500 (0 + Int.toNat i * 7) Option.none))))
 False)
 False) ∧
 (((vI i) = (vI i)) ∧
 (((Go.Value.slice (Option.some (Go.Addr.mk 500 0 Option.none)) (n) (cap)) = (Go.Value.slice (Option.some (Go.Addr.mk 500 0 Option.none)) (n) (cap))) ∧
 (((Go.Value.agg [(vI n1), (vI n2)].toArray) = (Go.Value.agg [(vI n1), (vI n2)].toArray)) ∧
 True)))))))))) ∧
 (∃ r1 : Int,
 ((Says witC 0 [(D.val (vI n8)), (D.val (vI n9)), (D.val (vI (22 : Int))), (D.sl 2 1 [(vI n1), (vI n2)])] [(D.val (vI r1))]) ∧
 (((((Go.Value.slice (Option.some (Go.Addr.mk 1007 0 Option.none)) 2 2) = (Go.Value.slice (Option.some (Go.Addr.mk 1007 0 Option.none)) 2 2)) ∧
 ((Option.some (AObj.cells [(vI (0 : Int)), (vI r1)] 30 false 1)) = (Option.some (AObj.cells [(vI (0 : Int)), (vI r1)] 30 false 1)))) ∧
 (((vI n2) = (vI n2)) ∧
 (((Go.Value.pointer (Option.some (Go.Addr.mk 1000 1 Option.none))) = (Go.Value.pointer (Option.some (Go.Addr.mk 1000 1 Option.none)))) ∧
 (((vI n1) = (vI n1)) ∧
 (((Go.Value.pointer (Option.some (Go.Addr.mk 1000 0 Option.none))) = (Go.Value.pointer (Option.some (Go.Addr.mk 1000 0 Option.none)))) ∧
 ((bcase (decide (0 ≤ i))
 (bcase (decide (i < (↑n : Int)))
 ((Go.Value.pointer (Option.some (Go.Addr.mk 500 (0 + Int.toNat i * 7) Option.none))) = (Go.Value.pointer (Option.some (Go.Addr.mk 500 (0 + Int.toNat i * 7) Option.none))))
 False)
 False) ∧
 (((vI i) = (vI i)) ∧
 (((Go.Value.slice (Option.some (Go.Addr.mk 500 0 Option.none)) (n) (cap)) = (Go.Value.slice (Option.some (Go.Addr.mk 500 0 Option.none)) (n) (cap))) ∧
 (((Go.Value.agg [(vI n1), (vI n2)].toArray) = (Go.Value.agg [(vI n1), (vI n2)].toArray)) ∧
 True))))))))) ∧
 (∃ n10 : Int,
 ((Says C 37 [(D.sl 2 1 [(vI (0 : Int)), (vI r1)])] [(D.val (vI n10))]) ∧
 ((((vI n2) = (vI n2)) ∧
 (((Go.Value.pointer (Option.some (Go.Addr.mk 1000 1 Option.none))) = (Go.Value.pointer (Option.some (Go.Addr.mk 1000 1 Option.none)))) ∧
 (((vI n1) = (vI n1)) ∧
 (((Go.Value.pointer (Option.some (Go.Addr.mk 1000 0 Option.none))) = (Go.Value.pointer (Option.some (Go.Addr.mk 1000 0 Option.none)))) ∧
 ((bcase (decide (0 ≤ i))
 (bcase (decide (i < (↑n : Int)))
 ((Go.Value.pointer (Option.some (Go.Addr.mk 500 (0 + Int.toNat i * 7) Option.none))) = (Go.Value.pointer (Option.some (Go.Addr.mk 500 (0 + Int.toNat i * 7) Option.none))))
 False)
 False) ∧
 (((vI i) = (vI i)) ∧
 (((Go.Value.slice (Option.some (Go.Addr.mk 500 0 Option.none)) (n) (cap)) = (Go.Value.slice (Option.some (Go.Addr.mk 500 0 Option.none)) (n) (cap))) ∧
 (((Go.Value.agg [(vI n1), (vI n2)].toArray) = (Go.Value.agg [(vI n1), (vI n2)].toArray)) ∧
 True)))))))) ∧
 (True ∧
 (bcase (n10 != 0)
 (k [(D.val (vI i)), (D.val (vI n10))])
 (B [(Prod.mk 1 (Go.Value.slice (Option.some (Go.Addr.mk 501 0 Option.none)) (m) (cap2))), (Prod.mk 6 (Go.Value.slice (Option.some (Go.Addr.mk 500 0 Option.none)) (n) (cap))), (Prod.mk 32 (Go.Value.slice (Option.some (Go.Addr.mk 501 0 Option.none)) (m) (cap2))), (Prod.mk 33 (vI ((↑m : Int)))), (Prod.mk 34 (vI (IntKind.wrap .i64 (i + 1))))] [(Prod.mk 501 (AObj.sym (l2) false 2)), (Prod.mk 500 (AObj.sym (l) false 7))]))))))))))))))))))))
 False)
 False))))
 False)
 False)
 (X 0 [(Prod.mk 1 (Go.Value.slice (Option.some (Go.Addr.mk 501 0 Option.none)) (m) (cap2))), (Prod.mk 6 (Go.Value.slice (Option.some (Go.Addr.mk 500 0 Option.none)) (n) (cap)))] [(Prod.mk 501 (AObj.sym (l2) false 2)), (Prod.mk 500 (AObj.sym (l) false 7))])) := by kernel_rfl
def nCB (C : Ct) (L : AtLoop) (n cap : Nat) (l : List Value) (m cap2 : Nat) (l2 : List Value) (k : List D → Prop) : Prop := wpNext Try.prog (hK C) L 17 0 .normal [(1, S501 m cap2), (6, S500 n cap)] [T501 l2, L500 l] (dataK k)
theorem nCB_text (C : Ct) (L : AtLoop) (n : Nat) (cap : Nat) (l : List Go.Value) (m : Nat) (cap2 : Nat) (l2 : List Go.Value) (k : List D → Prop) : nCB C L n cap l m cap2 l2 k =
 (bcase (decide (0 + n * 7 ≤ List.length l))
 (bcase (decide (0 + m * 2 ≤ List.length l2))
 (((Says C 45 [(D.sl (n) 7 (List.take (n * 7) (List.drop 0 l))), (D.sl (m) 2 (List.take (m * 2) (List.drop 0 l2)))] [D.nil]) ∧
 (L 2 [(Prod.mk 1 (Go.Value.slice (Option.some (Go.Addr.mk 501 0 Option.none)) (m) (cap2))), (Prod.mk 61 (Go.Value.slice Option.none 0 0)), (Prod.mk 62 (vI (0 : Int))), (Prod.mk 63 (vI (0 : Int)))] [(Prod.mk 501 (AObj.sym (l2) false 2))])) ∨
 (∃ n1 : Nat,
 (∃ cs1 : List Go.Value,
 ((Says C 45 [(D.sl (n) 7 (List.take (n * 7) (List.drop 0 l))), (D.sl (m) 2 (List.take (m * 2) (List.drop 0 l2)))] [(D.sl (n1) 2 (cs1))]) ∧
 (L 2 [(Prod.mk 1 (Go.Value.slice (Option.some (Go.Addr.mk 501 0 Option.none)) (m) (cap2))), (Prod.mk 61 (Go.Value.slice (Option.some (Go.Addr.mk 1000 0 Option.none)) (n1) (n1))), (Prod.mk 62 (vI ((↑n1 : Int)))), (Prod.mk 63 (vI (0 : Int)))] [(Prod.mk 501 (AObj.sym (l2) false 2)), (Prod.mk 1000 (AObj.sym (cs1) true 2))])))))
 False)
 False) := by kernel_rfl
def sBF (n cap m cap2 : Nat) (i : Int) : Slots := [(1, S501 m cap2), (6, S500 n cap), (31, S501 m cap2), (32, vI m), (33, vI i)]
def rBF (C : Ct) (L : AtLoop) (n cap : Nat) (l : List Value) (m cap2 : Nat) (l2 : List Value) (i : Int) (B : Bx) (X : Xx) (k : List D → Prop) : Prop := wpRound Try.prog (hK C) L 19 0 (sBF n cap m cap2 i) [Q501 l2, L500 l] B X (dataK k)
theorem rBF_text (C : Ct) (L : AtLoop) (n : Nat) (cap : Nat) (l : List Go.Value) (m : Nat) (cap2 : Nat) (l2 : List Go.Value) (i : Int) (B : Bx) (X : Xx) (k : List D → Prop) : rBF C L n cap l m cap2 l2 i B X k =
 (bcase (decide (i < (↑m : Int)))
 (bcase (decide (0 ≤ i))
 (bcase (decide (i < (↑m : Int)))
 (∃ n1 : Int,
 ((At (l2) (0 + Int.toNat i * 1) 1 [(vI n1)]) ∧
 (bcase (decide (0 ≤ i))
 (bcase (decide (i < (↑n : Int)))
 (∃ n2 : Int,
 (∃ n3 : Int,
 (∃ n4 : Int,
 (∃ n5 : Int,
 (∃ n6 : Int,
 (∃ n7 : Int,
 (∃ n8 : Int,
 ((At (l) (0 + Int.toNat i * 7) 7 [(vI n2), (vI n3), (vI n4), (vI n5), (vI n6), (vI n7), (vI n8)]) ∧
 (∃ r1 : Int,
 ((Says witC 0 [(D.val (vI n7)), (D.val (vI n8)), (D.val (vI (22 : Int))), (D.sl 1 1 [(vI n1)])] [(D.val (vI r1))]) ∧
 (bcase (r1 != 0)
 (k [D.nil, (D.val (vI r1))])
 (B [(Prod.mk 1 (Go.Value.slice (Option.some (Go.Addr.mk 501 0 Option.none)) (m) (cap2))), (Prod.mk 6 (Go.Value.slice (Option.some (Go.Addr.mk 500 0 Option.none)) (n) (cap))), (Prod.mk 31 (Go.Value.slice (Option.some (Go.Addr.mk 501 0 Option.none)) (m) (cap2))), (Prod.mk 32 (vI ((↑m : Int)))), (Prod.mk 33 (vI (IntKind.wrap .i64 (i + 1))))] [(Prod.mk 501 (AObj.sym (l2) false 1)), (Prod.mk 500 (AObj.sym (l) false 7))]))))))))))))
 False)
 False)))
 False)
 False)
 (X 0 [(Prod.mk 1 (Go.Value.slice (Option.some (Go.Addr.mk 501 0 Option.none)) (m) (cap2))), (Prod.mk 6 (Go.Value.slice (Option.some (Go.Addr.mk 500 0 Option.none)) (n) (cap)))] [(Prod.mk 501 (AObj.sym (l2) false 1)), (Prod.mk 500 (AObj.sym (l) false 7))])) := by kernel_rfl
def nBF (C : Ct) (L : AtLoop) (n cap : Nat) (l : List Value) (m cap2 : Nat) (l2 : List Value) (k : List D → Prop) : Prop := wpNext Try.prog (hK C) L 19 0 .normal [(1, S501 m cap2), (6, S500 n cap)] [Q501 l2, L500 l] (dataK k)
theorem nBF_text (C : Ct) (L : AtLoop) (n : Nat) (cap : Nat) (l : List Go.Value) (m : Nat) (cap2 : Nat) (l2 : List Go.Value) (k : List D → Prop) : nBF C L n cap l m cap2 l2 k =
 (bcase (decide (0 + m * 1 ≤ List.length l2))
 (bcase (decide (0 + m * 1 ≤ List.length l2))
 (((Says C 46 [(D.sl (m) 1 (List.take (m * 1) (List.drop 0 l2))), (D.sl (m) 1 (List.take (m * 1) (List.drop 0 l2)))] [D.nil]) ∧
 (L 2 [(Prod.mk 6 (Go.Value.slice (Option.some (Go.Addr.mk 500 0 Option.none)) (n) (cap))), (Prod.mk 12 (Go.Value.slice Option.none 0 0))] [(Prod.mk 500 (AObj.sym (l) false 7))])) ∨
 (∃ n1 : Nat,
 (∃ cs1 : List Go.Value,
 ((Says C 46 [(D.sl (m) 1 (List.take (m * 1) (List.drop 0 l2))), (D.sl (m) 1 (List.take (m * 1) (List.drop 0 l2)))] [(D.sl (n1) 2 (cs1))]) ∧
 (L 2 [(Prod.mk 6 (Go.Value.slice (Option.some (Go.Addr.mk 500 0 Option.none)) (n) (cap))), (Prod.mk 12 (Go.Value.slice (Option.some (Go.Addr.mk 1000 0 Option.none)) (n1) (n1)))] [(Prod.mk 500 (AObj.sym (l) false 7)), (Prod.mk 1000 (AObj.sym (cs1) true 2))])))))
 False)
 False) := by kernel_rfl
abbrev W1000 (l : List Value) : Nat × AObj := (1000, .sym l true 2)
def sCB2 (m cap2 j : Nat) (i : Int) : Slots := [(1, S501 m cap2), (61, S1000 j), (62, vI j), (63, vI i)]
def rCB2 (C : Ct) (L : AtLoop) (m cap2 : Nat) (l2 : List Value) (j : Nat) (r : List Value) (i : Int) (B : Bx) (X : Xx) (k : List D → Prop) : Prop := wpRound Try.prog (hK C) L 17 2 (sCB2 m cap2 j i) [T501 l2, W1000 r] B X (dataK k)
theorem rCB2_text (C : Ct) (L : AtLoop) (m : Nat) (cap2 : Nat) (l2 : List Go.Value) (j : Nat) (r : List Go.Value) (i : Int) (B : Bx) (X : Xx) (k : List D → Prop) : rCB2 C L m cap2 l2 j r i B X k =
 (bcase (decide (i < (↑j : Int)))
 (bcase (decide (0 ≤ i))
 (bcase (decide (i < (↑j : Int)))
 (∃ n1 : Int,
 (∃ n2 : Int,
 ((At (r) (0 + Int.toNat i * 2) 2 [(vI n1), (vI n2)]) ∧
 (bcase (decide (0 ≤ i))
 (bcase (decide (i < (↑m : Int)))
 (∃ n3 : Int,
 (∃ n4 : Int,
 ((At (l2) (0 + Int.toNat i * 2) 2 [(vI n3), (vI n4)]) ∧
 (((((Go.Value.slice (Option.some (Go.Addr.mk 1002 0 Option.none)) 2 2) = (Go.Value.slice (Option.some (Go.Addr.mk 1002 0 Option.none)) 2 2)) ∧
 ((Option.some (AObj.cells [(vI n1), (vI n2)] 3 false 1)) = (Option.some (AObj.cells [(vI n1), (vI n2)] 3 false 1)))) ∧
 (((vI n2) = (vI n2)) ∧
 (((Go.Value.pointer (Option.some (Go.Addr.mk 1001 1 Option.none))) = (Go.Value.pointer (Option.some (Go.Addr.mk 1001 1 Option.none)))) ∧
 (((vI n1) = (vI n1)) ∧
 (((Go.Value.pointer (Option.some (Go.Addr.mk 1001 0 Option.none))) = (Go.Value.pointer (Option.some (Go.Addr.mk 1001 0 Option.none)))) ∧
 ((∃ n5 : Int,
 (∃ n6 : Int,
 ((At (l2) (0 + Int.toNat i * 2) 2 [(vI n5), (vI n6)]) ∧
 ((Go.Value.agg [(vI n5), (vI n6)].toArray) = (Go.Value.agg [(vI n3), (vI n4)].toArray))))) ∧
 ((bcase (decide (0 ≤ i))
 (bcase (decide (i < (↑m : Int)))
 ((Go.Value.pointer (Option.some (Go.Addr.mk 501 (0 + Int.toNat i * 2) Option.none))) = (Go.Value.pointer (Option.some (Go.Addr.mk 501 (0 + Int.toNat i * 2) Option.none))))
 False)
 False) ∧
 (((vI i) = (vI i)) ∧
 (((Go.Value.slice (Option.some (Go.Addr.mk 501 0 Option.none)) (m) (cap2)) = (Go.Value.slice (Option.some (Go.Addr.mk 501 0 Option.none)) (m) (cap2))) ∧
 True))))))))) ∧
 (((((Go.Value.slice (Option.some (Go.Addr.mk 1002 0 Option.none)) 2 2) = (Go.Value.slice (Option.some (Go.Addr.mk 1002 0 Option.none)) 2 2)) ∧
 ((Option.some (AObj.cells [(vI n1), (vI n2)] 3 false 1)) = (Option.some (AObj.cells [(vI n1), (vI n2)] 3 false 1)))) ∧
 (((vI n2) = (vI n2)) ∧
 (((Go.Value.pointer (Option.some (Go.Addr.mk 1001 1 Option.none))) = (Go.Value.pointer (Option.some (Go.Addr.mk 1001 1 Option.none)))) ∧
 (((vI n1) = (vI n1)) ∧
 (((Go.Value.pointer (Option.some (Go.Addr.mk 1001 0 Option.none))) = (Go.Value.pointer (Option.some (Go.Addr.mk 1001 0 Option.none)))) ∧
 ((bcase (decide (0 ≤ i))
 (bcase (decide (i < (↑m : Int)))
 ((Go.Value.pointer (Option.some (Go.Addr.mk 501 (0 + Int.toNat i * 2) Option.none))) = (Go.Value.pointer (Option.some (Go.Addr.mk 501 (0 + Int.toNat i * 2) Option.none))))
 False)
 False) ∧
 (((vI i) = (vI i)) ∧
 (((Go.Value.slice (Option.some (Go.Addr.mk 501 0 Option.none)) (m) (cap2)) = (Go.Value.slice (Option.some (Go.Addr.mk 501 0 Option.none)) (m) (cap2))) ∧
 True)))))))) ∧
 (∃ r1 : Int,
 ((Says witC 0 [(D.val (vI n3)), (D.val (vI n4)), (D.val (vI (19 : Int))), (D.sl 2 1 [(vI n1), (vI n2)])] [(D.val (vI r1))]) ∧
 ((((vI n2) = (vI n2)) ∧
 (((Go.Value.pointer (Option.some (Go.Addr.mk 1001 1 Option.none))) = (Go.Value.pointer (Option.some (Go.Addr.mk 1001 1 Option.none)))) ∧
 (((vI n1) = (vI n1)) ∧
 (((Go.Value.pointer (Option.some (Go.Addr.mk 1001 0 Option.none))) = (Go.Value.pointer (Option.some (Go.Addr.mk 1001 0 Option.none)))) ∧
 ((bcase (decide (0 ≤ i))
 (bcase (decide (i < (↑m : Int)))
 ((Go.Value.pointer (Option.some (Go.Addr.mk 501 (0 + Int.toNat i * 2) Option.none))) = (Go.Value.pointer (Option.some (Go.Addr.mk 501 (0 + Int.toNat i * 2) Option.none))))
 False)
 False) ∧
 (((vI i) = (vI i)) ∧
 (((Go.Value.slice (Option.some (Go.Addr.mk 501 0 Option.none)) (m) (cap2)) = (Go.Value.slice (Option.some (Go.Addr.mk 501 0 Option.none)) (m) (cap2))) ∧
 True))))))) ∧
 (True ∧
 (bcase (r1 != 0)
 (k [(D.val (vI i)), (D.val (vI r1))])
 (B [(Prod.mk 1 (Go.Value.slice (Option.some (Go.Addr.mk 501 0 Option.none)) (m) (cap2))), (Prod.mk 61 (Go.Value.slice (Option.some (Go.Addr.mk 1000 0 Option.none)) (j) (j))), (Prod.mk 62 (vI ((↑j : Int)))), (Prod.mk 63 (vI (IntKind.wrap .i64 (i + 1))))] [(Prod.mk 501 (AObj.sym (l2) false 2)), (Prod.mk 1000 (AObj.sym (r) true 2))])))))))))))
 False)
 False))))
 False)
 False)
 (X 2 [] [])) := by kernel_rfl
def nCB2 (C : Ct) (L : AtLoop) (k : List D → Prop) : Prop := wpNext Try.prog (hK C) L 17 2 .normal [] [] (dataK k)
theorem nCB2_text (C : Ct) (L : AtLoop) (k : List D → Prop) : nCB2 C L k =
 (k [(D.val (vI (0 : Int))), (D.val (vI (0 : Int)))]) := by kernel_rfl
def sBF2 (n cap j : Nat) : Slots := [(6, S500 n cap), (12, S1000 j)]
def rBF2 (C : Ct) (L : AtLoop) (n cap : Nat) (l : List Value) (j : Nat) (r : List Value) (B : Bx) (X : Xx) (k : List D → Prop) : Prop := wpRound Try.prog (hK C) L 19 2 (sBF2 n cap j) [L500 l, W1000 r] B X (dataK k)
theorem rBF2_text (C : Ct) (L : AtLoop) (n : Nat) (cap : Nat) (l : List Go.Value) (j : Nat) (r : List Go.Value) (B : Bx) (X : Xx) (k : List D → Prop) : rBF2 C L n cap l j r B X k =
 (bcase (decide (0 + n * 7 ≤ List.length l))
 (bcase (decide (0 + j * 2 ≤ List.length r))
 (((Says C 45 [(D.sl (n) 7 (List.take (n * 7) (List.drop 0 l))), (D.sl (j) 2 (List.take (j * 2) (List.drop 0 r)))] [D.nil]) ∧
 (bcase (decide (0 + j * 2 ≤ List.length r))
 (((Says C 47 [(D.sl (j) 2 (List.take (j * 2) (List.drop 0 r))), D.nil] [D.nil]) ∧
 (bcase (decide (0 + j * 2 ≤ List.length r))
 (((Says C 48 [D.nil, (D.sl (j) 2 (List.take (j * 2) (List.drop 0 r)))] [(D.val (Value.bool true))]) ∧
 ((((j) = (j)) ∧
 ((List.length r) = (j * 2))) ∧
 (k [(D.sl (j) 2 (r)), (D.val (vI (0 : Int)))]))) ∨
 ((Says C 48 [D.nil, (D.sl (j) 2 (List.take (j * 2) (List.drop 0 r)))] [(D.val (Value.bool false))]) ∧
 (bcase (decide (0 + n * 7 ≤ List.length l))
 (((Says C 49 [(D.sl (n) 7 (List.take (n * 7) (List.drop 0 l))), D.nil] [(D.val (Value.bool true))]) ∧
 (B [(Prod.mk 6 (Go.Value.slice (Option.some (Go.Addr.mk 500 0 Option.none)) (n) (cap))), (Prod.mk 12 (Go.Value.slice Option.none 0 0))] [(Prod.mk 500 (AObj.sym (l) false 7))])) ∨
 ((Says C 49 [(D.sl (n) 7 (List.take (n * 7) (List.drop 0 l))), D.nil] [(D.val (Value.bool false))]) ∧
 (k [D.nil, (D.val (vI (12 : Int)))])))
 False)))
 False)) ∨
 (∃ n1 : Nat,
 (∃ cs1 : List Go.Value,
 ((Says C 47 [(D.sl (j) 2 (List.take (j * 2) (List.drop 0 r))), D.nil] [(D.sl (n1) 2 (cs1))]) ∧
 (bcase (decide (0 + n1 * 2 ≤ List.length cs1))
 (bcase (decide (0 + j * 2 ≤ List.length r))
 (((Says C 48 [(D.sl (n1) 2 (List.take (n1 * 2) (List.drop 0 cs1))), (D.sl (j) 2 (List.take (j * 2) (List.drop 0 r)))] [(D.val (Value.bool true))]) ∧
 ((((j) = (j)) ∧
 ((List.length r) = (j * 2))) ∧
 (k [(D.sl (j) 2 (r)), (D.val (vI (0 : Int)))]))) ∨
 ((Says C 48 [(D.sl (n1) 2 (List.take (n1 * 2) (List.drop 0 cs1))), (D.sl (j) 2 (List.take (j * 2) (List.drop 0 r)))] [(D.val (Value.bool false))]) ∧
 (bcase (decide (0 + n * 7 ≤ List.length l))
 (bcase (decide (0 + n1 * 2 ≤ List.length cs1))
 (((Says C 49 [(D.sl (n) 7 (List.take (n * 7) (List.drop 0 l))), (D.sl (n1) 2 (List.take (n1 * 2) (List.drop 0 cs1)))] [(D.val (Value.bool true))]) ∧
 (B [(Prod.mk 6 (Go.Value.slice (Option.some (Go.Addr.mk 500 0 Option.none)) (n) (cap))), (Prod.mk 12 (Go.Value.slice (Option.some (Go.Addr.mk 1000 0 Option.none)) (n1) (n1)))] [(Prod.mk 500 (AObj.sym (l) false 7)), (Prod.mk 1000 (AObj.sym (cs1) true 2))])) ∨
 ((Says C 49 [(D.sl (n) 7 (List.take (n * 7) (List.drop 0 l))), (D.sl (n1) 2 (List.take (n1 * 2) (List.drop 0 cs1)))] [(D.val (Value.bool false))]) ∧
 (k [D.nil, (D.val (vI (12 : Int)))])))
 False)
 False)))
 False)
 False)))))
 False)) ∨
 (∃ n1 : Nat,
 (∃ cs1 : List Go.Value,
 ((Says C 45 [(D.sl (n) 7 (List.take (n * 7) (List.drop 0 l))), (D.sl (j) 2 (List.take (j * 2) (List.drop 0 r)))] [(D.sl (n1) 2 (cs1))]) ∧
 (bcase (decide (0 + j * 2 ≤ List.length r))
 (bcase (decide (0 + n1 * 2 ≤ List.length cs1))
 (((Says C 47 [(D.sl (j) 2 (List.take (j * 2) (List.drop 0 r))), (D.sl (n1) 2 (List.take (n1 * 2) (List.drop 0 cs1)))] [D.nil]) ∧
 (bcase (decide (0 + j * 2 ≤ List.length r))
 (((Says C 48 [D.nil, (D.sl (j) 2 (List.take (j * 2) (List.drop 0 r)))] [(D.val (Value.bool true))]) ∧
 ((((j) = (j)) ∧
 ((List.length r) = (j * 2))) ∧
 (k [(D.sl (j) 2 (r)), (D.val (vI (0 : Int)))]))) ∨
 ((Says C 48 [D.nil, (D.sl (j) 2 (List.take (j * 2) (List.drop 0 r)))] [(D.val (Value.bool false))]) ∧
 (bcase (decide (0 + n * 7 ≤ List.length l))
 (((Says C 49 [(D.sl (n) 7 (List.take (n * 7) (List.drop 0 l))), D.nil] [(D.val (Value.bool true))]) ∧
 (B [(Prod.mk 6 (Go.Value.slice (Option.some (Go.Addr.mk 500 0 Option.none)) (n) (cap))), (Prod.mk 12 (Go.Value.slice Option.none 0 0))] [(Prod.mk 500 (AObj.sym (l) false 7))])) ∨
 ((Says C 49 [(D.sl (n) 7 (List.take (n * 7) (List.drop 0 l))), D.nil] [(D.val (Value.bool false))]) ∧
 (k [D.nil, (D.val (vI (12 : Int)))])))
 False)))
 False)) ∨
 (∃ n2 : Nat,
 (∃ cs2 : List Go.Value,
 ((Says C 47 [(D.sl (j) 2 (List.take (j * 2) (List.drop 0 r))), (D.sl (n1) 2 (List.take (n1 * 2) (List.drop 0 cs1)))] [(D.sl (n2) 2 (cs2))]) ∧
 (bcase (decide (0 + n2 * 2 ≤ List.length cs2))
 (bcase (decide (0 + j * 2 ≤ List.length r))
 (((Says C 48 [(D.sl (n2) 2 (List.take (n2 * 2) (List.drop 0 cs2))), (D.sl (j) 2 (List.take (j * 2) (List.drop 0 r)))] [(D.val (Value.bool true))]) ∧
 ((((j) = (j)) ∧
 ((List.length r) = (j * 2))) ∧
 (k [(D.sl (j) 2 (r)), (D.val (vI (0 : Int)))]))) ∨
 ((Says C 48 [(D.sl (n2) 2 (List.take (n2 * 2) (List.drop 0 cs2))), (D.sl (j) 2 (List.take (j * 2) (List.drop 0 r)))] [(D.val (Value.bool false))]) ∧
 (bcase (decide (0 + n * 7 ≤ List.length l))
 (bcase (decide (0 + n2 * 2 ≤ List.length cs2))
 (((Says C 49 [(D.sl (n) 7 (List.take (n * 7) (List.drop 0 l))), (D.sl (n2) 2 (List.take (n2 * 2) (List.drop 0 cs2)))] [(D.val (Value.bool true))]) ∧
 (B [(Prod.mk 6 (Go.Value.slice (Option.some (Go.Addr.mk 500 0 Option.none)) (n) (cap))), (Prod.mk 12 (Go.Value.slice (Option.some (Go.Addr.mk 1000 0 Option.none)) (n2) (n2)))] [(Prod.mk 500 (AObj.sym (l) false 7)), (Prod.mk 1000 (AObj.sym (cs2) true 2))])) ∨
 ((Says C 49 [(D.sl (n) 7 (List.take (n * 7) (List.drop 0 l))), (D.sl (n2) 2 (List.take (n2 * 2) (List.drop 0 cs2)))] [(D.val (Value.bool false))]) ∧
 (k [D.nil, (D.val (vI (12 : Int)))])))
 False)
 False)))
 False)
 False)))))
 False)
 False)))))
 False)
 False) := by kernel_rfl
end Go.Proofs.G5b

/- Chapter 5: boxes compared, looked through, in data. -/
namespace Go.Proofs.G5b
open Go Go.Abs Go.Proofs Go.Proofs.G5
set_option maxRecDepth 100000
theorem ne_pair {a b c d : Int} (h : (if true = true then !(a == c && (b == d && true)) else a == c && (b == d && true)) = true) : ((a, b) : Int × Int) ≠ (c, d) := by
  intro e
  simp only [Prod.mk.injEq] at e
  obtain ⟨rfl, rfl⟩ := e
  simp at h
theorem eq_pair {a b c d : Int} (h : (if true = true then !(a == c && (b == d && true)) else a == c && (b == d && true)) = false) : ((a, b) : Int × Int) = (c, d) := by
  simp at h
  rw [h.1, h.2]
theorem conEq (l m : Bxs) (hl : l.length < 1000000000) : C5 48 [.sl l.length 2 (vp l), .sl m.length 2 (vp m)] [.val (.bool (decide (l = m)))] := by
  let inv : Nat × Nat × Nat → Prop := fun x => x.1 ≤ l.length ∧ l.length = m.length ∧ (l = m ↔ l.drop x.1 = m.drop x.1)
  let st : Nat × Nat × Nat → Slots × Blocks := fun x => (sEq l.length x.2.1 m.length x.2.2 x.1, [T500 (vp l), T501 (vp m)])
  refine con_of (L := fun _ s b => ∃ x, inv x ∧ st x = (s, b)) hokK mixed Try.func48 rfl (by show 2 ≤ 400; omega) rfl (ids := [0]) (by kernel_rfl) rfl (fun caps => ?_) (fun id hid => ?_)
  · show gEq _ _ l.length (caps 500) (vp l) m.length (caps 501) (vp m) _
    rw [gEq_text]
    refine bc_bne (fun h => ?_) (fun h => ?_)
    · show _ = _
      rw [decide_eq_false (fun e => h (by rw [e]))]
    · exact ⟨(0, caps 500, caps 501), ⟨Nat.zero_le _, by show l.length = m.length; omega, Iff.rfl⟩, rfl⟩
  · obtain rfl := List.mem_singleton.1 hid
    refine ⟨_, st, inv, fun x => l.length - x.1, ⟨fun s b h => h, by kernel_rfl, ?_⟩⟩
    rintro ⟨i, c1, c2⟩ ⟨hi, hlm, hr⟩
    simp only at hi hr
    show rEq _ _ l.length c1 (vp l) m.length c2 (vp m) (i : Int) _ _ _
    rw [rEq_text]
    refine bc_dec (fun h => ?_) (fun h => ?_)
    · have h1 : i < l.length := by omega
      have h2 : i < m.length := by omega
      rw [List.drop_eq_getElem_cons h1, List.drop_eq_getElem_cons h2] at hr
      simp only [bc_t h, bc_t (show (i : Int) < (m.length : Int) by omega), bc_t (show (0 : Int) ≤ (i : Int) by omega), Int.toNat_natCast, at2 (vp_two l i h1), at2 (vp_two m i h2), true_and]
      refine bcase_intro (fun hc => ?_) (fun hc => ?_)
      · rw [hc]
        have hn : l[i] ≠ m[i] := ne_pair hc
        refine ⟨⟨trivial, trivial⟩, ?_⟩
        show _ = _
        rw [decide_eq_false (fun e => hn (List.cons.inj (hr.1 e)).1)]
      · rw [hc]
        have hn : l[i] = m[i] := eq_pair hc
        refine ⟨⟨trivial, trivial⟩, ⟨i + 1, c1, c2⟩, ⟨by show i + 1 ≤ l.length; omega, hlm, ?_⟩, by show l.length - (i + 1) < l.length - i; omega, ?_⟩
        · show l = m ↔ l.drop (i + 1) = m.drop (i + 1)
          refine hr.trans ?_
          rw [hn]
          exact ⟨fun e => (List.cons.inj e).2, fun e => by rw [e]⟩
        · rw [w64 (by omega) (by omega)]; rfl
    · show (if 0 = 0 then _ else _)
      rw [if_pos rfl]
      show nEq _ _ _
      rw [nEq_text]
      show _ = _
      have e : l = m := hr.2 (by rw [List.drop_eq_nil_of_le (by omega), List.drop_eq_nil_of_le (by omega)])
      rw [decide_eq_true e]
theorem witE2 {lo hi e x y : Int} (he : e ≠ 0) : witE lo hi e [vI x, vI y] = if (lo ≤ x ∧ x ≤ hi) ∧ (lo ≤ y ∧ y ≤ hi) then 0 else e := by
  simp only [witE]
  repeat' split
  all_goals first | rfl | omega
theorem conIL {ps : List Sv} {b : Bxs} (hl : b.length = ps.length) (hn : ps.length ≤ 1000) : C5 49 [.sl ps.length 7 (vs7 ps), .sl b.length 2 (vp b)] [.val (.bool (ilB ps b))] := by
  let inv : Nat × Nat × Nat → Prop := fun x => x.1 ≤ b.length ∧ ilB ps b = ilB (ps.drop x.1) (b.drop x.1)
  let st : Nat × Nat × Nat → Slots × Blocks := fun x => (sIL ps.length x.2.1 b.length x.2.2 x.1, [L500 (vs7 ps), T501 (vp b)])
  refine con_of (L := fun _ s b => ∃ x, inv x ∧ st x = (s, b)) hokK mixed Try.func49 rfl (by show 2 ≤ 400; omega) rfl (ids := [0]) (by kernel_rfl) rfl (fun caps => ?_) (fun id hid => ?_)
  · show gIL _ _ ps.length (caps 500) (vs7 ps) b.length (caps 501) (vp b) _
    rw [gIL_text]
    exact ⟨(0, caps 500, caps 501), ⟨Nat.zero_le _, rfl⟩, rfl⟩
  · obtain rfl := List.mem_singleton.1 hid
    refine ⟨_, st, inv, fun x => b.length - x.1, ⟨fun s b h => h, by kernel_rfl, ?_⟩⟩
    rintro ⟨i, c1, c2⟩ ⟨hi, hr⟩
    simp only at hi hr
    show rIL _ _ ps.length c1 (vs7 ps) b.length c2 (vp b) (i : Int) _ _ _
    rw [rIL_text]
    refine bc_dec (fun h => ?_) (fun h => ?_)
    · have h1 : i < ps.length := by omega
      have h2 : i < b.length := by omega
      rw [ilB_at h1 h2] at hr
      simp only [bc_t h, bc_t (show (i : Int) < (ps.length : Int) by omega), bc_t (show (0 : Int) ≤ (i : Int) by omega), Int.toNat_natCast, at7 (vs7_all ps i h1), at2 (vp_two b i h2), eq_self, true_and, and_true]
      refine ⟨witE ps[i].f ps[i].g 22 [vI b[i].1, vI b[i].2], ⟨rfl⟩, ?_⟩
      rw [witE2 (by decide)]
      by_cases hq : (ps[i].f ≤ b[i].1 ∧ b[i].1 ≤ ps[i].g) ∧ (ps[i].f ≤ b[i].2 ∧ b[i].2 ≤ ps[i].g)
      · rw [if_pos hq] at hr ⊢
        refine bc_bne (fun h' => absurd rfl h') (fun _ => ?_)
        refine ⟨bc_bne (fun h' => absurd rfl h') (fun _ => trivial), (i + 1, c1, c2), ⟨h2, hr⟩, by show b.length - (i + 1) < b.length - i; omega, ?_⟩
        rw [w64 (by omega) (by omega)]; rfl
      · rw [if_neg hq] at hr ⊢
        refine bc_bne (fun _ => ?_) (fun h' => absurd h' (by decide))
        refine ⟨bc_bne (fun _ => trivial) (fun h' => absurd h' (by decide)), ?_⟩
        show _ = _
        rw [hr]
    · show (if 0 = 0 then _ else _)
      rw [if_pos rfl]
      show nIL _ _ _
      rw [nIL_text]
      rw [ilB_end (by omega)] at hr
      show _ = _
      rw [hr]
def cbD (ps : List Sv) (b : Bxs) : List D := [dI (cbP ps b).1, dI (cbP ps b).2]
theorem sameE1 (a b : Int) : sameE a [b] = if b ≠ a then 10 else 0 := by
  simp only [sameE]
  repeat' split
  all_goals first | rfl | omega
theorem conCB (ps : List Sv) (b : Bxs) (hn : ps.length ≤ 1000) : C5 17 [.agg [.sl ps.length 7 (vs7 ps)], .sl b.length 2 (vp b)] (cbD ps b) := by
  let inv0 : Nat × Nat × Nat → Prop := fun x => x.1 ≤ b.length ∧ (chE ps).2 = 0 ∧ b.length = ps.length ∧ cbGo 0 ps b = cbGo x.1 (ps.drop x.1) (b.drop x.1)
  let st0 : Nat × Nat × Nat → Slots × Blocks := fun x => (sCB ps.length x.2.1 b.length x.2.2 x.1, [T501 (vp b), L500 (vs7 ps)])
  let inv2 : Nat × Nat × Nat → Prop := fun x => x.1 ≤ b.length ∧ (chE ps).2 = 0 ∧ b.length = ps.length ∧ (cbGo 0 ps b).2 = 0 ∧ pfGo 0 b (img ps b) = pfGo x.1 (b.drop x.1) ((img ps b).drop x.1)
  let st2 : Nat × Nat × Nat → Slots × Blocks := fun x => (sCB2 b.length x.2.2 ps.length x.1, [T501 (vp b), W1000 (vp (img ps b))])
  refine con_of (L := fun id s b => match id with | 0 => ∃ x, inv0 x ∧ st0 x = (s, b) | _ => ∃ x, inv2 x ∧ st2 x = (s, b)) hokK mixed Try.func17 rfl (by show 2 ≤ 400; omega) rfl (ids := [0, 2]) (by kernel_rfl) rfl (fun caps => ?_) (fun id hid => ?_)
  · show gCB _ _ ps.length (caps 500) (vs7 ps) b.length (caps 501) (vp b) _
    rw [gCB_text]
    simp only [bc_t (v7le ps), vs7_whole, eq_self, true_and, and_true]
    refine ⟨_, _, ⟨conC9 ps (by omega)⟩, bc_bne (fun h => ?_) (fun h => ?_)⟩
    · refine ⟨_, ⟨conCS 0 [(b.length : Int)] (by simp)⟩, _, ⟨conFE [(chE ps).2, sameE 0 [(b.length : Int)]] (by simp)⟩, ?_⟩
      rw [fst0_two, if_neg h]
      refine bc_bne (fun _ => ?_) (fun h' => absurd h' h)
      show _ = _
      rw [cbD, cbP, if_pos h]
    · refine ⟨_, ⟨conCS (ps.length : Int) [(b.length : Int)] (by simp)⟩, _, ⟨conFE [0, sameE (ps.length : Int) [(b.length : Int)]] (by simp)⟩, ?_⟩
      rw [fst0_two, if_pos rfl, sameE1]
      by_cases hl : b.length ≠ ps.length
      · rw [if_pos (show (b.length : Int) ≠ (ps.length : Int) by omega)]
        refine bc_bne (fun _ => ?_) (fun h' => absurd h' (by decide))
        show _ = _
        rw [cbD, cbP, if_neg (fun x => x h), if_pos hl]
      · rw [if_neg (show ¬ ((b.length : Int) ≠ (ps.length : Int)) by omega)]
        refine bc_bne (fun h' => absurd rfl h') (fun _ => ?_)
        exact ⟨(0, caps 500, caps 501), ⟨Nat.zero_le _, h, by omega, rfl⟩, rfl⟩
  · have hid' : id = 0 ∨ id = 2 := by simpa using hid
    rcases hid' with rfl | rfl
    · refine ⟨_, st0, inv0, fun x => b.length - x.1, ⟨fun s b h => h, by kernel_rfl, ?_⟩⟩
      rintro ⟨i, c1, c2⟩ ⟨hi, hc, hl, hr⟩
      simp only at hi hr
      show rCB _ _ ps.length c1 (vs7 ps) b.length c2 (vp b) (i : Int) _ _ _
      rw [rCB_text]
      have fin : cbGo 0 ps b ≠ (0, 0) → (cbGo 0 ps b).2 ≠ 0 → cbD ps b = [dI (cbGo 0 ps b).1, dI (cbGo 0 ps b).2] := fun _ h2 => by
        rw [cbD, cbP, if_neg (fun x => x hc), if_neg (by omega), if_pos h2]
      refine bc_dec (fun h => ?_) (fun h => ?_)
      · have h1 : i < ps.length := by omega
        have h2 : i < b.length := by omega
        rw [cbGo_at h1 h2] at hr
        simp only [bc_t h, bc_t (show (i : Int) < (ps.length : Int) by omega), bc_t (show (0 : Int) ≤ (i : Int) by omega), Int.toNat_natCast, at7 (vs7_all ps i h1), at2 (vp_two b i h2), eq_self, true_and, and_true]
        refine bc_dec (fun h9 => ?_) (fun h9 => ?_)
        · rw [if_pos h9] at hr
          refine ⟨witE ps[i].f ps[i].g 22 [vI b[i].1, vI b[i].2], ⟨rfl⟩, _, ⟨conFE [9, witE ps[i].f ps[i].g 22 [vI b[i].1, vI b[i].2]] (by simp)⟩, ?_⟩
          rw [fst0_two, if_neg (by decide)]
          refine bc_bne (fun _ => ?_) (fun h' => absurd h' (by decide))
          show _ = _
          rw [fin (by rw [hr]; simp) (by rw [hr]; simp), hr]
        · rw [if_neg h9] at hr
          refine ⟨witE ps[i].f ps[i].g 22 [vI b[i].1, vI b[i].2], ⟨rfl⟩, _, ⟨conFE [0, witE ps[i].f ps[i].g 22 [vI b[i].1, vI b[i].2]] (by simp)⟩, ?_⟩
          rw [fst0_two, if_pos rfl, witE2 (by decide)]
          by_cases hq : (ps[i].f ≤ b[i].1 ∧ b[i].1 ≤ ps[i].g) ∧ (ps[i].f ≤ b[i].2 ∧ b[i].2 ≤ ps[i].g)
          · rw [if_pos hq] at hr ⊢
            refine bc_bne (fun h' => absurd rfl h') (fun _ => ?_)
            refine ⟨(i + 1, c1, c2), ⟨h2, hc, hl, hr⟩, by show b.length - (i + 1) < b.length - i; omega, ?_⟩
            rw [w64 (by omega) (by omega)]; rfl
          · rw [if_neg hq] at hr ⊢
            refine bc_bne (fun _ => ?_) (fun h' => absurd h' (by decide))
            show _ = _
            rw [fin (by rw [hr]; simp) (by rw [hr]; simp), hr]
      · show (if 0 = 0 then _ else _)
        rw [if_pos rfl]
        show nCB _ _ ps.length c1 (vs7 ps) b.length c2 (vp b) _
        rw [nCB_text]
        rw [cbGo_end (by omega)] at hr
        have hok := chE_ok hc
        have hcb := cbGo_ok (i := 0) hl (by rw [hr])
        have hh := ilB_hgt hok.2.2 hl hcb.1
        simp only [bc_t (v7le ps), bc_t (vple b), vs7_whole, vp_whole, eq_self, true_and, and_true]
        exact .inr ⟨_, _, ⟨conBa hok.2.2 hl hh.1 hh.2 hok.1 hn⟩, ⟨(0, c1, c2), ⟨Nat.zero_le _, hc, hl, by rw [hr], rfl⟩, rfl⟩⟩
    · refine ⟨_, st2, inv2, fun x => b.length - x.1, ⟨fun s b h => h, by kernel_rfl, ?_⟩⟩
      rintro ⟨i, c1, c2⟩ ⟨hi, hc, hl, h0, hr⟩
      simp only at hi hr
      show rCB2 _ _ b.length c2 (vp b) ps.length (vp (img ps b)) (i : Int) _ _ _
      rw [rCB2_text]
      refine bc_dec (fun h => ?_) (fun h => ?_)
      · have h1 : i < b.length := by omega
        have h2 : i < (img ps b).length := by rw [img_length]; omega
        rw [pfGo_at h1 h2] at hr
        simp only [bc_t h, bc_t (show (i : Int) < (b.length : Int) by omega), bc_t (show (0 : Int) ≤ (i : Int) by omega), Int.toNat_natCast, at2 (vp_two b i h1), at2 (vp_two (img ps b) i h2), eq_self, true_and, and_true]
        refine ⟨witE b[i].1 b[i].2 19 [vI (img ps b)[i].1, vI (img ps b)[i].2], ⟨rfl⟩, ?_⟩
        rw [witE2 (by decide)]
        by_cases hq : (img ps b)[i].1 < b[i].1 ∨ (img ps b)[i].1 > b[i].2 ∨ (img ps b)[i].2 < b[i].1 ∨ (img ps b)[i].2 > b[i].2
        · rw [if_pos hq] at hr
          rw [if_neg (by omega)]
          refine bc_bne (fun _ => ?_) (fun h' => absurd h' (by decide))
          show _ = _
          rw [cbD, cbP, if_neg (fun x => x hc), if_neg (by omega), if_neg (fun x => x h0), hr]
        · rw [if_neg hq] at hr
          rw [if_pos (by omega)]
          refine bc_bne (fun h' => absurd rfl h') (fun _ => ?_)
          refine ⟨(i + 1, c1, c2), ⟨h1, hc, hl, h0, hr⟩, by show b.length - (i + 1) < b.length - i; omega, ?_⟩
          rw [w64 (by omega) (by omega)]; rfl
      · show (if 2 = 2 then _ else _)
        rw [if_pos rfl]
        show nCB2 _ _ _
        rw [nCB2_text]
        rw [pfGo_end (by omega)] at hr
        show _ = _
        rw [cbD, cbP, if_neg (fun x => x hc), if_neg (by omega), if_neg (fun x => x h0), hr]
end Go.Proofs.G5b

/- Chapter 5: the smallest box that is kept, in data. -/
namespace Go.Proofs.G5b
open Go Go.Abs Go.Proofs Go.Proofs.G5
set_option maxRecDepth 100000
def bfOf : Option Bxs → List D
  | some b => [.sl b.length 2 (vp b), dI 0]
  | none => [.nil, dI 12]
inductive BfR (ps : List Sv) (hs : List Int) : List D → Prop
  | bad (h : (chE ps).2 ≠ 0) : BfR ps hs [.nil, dI (chE ps).2]
  | len (h : (chE ps).2 = 0) (h2 : hs.length ≠ ps.length) : BfR ps hs [.nil, dI 10]
  | start (h : (chE ps).2 = 0) (h2 : hs.length = ps.length) (h3 : stGo ps hs ≠ 0) : BfR ps hs [.nil, dI 22]
  | grow (h : (chE ps).2 = 0) (h2 : hs.length = ps.length) (h3 : stGo ps hs = 0) (r : Option Bxs) (hg : Grow ps (bxOf hs hs) r) : BfR ps hs (bfOf r)
theorem conBF {ps : List Sv} {hs : List Int} {rs : List D} (hR : BfR ps hs rs) (hn : ps.length ≤ 1000) : C5 19 [.agg [.sl ps.length 7 (vs7 ps)], .sl hs.length 1 (vi hs)] rs := by
  let inv0 : Nat × Nat × Nat → Prop := fun x => x.1 ≤ hs.length ∧ (chE ps).2 = 0 ∧ hs.length = ps.length ∧ stGo ps hs = stGo (ps.drop x.1) (hs.drop x.1)
  let st0 : Nat × Nat × Nat → Slots × Blocks := fun x => (sBF ps.length x.2.1 hs.length x.2.2 x.1, [Q501 (vi hs), L500 (vs7 ps)])
  let inv2 : Bxs × Nat → Prop := fun x => (chE ps).2 = 0 ∧ x.1.length = ps.length ∧ ilB ps x.1 = true ∧ ∃ r, Grow ps x.1 r ∧ rs = bfOf r
  let st2 : Bxs × Nat → Slots × Blocks := fun x => (sBF2 ps.length x.2 ps.length, [L500 (vs7 ps), W1000 (vp x.1)])
  refine con_of (L := fun id s b => match id with | 0 => ∃ x, inv0 x ∧ st0 x = (s, b) | _ => ∃ x, inv2 x ∧ st2 x = (s, b)) hokK mixed Try.func19 rfl (by show 2 ≤ 400; omega) rfl (ids := [0, 2]) (by kernel_rfl) rfl (fun caps => ?_) (fun id hid => ?_)
  · show gBF _ _ ps.length (caps 500) (vs7 ps) hs.length (caps 501) (vi hs) _
    rw [gBF_text]
    simp only [bc_t (v7le ps), vs7_whole, true_and]
    refine ⟨_, _, ⟨conC9 ps (by omega)⟩, bc_bne (fun h => ?_) (fun h => ?_)⟩
    · refine ⟨_, ⟨conCS 0 [(hs.length : Int)] (by simp)⟩, _, ⟨conFE [(chE ps).2, sameE 0 [(hs.length : Int)]] (by simp)⟩, ?_⟩
      rw [fst0_two, if_neg h]
      refine bc_bne (fun _ => ?_) (fun h' => absurd h' h)
      show _ = _
      cases hR with
      | bad _ => rfl
      | _ => contradiction
    · refine ⟨_, ⟨conCS (ps.length : Int) [(hs.length : Int)] (by simp)⟩, _, ⟨conFE [0, sameE (ps.length : Int) [(hs.length : Int)]] (by simp)⟩, ?_⟩
      rw [fst0_two, if_pos rfl, sameE1]
      by_cases hl : hs.length ≠ ps.length
      · rw [if_pos (show (hs.length : Int) ≠ (ps.length : Int) by omega)]
        refine bc_bne (fun _ => ?_) (fun h' => absurd h' (by decide))
        show _ = _
        cases hR with
        | bad _ => contradiction
        | len _ _ => rfl
        | start _ _ _ => contradiction
        | grow _ _ _ _ _ => contradiction
      · rw [if_neg (show ¬ ((hs.length : Int) ≠ (ps.length : Int)) by omega)]
        refine bc_bne (fun h' => absurd rfl h') (fun _ => ?_)
        exact ⟨(0, caps 500, caps 501), ⟨Nat.zero_le _, h, by omega, rfl⟩, rfl⟩
  · have hid' : id = 0 ∨ id = 2 := by simpa using hid
    rcases hid' with rfl | rfl
    · refine ⟨_, st0, inv0, fun x => hs.length - x.1, ⟨fun s b h => h, by kernel_rfl, ?_⟩⟩
      rintro ⟨i, c1, c2⟩ ⟨hi, hc, hl, hr⟩
      simp only at hi hr
      show rBF _ _ ps.length c1 (vs7 ps) hs.length c2 (vi hs) (i : Int) _ _ _
      rw [rBF_text]
      refine bc_dec (fun h => ?_) (fun h => ?_)
      · have h1 : i < ps.length := by omega
        have h2 : i < hs.length := by omega
        rw [stGo_at h1 h2] at hr
        simp only [bc_t h, bc_t (show (i : Int) < (ps.length : Int) by omega), bc_t (show (0 : Int) ≤ (i : Int) by omega), Int.toNat_natCast, at7 (vs7_all ps i h1), at1 (vi_at hs i h2), eq_self, true_and, and_true]
        refine ⟨_, wit_rng, ?_⟩
        by_cases hq : ps[i].f ≤ hs[i] ∧ hs[i] ≤ ps[i].g
        · rw [if_pos hq] at hr
          rw [rngE, if_pos hq]
          refine bc_bne (fun h' => absurd rfl h') (fun _ => ?_)
          refine ⟨(i + 1, c1, c2), ⟨h2, hc, hl, hr⟩, by show hs.length - (i + 1) < hs.length - i; omega, ?_⟩
          rw [w64 (by omega) (by omega)]; rfl
        · rw [if_neg hq] at hr
          rw [rngE, if_neg hq]
          refine bc_bne (fun _ => ?_) (fun h' => absurd h' (by decide))
          show _ = _
          cases hR with
          | bad _ => contradiction
          | len _ _ => contradiction
          | start _ _ _ => rfl
          | grow _ _ h3 _ _ => omega
      · show (if 0 = 0 then _ else _)
        rw [if_pos rfl]
        show nBF _ _ ps.length c1 (vs7 ps) hs.length c2 (vi hs) _
        rw [nBF_text]
        rw [stGo_end (by omega)] at hr
        have hok := chE_ok hc
        simp only [bc_t (v1le hs), vi_whole, eq_self, true_and, and_true]
        refine .inr ⟨_, _, ⟨conBo (a := hs) (b := hs) rfl (by omega) (by omega)⟩, ⟨(bxOf hs hs, c1), ⟨hc, by simp [hl], stGo_ok hl hr, ?_⟩, by rw [hl]; rfl⟩⟩
        cases hR with
        | bad _ => contradiction
        | len _ _ => contradiction
        | start _ _ _ => contradiction
        | grow _ _ _ r hg => exact ⟨r, hg, rfl⟩
    · refine ⟨_, st2, inv2, fun x => slack ps x.1, ⟨fun s b h => h, by kernel_rfl, ?_⟩⟩
      rintro ⟨b, c1⟩ ⟨hc, hl, hil, r, hg, hrs⟩
      simp only at hl hil hg
      show rBF2 _ _ ps.length c1 (vs7 ps) ps.length (vp b) _ _ _
      rw [rBF2_text]
      have hok := chE_ok hc
      have hh := ilB_hgt hok.2.2 hl hil
      have a1 := conBa hok.2.2 hl hh.1 hh.2 hok.1 hn
      have a2 := conBb (a := b) (b := img ps b) (by simp [hl]) (by omega) (by omega)
      have a3 := conEq (bth b (img ps b)) b (by simp; omega)
      have a4 := conIL (ps := ps) (b := bth b (img ps b)) (by simp [hl]) hn
      simp only [bth_length, img_length, hl] at a1 a2 a3 a4
      have w1 : List.take (ps.length * 2) (List.drop 0 (vp b)) = vp b := by rw [List.drop_zero, List.take_of_length_le (by simp [hl])]
      have w2 : List.take (ps.length * 2) (List.drop 0 (vp (img ps b))) = vp (img ps b) := by rw [List.drop_zero, List.take_of_length_le (by simp)]
      have w3 : List.take (ps.length * 2) (List.drop 0 (vp (bth b (img ps b)))) = vp (bth b (img ps b)) := by rw [List.drop_zero, List.take_of_length_le (by simp [hl])]
      have l1 : 0 + ps.length * 2 ≤ (vp b).length := by simp [hl]
      have l2 : 0 + ps.length * 2 ≤ (vp (img ps b)).length := by simp
      have l3 : 0 + ps.length * 2 ≤ (vp (bth b (img ps b))).length := by simp [hl]
      simp only [bc_t (v7le ps), bc_t l1, vs7_whole, w1, true_and]
      refine .inr ⟨_, _, ⟨a1⟩, ?_⟩
      simp only [bc_t l2, w2, true_and]
      refine .inr ⟨_, _, ⟨a2⟩, ?_⟩
      simp only [bc_t l3, w3, true_and]
      cases hg with
      | stop h =>
        rw [decide_eq_true h] at a3
        refine .inl ⟨⟨a3⟩, ?_⟩
        subst hrs
        simp [bfOf, hl]
      | out h h2 =>
        rw [decide_eq_false h] at a3
        rw [h2] at a4
        refine .inr ⟨⟨a3⟩, .inr ⟨⟨a4⟩, ?_⟩⟩
        subst hrs
        rfl
      | step h h2 h3 =>
        rw [decide_eq_false h] at a3
        rw [h2] at a4
        refine .inr ⟨⟨a3⟩, .inl ⟨⟨a4⟩, ?_⟩⟩
        exact ⟨(bth b (img ps b), c1), ⟨hc, by rw [bth_length]; exact hl, h2, r, h3, hrs⟩, slack_lt hl (img_length ps b) h2 h, rfl⟩
end Go.Proofs.G5b

/- Chapter 5: the box after a tick by the definition, in data. -/
namespace Go.Proofs.G5b
open Go Go.Abs Go.Proofs Go.Proofs.G5
set_option maxRecDepth 100000
end Go.Proofs.G5b

/- Chapter 5: the smallest box that is kept: it is kept, contains what it grew from, and lies in every other one. -/
namespace Go.Abs
abbrev p0 : Int × Int := (0, 0)
theorem losD (b : Bxs) (i : Nat) : (los b).getD i 0 = (b.getD i p0).1 := by
  simp only [los, List.getD, List.getElem?_map]
  cases b[i]? <;> rfl
theorem hisD (b : Bxs) (i : Nat) : (his b).getD i 0 = (b.getD i p0).2 := by
  simp only [his, List.getD, List.getElem?_map]
  cases b[i]? <;> rfl
theorem dlsD (ps : List Sv) (i : Nat) : (dls ps).getD i 0 = (ps.getD i sv0).d := by
  simp only [dls, List.getD, List.getElem?_map]
  cases ps[i]? <;> rfl
theorem dhsD (ps : List Sv) (i : Nat) : (dhs ps).getD i 0 = (ps.getD i sv0).e := by
  simp only [dhs, List.getD, List.getElem?_map]
  cases ps[i]? <;> rfl
theorem aft_at {ps : List Sv} {hs ds : List Int} {i : Nat} (h : i < ps.length) : (aft ps hs ds).getD i 0 = aftV ps hs ds i := rg_getI h
theorem img_at {ps : List Sv} {b : Bxs} {i : Nat} (h : i < ps.length) : (img ps b).getD i p0 = (aftV ps (los b) (dls ps) i, aftV ps (his b) (dhs ps) i) := by
  unfold img bxOf
  rw [rg_get (by rw [aft_length]; exact h), aft_at h, aft_at h]
theorem bth_at {b c : Bxs} {i : Nat} (h : i < b.length) : (bth b c).getD i p0 = (mnI (b.getD i p0).1 (c.getD i p0).1, mxI (b.getD i p0).2 (c.getD i p0).2) := by
  unfold bth
  rw [rg_get h]
theorem bxOf_at {a c : List Int} {i : Nat} (h : i < a.length) : (bxOf a c).getD i p0 = (a.getD i 0, c.getD i 0) := by
  unfold bxOf
  rw [rg_get h]
theorem aftV_mono {ps : List Sv} {hs ds hs' ds' : List Int} {i : Nat} (hv : ∀ p ∈ ps, LpV p) (hi : i < ps.length) (h1 : ∀ j, j < ps.length → hs.getD j 0 ≤ hs'.getD j 0) (h2 : ds.getD i 0 ≤ ds'.getD i 0) : aftV ps hs ds i ≤ aftV ps hs' ds' i := by
  simp only [aftV, cA, if_neg (show ¬ i = ps.length by omega)]
  have a1 := corr_step (hv _ (gd_mem (d := sv0) hi)) (h1 i hi)
  by_cases he : i + 1 = ps.length
  · simp only [if_pos he]; omega
  · simp only [if_neg he]
    have a2 := corr_mono (hv _ (gd_mem (d := sv0) (show i + 1 < ps.length by omega))) (h1 (i + 1) (by omega))
    omega
def lim1 (ps : List Sv) (b : Bxs) (i : Nat) : Prop := ((ps.getD i sv0).f ≤ (b.getD i p0).1 ∧ (b.getD i p0).1 ≤ (ps.getD i sv0).g) ∧ ((ps.getD i sv0).f ≤ (b.getD i p0).2 ∧ (b.getD i p0).2 ≤ (ps.getD i sv0).g)
theorem ilB_iff : ∀ {ps : List Sv} {b : Bxs}, b.length = ps.length → (ilB ps b = true ↔ ∀ i, i < ps.length → lim1 ps b i)
  | [], [], _ => by simp [ilB]
  | p :: ps, r :: rs, h1 => by
    simp only [List.length_cons, Nat.add_right_cancel_iff] at h1
    have ih := ilB_iff h1
    unfold ilB
    constructor
    · intro h i hi
      split at h
      · rename_i hc
        cases i with
        | zero => exact hc
        | succ i => exact ih.1 h i (by simpa using hi)
      · cases h
    · intro h
      have h0 := h 0 (by simp)
      rw [if_pos (show (p.f ≤ r.1 ∧ r.1 ≤ p.g) ∧ (p.f ≤ r.2 ∧ r.2 ≤ p.g) from h0)]
      exact ih.2 (fun i hi => h (i + 1) (by simpa using hi))
  | [], _ :: _, h1 => by simp at h1
  | _ :: _, [], h1 => by simp at h1
theorem cbGo_zero : ∀ {ps : List Sv} {b : Bxs} {k : Nat}, b.length = ps.length → (∀ i, i < ps.length → (b.getD i p0).1 ≤ (b.getD i p0).2) → ilB ps b = true → cbGo k ps b = (0, 0)
  | [], [], _, _, _, _ => by simp [cbGo]
  | p :: ps, r :: rs, k, h1, h2, h3 => by
    simp only [List.length_cons, Nat.add_right_cancel_iff] at h1
    unfold ilB at h3
    unfold cbGo
    split at h3
    · rename_i hc
      have h0 := h2 0 (by simp)
      rw [if_neg (by simpa using h0), if_pos hc]
      exact cbGo_zero h1 (fun i hi => h2 (i + 1) (by simpa using hi)) h3
    · cases h3
  | [], _ :: _, _, h1, _, _ => by simp at h1
  | _ :: _, [], _, h1, _, _ => by simp at h1
def ins (b c : Bxs) (i : Nat) : Prop := (b.getD i p0).1 ≤ (c.getD i p0).1 ∧ (c.getD i p0).1 ≤ (b.getD i p0).2 ∧ (b.getD i p0).1 ≤ (c.getD i p0).2 ∧ (c.getD i p0).2 ≤ (b.getD i p0).2
theorem pfGo_zero : ∀ {b c : Bxs} {k : Nat}, c.length = b.length → (∀ i, i < b.length → ins b c i) → pfGo k b c = (0, 0)
  | [], [], _, _, _ => by simp [pfGo]
  | r :: rs, o :: os, k, h1, h2 => by
    simp only [List.length_cons, Nat.add_right_cancel_iff] at h1
    unfold pfGo
    have h0 := h2 0 (by simp)
    simp only [ins, List.getD_cons_zero] at h0
    rw [if_neg (by omega)]
    exact pfGo_zero h1 (fun i hi => h2 (i + 1) (by simpa using hi))
  | [], _ :: _, _, h1, _ => by simp at h1
  | _ :: _, [], _, h1, _ => by simp at h1
theorem pfGo_ins : ∀ {b c : Bxs} {k : Nat}, c.length = b.length → (pfGo k b c).2 = 0 → ∀ i, i < b.length → ins b c i
  | [], [], _, _, _, i, hi => by simp at hi
  | r :: rs, o :: os, k, h1, h2, i, hi => by
    simp only [List.length_cons, Nat.add_right_cancel_iff] at h1
    unfold pfGo at h2
    split at h2
    · simp at h2
    · rename_i hn
      cases i with
      | zero => simp only [ins, List.getD_cons_zero]; omega
      | succ i => exact pfGo_ins h1 h2 i (by simpa using hi)
  | [], _ :: _, _, h1, _, _, _ => by simp at h1
  | _ :: _, [], _, h1, _, _, _ => by simp at h1
/-- lower ends do not lie above upper ones -/
def ordB (ps : List Sv) (b : Bxs) : Prop := ∀ i, i < ps.length → (b.getD i p0).1 ≤ (b.getD i p0).2
/-- a box lies in another one -/
def subB (ps : List Sv) (b c : Bxs) : Prop := ∀ i, i < ps.length → (c.getD i p0).1 ≤ (b.getD i p0).1 ∧ (b.getD i p0).2 ≤ (c.getD i p0).2
theorem img_ord {ps : List Sv} {b : Bxs} (hv : ∀ p ∈ ps, LpV p) (h : ordB ps b) : ordB ps (img ps b) := by
  intro i hi
  rw [img_at hi]
  refine aftV_mono hv hi (fun j hj => by rw [losD, hisD]; exact h j hj) ?_
  rw [dlsD, dhsD]
  exact (hv _ (gd_mem (d := sv0) hi)).de
theorem img_sub {ps : List Sv} {b c : Bxs} (hv : ∀ p ∈ ps, LpV p) (h : subB ps b c) : subB ps (img ps b) (img ps c) := by
  intro i hi
  rw [img_at hi, img_at hi]
  exact ⟨aftV_mono hv hi (fun j hj => by rw [losD, losD]; exact (h j hj).1) (by omega), aftV_mono hv hi (fun j hj => by rw [hisD, hisD]; exact (h j hj).2) (by omega)⟩
theorem grow_facts {ps : List Sv} {b : Bxs} {r : Option Bxs} (hg : Grow ps b r) (hl : b.length = ps.length) (hil : ilB ps b = true) (ho : ordB ps b) :
    ∀ b', r = some b' → b'.length = ps.length ∧ ilB ps b' = true ∧ ordB ps b' ∧ subB ps b b' ∧ bth b' (img ps b') = b' := by
  induction hg with
  | stop h =>
    intro b' e
    cases e
    exact ⟨hl, hil, ho, fun i _ => ⟨by omega, by omega⟩, h⟩
  | out _ _ => intro b' e; cases e
  | @step b r h h2 h3 ih =>
    intro b' e
    have hl2 : (bth b (img ps b)).length = ps.length := by rw [bth_length]; exact hl
    have hat : ∀ i, i < ps.length → (bth b (img ps b)).getD i p0 = (mnI (b.getD i p0).1 ((img ps b).getD i p0).1, mxI (b.getD i p0).2 ((img ps b).getD i p0).2) := fun i hi => bth_at (by omega)
    have ho2 : ordB ps (bth b (img ps b)) := by
      intro i hi
      rw [hat i hi]
      have := ho i hi
      have a1 := mnI_le (b.getD i p0).1 ((img ps b).getD i p0).1
      have a2 := mxI_le (b.getD i p0).2 ((img ps b).getD i p0).2
      show mnI _ _ ≤ mxI _ _
      omega
    obtain ⟨q1, q2, q3, q4, q5⟩ := ih hl2 h2 ho2 b' e
    refine ⟨q1, q2, q3, fun i hi => ?_, q5⟩
    have := q4 i hi
    rw [hat i hi] at this
    have a1 := mnI_le (b.getD i p0).1 ((img ps b).getD i p0).1
    have a2 := mxI_le (b.getD i p0).2 ((img ps b).getD i p0).2
    simp only at this
    omega
theorem grow_min {ps : List Sv} {b : Bxs} {r : Option Bxs} {box : Bxs} (hg : Grow ps b r) (hv : ∀ p ∈ ps, LpV p) (hl : b.length = ps.length) (hbl : box.length = ps.length) (hil : ilB ps box = true) (ho : ordB ps b)
    (hacc : subB ps (img ps box) box) (hs : subB ps b box) : ∃ b', r = some b' ∧ subB ps b' box := by
  induction hg with
  | @stop b h => exact ⟨b, rfl, hs⟩
  | @out b h h2 =>
    exfalso
    have hi2 := img_sub hv hs
    have : ilB ps (bth b (img ps b)) = true := by
      rw [ilB_iff (by rw [bth_length]; exact hl)]
      intro i hi
      have q := (ilB_iff hbl).1 hil i hi
      have o1 := ho i hi
      unfold lim1 at q ⊢
      rw [bth_at (by omega)]
      have a1 := mnI_le (b.getD i p0).1 ((img ps b).getD i p0).1
      have a2 := mxI_le (b.getD i p0).2 ((img ps b).getD i p0).2
      have s1 := hs i hi; have s2 := hi2 i hi; have s3 := hacc i hi
      simp only
      omega
    rw [this] at h2; cases h2
  | @step b r h h2 h3 ih =>
    have hi2 := img_sub hv hs
    refine ih (by rw [bth_length]; exact hl) ?_ ?_
    · intro i hi
      rw [bth_at (by omega)]
      have := ho i hi
      have a1 := mnI_le (b.getD i p0).1 ((img ps b).getD i p0).1
      have a2 := mxI_le (b.getD i p0).2 ((img ps b).getD i p0).2
      show mnI _ _ ≤ mxI _ _
      omega
    · intro i hi
      rw [bth_at (by omega)]
      have a1 := mnI_le (b.getD i p0).1 ((img ps b).getD i p0).1
      have a2 := mxI_le (b.getD i p0).2 ((img ps b).getD i p0).2
      have s1 := hs i hi; have s2 := hi2 i hi; have s3 := hacc i hi
      simp only
      omega
theorem bth_fix {ps : List Sv} {b : Bxs} (hl : b.length = ps.length) (h : bth b (img ps b) = b) : subB ps (img ps b) b := by
  intro i hi
  have e := bth_at (b := b) (c := img ps b) (i := i) (by omega)
  rw [h] at e
  have a1 := mnI_le (b.getD i p0).1 ((img ps b).getD i p0).1
  have a2 := mxI_le (b.getD i p0).2 ((img ps b).getD i p0).2
  have e1 := congrArg Prod.fst e
  have e2 := congrArg Prod.snd e
  simp only at e1 e2
  omega
/-- what is kept is accepted -/
theorem cbP_ok {ps : List Sv} {b : Bxs} (hc : (chE ps).2 = 0) (hl : b.length = ps.length) (hil : ilB ps b = true) (ho : ordB ps b) (hf : subB ps (img ps b) b) : cbP ps b = (0, 0) := by
  have hv := (chE_ok hc).2.2
  have hcb : cbGo 0 ps b = (0, 0) := cbGo_zero hl ho hil
  rw [cbP, if_neg (fun x => x hc), if_neg (by omega), hcb, if_neg (fun x => x rfl)]
  refine pfGo_zero (by rw [img_length]; omega) (fun i hi => ?_)
  have h1 := hf i (by omega)
  have h2 := img_ord hv ho i (by omega)
  unfold ins
  omega
/-- what is accepted is kept -/
theorem cbP_acc {ps : List Sv} {b : Bxs} (h : (cbP ps b).2 = 0) : (chE ps).2 = 0 ∧ b.length = ps.length ∧ ilB ps b = true ∧ ordB ps b ∧ subB ps (img ps b) b := by
  unfold cbP at h
  split at h
  · rename_i hc; exact absurd h hc
  · rename_i hc
    split at h
    · simp at h
    · rename_i hl
      have hl : b.length = ps.length := by omega
      split at h
      · rename_i hcb; exact absurd h hcb
      · rename_i hcb
        have hok := cbGo_ok (i := 0) hl (by omega)
        have hin := pfGo_ins (k := 0) (by rw [img_length]; omega) h
        refine ⟨by omega, hl, hok.1, fun i hi => hok.2 _ (gd_mem (by omega)), fun i hi => ?_⟩
        have := hin i (by omega)
        unfold ins at this
        omega
/-- heights in a box that is kept stay in it -/
theorem keep_in {ps : List Sv} {b : Bxs} {hs ds : List Int} (hv : ∀ p ∈ ps, LpV p) (hf : subB ps (img ps b) b) (h1 : ∀ i, i < ps.length → (b.getD i p0).1 ≤ hs.getD i 0 ∧ hs.getD i 0 ≤ (b.getD i p0).2) (h2 : ∀ i, i < ps.length → (ps.getD i sv0).d ≤ ds.getD i 0 ∧ ds.getD i 0 ≤ (ps.getD i sv0).e) :
    ∀ i, i < ps.length → (b.getD i p0).1 ≤ (aft ps hs ds).getD i 0 ∧ (aft ps hs ds).getD i 0 ≤ (b.getD i p0).2 := by
  intro i hi
  rw [aft_at hi]
  have hk := hf i hi
  rw [img_at hi] at hk
  have a1 : aftV ps (los b) (dls ps) i ≤ aftV ps hs ds i := aftV_mono hv hi (fun j hj => by rw [losD]; exact (h1 j hj).1) (by rw [dlsD]; exact (h2 i hi).1)
  have a2 : aftV ps hs ds i ≤ aftV ps (his b) (dhs ps) i := aftV_mono hv hi (fun j hj => by rw [hisD]; exact (h1 j hj).2) (by rw [dhsD]; exact (h2 i hi).2)
  simp only at hk
  omega
end Go.Abs

/- Chapter 5: which boxes are accepted by the definition, in data. -/
namespace Go.Proofs.G5b
open Go Go.Abs Go.Proofs Go.Proofs.G5
set_option maxRecDepth 100000
end Go.Proofs.G5b

/- Chapter 5: small functions of the laws on boxes, in data. -/
namespace Go.Proofs.G5b
open Go Go.Abs Go.Proofs Go.Proofs.G5
set_option maxRecDepth 100000
theorem conCR (l : Bxs) (hl : l.length ≤ 1000000) : C5 18 [.sl l.length 2 (vp l)] [.sl l.length 2 (vp l)] := by
  refine con_flat hokE' mixed Try.func18 rfl (by show 1 ≤ 400; omega) rfl (by kernel_rfl) (fun caps => ?_)
  show gCR _ _ l.length (caps 500) (vp l) _
  rw [gCR_text]
  refine bc_yes (by simp) (bc_beq (fun h0 => ⟨⟨rfl, rfl⟩, ?_⟩) (fun h0 => bc_yes (by omega) (bc_yes (by omega) (bc_yes (by omega) ⟨⟨rfl, by simp⟩, ?_⟩))))
  · obtain rfl : l = [] := List.length_eq_zero_iff.1 h0
    rfl
  · rw [vp_whole, Nat.zero_add, List.nil_append]
theorem conCRn : C5 18 [.nil] [.sl 0 2 []] := by
  refine con_flat hokE' mixed Try.func18 rfl (by show 0 ≤ 400; omega) rfl (by kernel_rfl) (fun caps => ?_)
  show gCRn _ _ _
  rw [gCRn_text]
  exact ⟨⟨rfl, rfl⟩, rfl⟩
theorem conCE (l : List Sv) (hl : l.length < 1000000) : C5 21 [.agg [.sl l.length 7 (vs7 l)]] [dI (chE l).2] := by
  refine con_flat hokB mixed Try.func21 rfl (by show 1 ≤ 400; omega) rfl (by kernel_rfl) (fun caps => ?_)
  show gCE _ _ l.length (caps 500) (vs7 l) _
  rw [gCE_text]
  refine bc_yes (by simp) ?_
  rw [vs7_whole]
  exact ⟨_, _, ⟨conR9 l hl⟩, rfl⟩
theorem conCEn : C5 21 [.agg [.nil]] [dI 10] := by
  refine con_flat hokB mixed Try.func21 rfl (by show 0 ≤ 400; omega) rfl (by kernel_rfl) (fun caps => ?_)
  show gCEn _ _ _
  rw [gCEn_text]
  exact ⟨_, _, ⟨conR9n⟩, rfl⟩
end Go.Proofs.G5b

/- What is left to show of each function, written out; the kernel reckons it. -/
namespace Go.Proofs.G5b
open Go Go.Abs Go.Proofs
set_option maxRecDepth 100000
set_option linter.unusedVariables false
end Go.Proofs.G5b

/- Chapter 5: a box that is made greater place by place. -/
namespace Go.Abs
def nxF (ps : List Sv) (b : Bxs) (i j : Nat) : Int × Int := if j < i then (bth b (img ps b)).getD j p0 else (img ps b).getD j p0
def nx (ps : List Sv) (b : Bxs) (i : Nat) : Bxs := (List.range ps.length).map (nxF ps b i)
@[simp] theorem nx_length (ps : List Sv) (b : Bxs) (i : Nat) : (nx ps b i).length = ps.length := by simp [nx]
theorem bxOf_ord (ps : List Sv) (hs : List Int) : ordB ps (bxOf hs hs) := by
  intro i hi
  by_cases h : i < hs.length
  · rw [bxOf_at h]; show hs.getD i 0 ≤ hs.getD i 0; omega
  · have : (bxOf hs hs).getD i p0 = p0 := by
      simp only [List.getD]
      rw [List.getElem?_eq_none (by simp; omega)]; rfl
    rw [this]; show (0 : Int) ≤ 0; omega
end Go.Abs

/- Chapter 5: the smallest box by the definition, in data. -/
namespace Go.Proofs.G5b
open Go Go.Abs Go.Proofs Go.Proofs.G5
set_option maxRecDepth 100000
end Go.Proofs.G5b

/- What is left to show of each function, written out; the kernel reckons it. -/
namespace Go.Proofs.G5b
open Go Go.Abs Go.Proofs
set_option maxRecDepth 100000
set_option linter.unusedVariables false
end Go.Proofs.G5b

/- GaugeBoxes in data. -/
namespace Go.Proofs.G5b
open Go Go.Abs Go.Proofs Go.Proofs.G5
set_option maxRecDepth 100000
theorem cbP_nil {ps : List Sv} (hc : (chE ps).2 = 0) : cbD ps [] = [dI 0, dI 10] := by
  have := (chE_ok hc).1
  rw [cbD, cbP, if_neg (fun x => x hc), if_pos (by simp only [List.length_nil]; omega)]
end Go.Proofs.G5b

/- What is left to show of each function, written out; the kernel reckons it. -/
namespace Go.Proofs.G5b
open Go Go.Abs Go.Proofs
set_option maxRecDepth 100000
set_option linter.unusedVariables false
def preL (C : Ct) : FuncId → Option Handler := fun g => if [25, 27].contains g then some (saidH Try.prog C) else preK C g
abbrev hL (C : Ct) : Handler := handlerX Try.prog (preL C) 12 6
def gMd2 (C : Ct) (L : AtLoop) (x0 : Int) (x1 : Int) (k : List D → Prop) : Prop := wpFn Try.prog (hE C) L 0 25 #[.int .i64 x0, .int .i64 x1] (heapOf []) (dataK k)
theorem gMd2_text (C : Ct) (L : AtLoop) (x0 : Int) (x1 : Int) (k : List D → Prop) : gMd2 C L x0 x1 k =
 (bcase (x1 != 0)
 (bcase (decide (Int.tmod x0 x1 < 0))
 (k [(D.val (vI (IntKind.wrap .i64 (Int.tmod x0 x1 + x1))))])
 (k [(D.val (vI (Int.tmod x0 x1)))]))
 False) := by kernel_rfl
end Go.Proofs.G5b

/- Chapter 5: a chain with wider limits has the same boxes; disturbances out of numbers. -/
namespace Go.Abs
def wid (p : Sv) : Sv := { p with f := -1000, g := 1000 }
def wds (ps : List Sv) : List Sv := ps.map wid
@[simp] theorem wds_length (ps : List Sv) : (wds ps).length = ps.length := by simp [wds]
theorem stGo_all : ∀ {ps : List Sv} {hs : List Int}, (∀ i, i < ps.length → (ps.getD i sv0).f ≤ hs.getD i 0 ∧ hs.getD i 0 ≤ (ps.getD i sv0).g) → hs.length = ps.length → stGo ps hs = 0
  | [], [], _, _ => by simp [stGo]
  | p :: ps, h :: hs, hh, hl => by
    simp only [List.length_cons, Nat.add_right_cancel_iff] at hl
    unfold stGo
    rw [if_pos (show p.f ≤ h ∧ h ≤ p.g from hh 0 (by simp))]
    exact stGo_all (fun i hi => hh (i + 1) (by simpa using hi)) hl
  | [], _ :: _, _, hl => by simp at hl
  | _ :: _, [], _, hl => by simp at hl
theorem mvGo_all : ∀ {ps : List Sv} {hs ds : List Int}, (∀ i, i < ps.length → (ps.getD i sv0).f ≤ hs.getD i 0 ∧ hs.getD i 0 ≤ (ps.getD i sv0).g) → (∀ i, i < ps.length → (ps.getD i sv0).d ≤ ds.getD i 0 ∧ ds.getD i 0 ≤ (ps.getD i sv0).e) → hs.length = ps.length → ds.length = ps.length → mvGo ps hs ds = 0
  | [], [], [], _, _, _, _ => by simp [mvGo]
  | p :: ps, h :: hs, d :: ds, h1, h2, l1, l2 => by
    simp only [List.length_cons, Nat.add_right_cancel_iff] at l1 l2
    unfold mvGo
    rw [if_pos (show p.f ≤ h ∧ h ≤ p.g from h1 0 (by simp)), if_pos (show p.d ≤ d ∧ d ≤ p.e from h2 0 (by simp))]
    exact mvGo_all (fun i hi => h1 (i + 1) (by simpa using hi)) (fun i hi => h2 (i + 1) (by simpa using hi)) l1 l2
  | [], _ :: _, _, _, _, l1, _ => by simp at l1
  | _ :: _, [], _, _, _, l1, _ => by simp at l1
  | [], [], _ :: _, _, _, _, l2 => by simp at l2
  | _ :: _, _ :: _, [], _, _, _, l2 => by simp at l2
/-- a number out of a range by another number -/
def pick (lo hi x : Int) : Int := lo + x % (hi - lo + 1)
theorem pick_in {lo hi x : Int} (h : lo ≤ hi) : lo ≤ pick lo hi x ∧ pick lo hi x ≤ hi := by
  have h1 := Int.emod_nonneg x (show hi - lo + 1 ≠ 0 by omega)
  have h2 := Int.emod_lt_of_pos x (show 0 < hi - lo + 1 by omega)
  unfold pick; omega
/-- a chain whose first limits are wide -/
def wdF (ps : List Sv) (i j : Nat) : Sv := if j < i then wid (ps.getD j sv0) else ps.getD j sv0
def wdI (ps : List Sv) (i : Nat) : List Sv := (List.range ps.length).map (wdF ps i)
@[simp] theorem wdI_length (ps : List Sv) (i : Nat) : (wdI ps i).length = ps.length := by simp [wdI]
end Go.Abs

/- TopGaugeHeld in data. -/
namespace Go.Proofs.G5b
open Go Go.Abs Go.Proofs Go.Proofs.G5
set_option maxRecDepth 100000
theorem preLOK : PreOK Try.prog (preL C5) := by
  intro g h he args ats H k hk
  unfold preL at he
  split at he
  · obtain rfl := Option.some.inj he
    exact saidH_ok (fun _ _ _ h => h) _ _ _ _ _ hk
  · exact preKOK g h he args ats H k hk
theorem hokL : HandlerOK Try.prog (hL C5) := handlerX_ok mixed preLOK (by decide) 6
theorem emod_t (n d : Int) (hd : 1 ≤ d) : (n.tmod d < 0 → n.tmod d + d = n % d) ∧ (¬ n.tmod d < 0 → n.tmod d = n % d) ∧ -d < n.tmod d ∧ n.tmod d < d := by
  have h := @Int.tmod_eq_emod n d
  have h1 := Int.emod_nonneg n (show d ≠ 0 by omega)
  have h2 := Int.emod_lt_of_pos n (show 0 < d by omega)
  split at h
  · refine ⟨fun _ => by omega, fun _ => by omega, by omega, by omega⟩
  · rename_i hc
    by_cases h0 : n % d = 0
    · exact absurd (Or.inr (Int.dvd_of_emod_eq_zero h0)) hc
    · refine ⟨fun _ => by omega, fun _ => by omega, by omega, by omega⟩
theorem conMo (n d : Int) (hd : 1 ≤ d) (hd2 : d ≤ 1000000) : C5 25 [dI n, dI d] [dI (n % d)] := by
  refine con_flat hokE' mixed Try.func25 rfl (by show 0 ≤ 400; omega) rfl (by kernel_rfl) (fun caps => ?_)
  show gMd2 _ _ n d _
  have := emod_t n d hd
  rw [gMd2_text, bc_n (show d ≠ 0 by omega)]
  refine bc_dec (fun h => ?_) (fun h => ?_)
  · rw [w64 (by omega) (by omega), this.1 h]
  · rw [this.2.1 h]
structure HF (ps : List Sv) (sta xs : List Int) : Prop where
  c : (chE ps).2 = 0
  l : sta.length = ps.length
  x0 : 0 < xs.length
  x1 : xs.length ≤ 60
structure HB (ps : List Sv) (sta : List Int) (b : Bxs) : Prop where
  lim : ∀ i, i < ps.length → (ps.getD i sv0).f ≤ sta.getD i 0 ∧ sta.getD i 0 ≤ (ps.getD i sv0).g
  g : Grow ps (bxOf sta sta) (some b)
  l : b.length = ps.length
  il : ilB ps b = true
  o : ordB ps b
  s : subB ps (bxOf sta sta) b
  k : subB ps (img ps b) b
abbrev inB (ps : List Sv) (b : Bxs) (hs : List Int) : Prop := ∀ i, i < ps.length → (b.getD i p0).1 ≤ hs.getD i 0 ∧ hs.getD i 0 ≤ (b.getD i p0).2
end Go.Proofs.G5b

/- Short names for what stands often in printed texts. -/
namespace Go.Abs
abbrev Pt (b o : Nat) : Value := .pointer (some ⟨b, o, none⟩)
abbrev Sl (b n c : Nat) : Value := .slice (some ⟨b, 0, none⟩) n c
abbrev Qv {α : Type} (x : α) : Prop := x = x
end Go.Abs
