/- Texts of the proof, put together: GbT9, GbPI, GbB2, GbB3, GbB4. -/
import Derived.Test.YtekodcjnlkfipaaP7
import Derived.Test.YtekodcjnlkfipaaP5
import Derived.Test.YtekodcjnlkfipaaGbA
/- What is left to show of each function, written out; the kernel reckons it. -/
namespace Go.Proofs.G5b
open Go Go.Abs Go.Proofs
set_option maxRecDepth 100000
set_option linter.unusedVariables false
abbrev oMv (i m cap2 o cap3 : Nat) : Nat × AObj := (i, .cells [S501 m cap2, S502 o cap3] 27 false 1)
abbrev nilS : Value := .slice none 0 0
abbrev S1001 (n : Nat) : Value := .slice (some ⟨1001, 0, none⟩) n n
abbrev Q1001 (l : List Value) : Nat × AObj := (1001, .sym l true 1)
def sAe (n cap m cap2 : Nat) (out : Value) (i : Int) : Slots := [(0, S500 n cap), (3, P1 1000 0), (5, out), (9, S501 m cap2), (10, vI m), (11, vI i)]
def rAe0 (C : Ct) (L : AtLoop) (n cap : Nat) (l : List Value) (m cap2 : Nat) (l2 : List Value) (o cap3 : Nat) (l3 : List Value) (i : Int) (B : Bx) (X : Xx) (k : List D → Prop) : Prop := wpRound Try.prog (hB C) L 41 0 (sAe n cap m cap2 nilS i) [L500 l, oMv 1000 m cap2 o cap3, Q501 l2, Q502 l3] B X (dataK k)
theorem rAe0_text (C : Ct) (L : AtLoop) (n : Nat) (cap : Nat) (l : List Go.Value) (m : Nat) (cap2 : Nat) (l2 : List Go.Value) (o : Nat) (cap3 : Nat) (l3 : List Go.Value) (i : Int) (B : Bx) (X : Xx) (k : List D → Prop) : rAe0 C L n cap l m cap2 l2 o cap3 l3 i B X k =
 (bcase (decide (i < (↑m : Int)))
 (bcase (decide (0 ≤ i))
 (bcase (decide (i < (↑m : Int)))
 (∃ n1 : Int,
 ((At (l2) (0 + Int.toNat i * 1) 1 [(vI n1)]) ∧
 (bcase (decide (0 ≤ i))
 (bcase (decide (i < (↑o : Int)))
 (∃ n2 : Int,
 ((At (l3) (0 + Int.toNat i * 1) 1 [(vI n2)]) ∧
 (((∃ n3 : Int,
 ((At (l3) (0 + Int.toNat i * 1) 1 [(vI n3)]) ∧
 ((vI n3) = (vI n2)))) ∧
 ((bcase (decide (0 ≤ i))
 (bcase (decide (i < (↑o : Int)))
 ((Go.Value.pointer (Option.some (Go.Addr.mk 502 (0 + Int.toNat i * 1) Option.none))) = (Go.Value.pointer (Option.some (Go.Addr.mk 502 (0 + Int.toNat i * 1) Option.none))))
 False)
 False) ∧
 (((vI i) = (vI i)) ∧
 (((Go.Value.slice (Option.some (Go.Addr.mk 502 0 Option.none)) (o) (cap3)) = (Go.Value.slice (Option.some (Go.Addr.mk 502 0 Option.none)) (o) (cap3))) ∧
 (((Go.Value.pointer (Option.some (Go.Addr.mk 1000 1 Option.none))) = (Go.Value.pointer (Option.some (Go.Addr.mk 1000 1 Option.none)))) ∧
 (((Go.Value.slice (Option.some (Go.Addr.mk 501 0 Option.none)) (m) (cap2)) = (Go.Value.slice (Option.some (Go.Addr.mk 501 0 Option.none)) (m) (cap2))) ∧
 (((Go.Value.pointer (Option.some (Go.Addr.mk 1000 0 Option.none))) = (Go.Value.pointer (Option.some (Go.Addr.mk 1000 0 Option.none)))) ∧
 (((vI (IntKind.wrap .i64 (i + 1))) = (vI (IntKind.wrap .i64 (i + 1)))) ∧
 (((vI i) = (vI i)) ∧
 (((Go.Value.slice (Option.some (Go.Addr.mk 500 0 Option.none)) (n) (cap)) = (Go.Value.slice (Option.some (Go.Addr.mk 500 0 Option.none)) (n) (cap))) ∧
 (((Go.Value.slice (Option.some (Go.Addr.mk 501 0 Option.none)) (m) (cap2)) = (Go.Value.slice (Option.some (Go.Addr.mk 501 0 Option.none)) (m) (cap2))) ∧
 (((Go.Value.pointer (Option.some (Go.Addr.mk 1000 0 Option.none))) = (Go.Value.pointer (Option.some (Go.Addr.mk 1000 0 Option.none)))) ∧
 (((vI i) = (vI i)) ∧
 (((Go.Value.slice (Option.some (Go.Addr.mk 500 0 Option.none)) (n) (cap)) = (Go.Value.slice (Option.some (Go.Addr.mk 500 0 Option.none)) (n) (cap))) ∧
 (((vI n1) = (vI n1)) ∧
 (((Go.Value.slice Option.none 0 0) = (Go.Value.slice Option.none 0 0)) ∧
 True)))))))))))))))) ∧
 (bcase (decide (0 + n * 7 ≤ List.length l))
 (bcase (decide (0 + m * 1 ≤ List.length l2))
 (∃ n3 : Int,
 ((Says C 67 [(D.sl (n) 7 (List.take (n * 7) (List.drop 0 l))), (D.val (vI i)), (D.sl (m) 1 (List.take (m * 1) (List.drop 0 l2)))] [(D.val (vI n3))]) ∧
 ((((vI (IntKind.wrap .i64 (n1 - n3))) = (vI (IntKind.wrap .i64 (n1 - n3)))) ∧
 ((∃ n4 : Int,
 ((At (l3) (0 + Int.toNat i * 1) 1 [(vI n4)]) ∧
 ((vI n4) = (vI n2)))) ∧
 ((bcase (decide (0 ≤ i))
 (bcase (decide (i < (↑o : Int)))
 ((Go.Value.pointer (Option.some (Go.Addr.mk 502 (0 + Int.toNat i * 1) Option.none))) = (Go.Value.pointer (Option.some (Go.Addr.mk 502 (0 + Int.toNat i * 1) Option.none))))
 False)
 False) ∧
 (((vI i) = (vI i)) ∧
 (((Go.Value.slice (Option.some (Go.Addr.mk 502 0 Option.none)) (o) (cap3)) = (Go.Value.slice (Option.some (Go.Addr.mk 502 0 Option.none)) (o) (cap3))) ∧
 (((Go.Value.pointer (Option.some (Go.Addr.mk 1000 1 Option.none))) = (Go.Value.pointer (Option.some (Go.Addr.mk 1000 1 Option.none)))) ∧
 (((Go.Value.slice (Option.some (Go.Addr.mk 501 0 Option.none)) (m) (cap2)) = (Go.Value.slice (Option.some (Go.Addr.mk 501 0 Option.none)) (m) (cap2))) ∧
 (((Go.Value.pointer (Option.some (Go.Addr.mk 1000 0 Option.none))) = (Go.Value.pointer (Option.some (Go.Addr.mk 1000 0 Option.none)))) ∧
 (((vI (IntKind.wrap .i64 (i + 1))) = (vI (IntKind.wrap .i64 (i + 1)))) ∧
 (((vI i) = (vI i)) ∧
 (((Go.Value.slice (Option.some (Go.Addr.mk 500 0 Option.none)) (n) (cap)) = (Go.Value.slice (Option.some (Go.Addr.mk 500 0 Option.none)) (n) (cap))) ∧
 (((Go.Value.pointer (Option.some (Go.Addr.mk 1000 0 Option.none))) = (Go.Value.pointer (Option.some (Go.Addr.mk 1000 0 Option.none)))) ∧
 (((vI n1) = (vI n1)) ∧
 (((Go.Value.slice Option.none 0 0) = (Go.Value.slice Option.none 0 0)) ∧
 True)))))))))))))) ∧
 (bcase (decide (0 + n * 7 ≤ List.length l))
 (bcase (decide (0 + m * 1 ≤ List.length l2))
 (∃ n4 : Int,
 ((Says C 67 [(D.sl (n) 7 (List.take (n * 7) (List.drop 0 l))), (D.val (vI (IntKind.wrap .i64 (i + 1)))), (D.sl (m) 1 (List.take (m * 1) (List.drop 0 l2)))] [(D.val (vI n4))]) ∧
 (((((Go.Value.slice (Option.some (Go.Addr.mk 1001 0 Option.none)) 1 1) = (Go.Value.slice (Option.some (Go.Addr.mk 1001 0 Option.none)) 1 1)) ∧
 ((Option.some (AObj.cells [(vI (IntKind.wrap .i64 (IntKind.wrap .i64 (IntKind.wrap .i64 (n1 - n3) + n4) + n2)))] 3 false 1)) = (Option.some (AObj.cells [(vI (IntKind.wrap .i64 (IntKind.wrap .i64 (IntKind.wrap .i64 (n1 - n3) + n4) + n2)))] 3 false 1)))) ∧
 (((vI (IntKind.wrap .i64 (IntKind.wrap .i64 (IntKind.wrap .i64 (n1 - n3) + n4) + n2))) = (vI (IntKind.wrap .i64 (IntKind.wrap .i64 (IntKind.wrap .i64 (n1 - n3) + n4) + n2)))) ∧
 (((vI (IntKind.wrap .i64 (IntKind.wrap .i64 (n1 - n3) + n4))) = (vI (IntKind.wrap .i64 (IntKind.wrap .i64 (n1 - n3) + n4)))) ∧
 (((vI (IntKind.wrap .i64 (n1 - n3))) = (vI (IntKind.wrap .i64 (n1 - n3)))) ∧
 ((∃ n5 : Int,
 ((At (l3) (0 + Int.toNat i * 1) 1 [(vI n5)]) ∧
 ((vI n5) = (vI n2)))) ∧
 ((bcase (decide (0 ≤ i))
 (bcase (decide (i < (↑o : Int)))
 ((Go.Value.pointer (Option.some (Go.Addr.mk 502 (0 + Int.toNat i * 1) Option.none))) = (Go.Value.pointer (Option.some (Go.Addr.mk 502 (0 + Int.toNat i * 1) Option.none))))
 False)
 False) ∧
 (((vI i) = (vI i)) ∧
 (((Go.Value.slice (Option.some (Go.Addr.mk 502 0 Option.none)) (o) (cap3)) = (Go.Value.slice (Option.some (Go.Addr.mk 502 0 Option.none)) (o) (cap3))) ∧
 (((Go.Value.pointer (Option.some (Go.Addr.mk 1000 1 Option.none))) = (Go.Value.pointer (Option.some (Go.Addr.mk 1000 1 Option.none)))) ∧
 (((Go.Value.pointer (Option.some (Go.Addr.mk 1000 0 Option.none))) = (Go.Value.pointer (Option.some (Go.Addr.mk 1000 0 Option.none)))) ∧
 (((vI i) = (vI i)) ∧
 (((Go.Value.pointer (Option.some (Go.Addr.mk 1000 0 Option.none))) = (Go.Value.pointer (Option.some (Go.Addr.mk 1000 0 Option.none)))) ∧
 (((vI n1) = (vI n1)) ∧
 (((Go.Value.slice Option.none 0 0) = (Go.Value.slice Option.none 0 0)) ∧
 True)))))))))))))) ∧
 ((((vI (IntKind.wrap .i64 (IntKind.wrap .i64 (IntKind.wrap .i64 (n1 - n3) + n4) + n2))) = (vI (IntKind.wrap .i64 (IntKind.wrap .i64 (IntKind.wrap .i64 (n1 - n3) + n4) + n2)))) ∧
 (((vI (IntKind.wrap .i64 (IntKind.wrap .i64 (n1 - n3) + n4))) = (vI (IntKind.wrap .i64 (IntKind.wrap .i64 (n1 - n3) + n4)))) ∧
 (((vI (IntKind.wrap .i64 (n1 - n3))) = (vI (IntKind.wrap .i64 (n1 - n3)))) ∧
 ((∃ n5 : Int,
 ((At (l3) (0 + Int.toNat i * 1) 1 [(vI n5)]) ∧
 ((vI n5) = (vI n2)))) ∧
 ((bcase (decide (0 ≤ i))
 (bcase (decide (i < (↑o : Int)))
 ((Go.Value.pointer (Option.some (Go.Addr.mk 502 (0 + Int.toNat i * 1) Option.none))) = (Go.Value.pointer (Option.some (Go.Addr.mk 502 (0 + Int.toNat i * 1) Option.none))))
 False)
 False) ∧
 (((vI i) = (vI i)) ∧
 (((Go.Value.slice (Option.some (Go.Addr.mk 502 0 Option.none)) (o) (cap3)) = (Go.Value.slice (Option.some (Go.Addr.mk 502 0 Option.none)) (o) (cap3))) ∧
 (((Go.Value.pointer (Option.some (Go.Addr.mk 1000 1 Option.none))) = (Go.Value.pointer (Option.some (Go.Addr.mk 1000 1 Option.none)))) ∧
 (((Go.Value.pointer (Option.some (Go.Addr.mk 1000 0 Option.none))) = (Go.Value.pointer (Option.some (Go.Addr.mk 1000 0 Option.none)))) ∧
 (((vI i) = (vI i)) ∧
 (((Go.Value.pointer (Option.some (Go.Addr.mk 1000 0 Option.none))) = (Go.Value.pointer (Option.some (Go.Addr.mk 1000 0 Option.none)))) ∧
 (((vI n1) = (vI n1)) ∧
 True)))))))))))) ∧
 (True ∧
 (B [(Prod.mk 0 (Go.Value.slice (Option.some (Go.Addr.mk 500 0 Option.none)) (n) (cap))), (Prod.mk 3 (Go.Value.pointer (Option.some (Go.Addr.mk 1000 0 Option.none)))), (Prod.mk 5 (Go.Value.slice (Option.some (Go.Addr.mk 1001 0 Option.none)) 1 1)), (Prod.mk 9 (Go.Value.slice (Option.some (Go.Addr.mk 501 0 Option.none)) (m) (cap2))), (Prod.mk 10 (vI ((↑m : Int)))), (Prod.mk 11 (vI (IntKind.wrap .i64 (i + 1))))] [(Prod.mk 500 (AObj.sym (l) false 7)), (Prod.mk 1000 (AObj.cells [(Go.Value.slice (Option.some (Go.Addr.mk 501 0 Option.none)) (m) (cap2)), (Go.Value.slice (Option.some (Go.Addr.mk 502 0 Option.none)) (o) (cap3))] 27 false 1)), (Prod.mk 1001 (AObj.sym [(vI (IntKind.wrap .i64 (IntKind.wrap .i64 (IntKind.wrap .i64 (n1 - n3) + n4) + n2)))] true 1)), (Prod.mk 501 (AObj.sym (l2) false 1)), (Prod.mk 502 (AObj.sym (l3) false 1))]))))))
 False)
 False))))
 False)
 False))))
 False)
 False)))
 False)
 False)
 (X 0 [(Prod.mk 5 (Go.Value.slice Option.none 0 0))] [])) := by kernel_rfl
def rAe1 (C : Ct) (L : AtLoop) (n cap : Nat) (l : List Value) (m cap2 : Nat) (l2 : List Value) (o cap3 : Nat) (l3 : List Value) (j : Nat) (r : List Value) (i : Int) (B : Bx) (X : Xx) (k : List D → Prop) : Prop := wpRound Try.prog (hB C) L 41 0 (sAe n cap m cap2 (S1001 j) i) [L500 l, oMv 1000 m cap2 o cap3, Q1001 r, Q501 l2, Q502 l3] B X (dataK k)
theorem rAe1_text (C : Ct) (L : AtLoop) (n : Nat) (cap : Nat) (l : List Go.Value) (m : Nat) (cap2 : Nat) (l2 : List Go.Value) (o : Nat) (cap3 : Nat) (l3 : List Go.Value) (j : Nat) (r : List Go.Value) (i : Int) (B : Bx) (X : Xx) (k : List D → Prop) : rAe1 C L n cap l m cap2 l2 o cap3 l3 j r i B X k =
 (bcase (decide (i < (↑m : Int)))
 (bcase (decide (0 ≤ i))
 (bcase (decide (i < (↑m : Int)))
 (∃ n1 : Int,
 ((At (l2) (0 + Int.toNat i * 1) 1 [(vI n1)]) ∧
 (bcase (decide (0 ≤ i))
 (bcase (decide (i < (↑o : Int)))
 (∃ n2 : Int,
 ((At (l3) (0 + Int.toNat i * 1) 1 [(vI n2)]) ∧
 (((∃ n3 : Int,
 ((At (l3) (0 + Int.toNat i * 1) 1 [(vI n3)]) ∧
 ((vI n3) = (vI n2)))) ∧
 ((bcase (decide (0 ≤ i))
 (bcase (decide (i < (↑o : Int)))
 ((Go.Value.pointer (Option.some (Go.Addr.mk 502 (0 + Int.toNat i * 1) Option.none))) = (Go.Value.pointer (Option.some (Go.Addr.mk 502 (0 + Int.toNat i * 1) Option.none))))
 False)
 False) ∧
 (((vI i) = (vI i)) ∧
 (((Go.Value.slice (Option.some (Go.Addr.mk 502 0 Option.none)) (o) (cap3)) = (Go.Value.slice (Option.some (Go.Addr.mk 502 0 Option.none)) (o) (cap3))) ∧
 (((Go.Value.pointer (Option.some (Go.Addr.mk 1000 1 Option.none))) = (Go.Value.pointer (Option.some (Go.Addr.mk 1000 1 Option.none)))) ∧
 (((Go.Value.slice (Option.some (Go.Addr.mk 501 0 Option.none)) (m) (cap2)) = (Go.Value.slice (Option.some (Go.Addr.mk 501 0 Option.none)) (m) (cap2))) ∧
 (((Go.Value.pointer (Option.some (Go.Addr.mk 1000 0 Option.none))) = (Go.Value.pointer (Option.some (Go.Addr.mk 1000 0 Option.none)))) ∧
 (((vI (IntKind.wrap .i64 (i + 1))) = (vI (IntKind.wrap .i64 (i + 1)))) ∧
 (((vI i) = (vI i)) ∧
 (((Go.Value.slice (Option.some (Go.Addr.mk 500 0 Option.none)) (n) (cap)) = (Go.Value.slice (Option.some (Go.Addr.mk 500 0 Option.none)) (n) (cap))) ∧
 (((Go.Value.slice (Option.some (Go.Addr.mk 501 0 Option.none)) (m) (cap2)) = (Go.Value.slice (Option.some (Go.Addr.mk 501 0 Option.none)) (m) (cap2))) ∧
 (((Go.Value.pointer (Option.some (Go.Addr.mk 1000 0 Option.none))) = (Go.Value.pointer (Option.some (Go.Addr.mk 1000 0 Option.none)))) ∧
 (((vI i) = (vI i)) ∧
 (((Go.Value.slice (Option.some (Go.Addr.mk 500 0 Option.none)) (n) (cap)) = (Go.Value.slice (Option.some (Go.Addr.mk 500 0 Option.none)) (n) (cap))) ∧
 (((vI n1) = (vI n1)) ∧
 (((Go.Value.slice (Option.some (Go.Addr.mk 1001 0 Option.none)) (j) (j)) = (Go.Value.slice (Option.some (Go.Addr.mk 1001 0 Option.none)) (j) (j))) ∧
 True)))))))))))))))) ∧
 (bcase (decide (0 + n * 7 ≤ List.length l))
 (bcase (decide (0 + m * 1 ≤ List.length l2))
 (∃ n3 : Int,
 ((Says C 67 [(D.sl (n) 7 (List.take (n * 7) (List.drop 0 l))), (D.val (vI i)), (D.sl (m) 1 (List.take (m * 1) (List.drop 0 l2)))] [(D.val (vI n3))]) ∧
 ((((vI (IntKind.wrap .i64 (n1 - n3))) = (vI (IntKind.wrap .i64 (n1 - n3)))) ∧
 ((∃ n4 : Int,
 ((At (l3) (0 + Int.toNat i * 1) 1 [(vI n4)]) ∧
 ((vI n4) = (vI n2)))) ∧
 ((bcase (decide (0 ≤ i))
 (bcase (decide (i < (↑o : Int)))
 ((Go.Value.pointer (Option.some (Go.Addr.mk 502 (0 + Int.toNat i * 1) Option.none))) = (Go.Value.pointer (Option.some (Go.Addr.mk 502 (0 + Int.toNat i * 1) Option.none))))
 False)
 False) ∧
 (((vI i) = (vI i)) ∧
 (((Go.Value.slice (Option.some (Go.Addr.mk 502 0 Option.none)) (o) (cap3)) = (Go.Value.slice (Option.some (Go.Addr.mk 502 0 Option.none)) (o) (cap3))) ∧
 (((Go.Value.pointer (Option.some (Go.Addr.mk 1000 1 Option.none))) = (Go.Value.pointer (Option.some (Go.Addr.mk 1000 1 Option.none)))) ∧
 (((Go.Value.slice (Option.some (Go.Addr.mk 501 0 Option.none)) (m) (cap2)) = (Go.Value.slice (Option.some (Go.Addr.mk 501 0 Option.none)) (m) (cap2))) ∧
 (((Go.Value.pointer (Option.some (Go.Addr.mk 1000 0 Option.none))) = (Go.Value.pointer (Option.some (Go.Addr.mk 1000 0 Option.none)))) ∧
 (((vI (IntKind.wrap .i64 (i + 1))) = (vI (IntKind.wrap .i64 (i + 1)))) ∧
 (((vI i) = (vI i)) ∧
 (((Go.Value.slice (Option.some (Go.Addr.mk 500 0 Option.none)) (n) (cap)) = (Go.Value.slice (Option.some (Go.Addr.mk 500 0 Option.none)) (n) (cap))) ∧
 (((Go.Value.pointer (Option.some (Go.Addr.mk 1000 0 Option.none))) = (Go.Value.pointer (Option.some (Go.Addr.mk 1000 0 Option.none)))) ∧
 (((vI n1) = (vI n1)) ∧
 (((Go.Value.slice (Option.some (Go.Addr.mk 1001 0 Option.none)) (j) (j)) = (Go.Value.slice (Option.some (Go.Addr.mk 1001 0 Option.none)) (j) (j))) ∧
 True)))))))))))))) ∧
 (bcase (decide (0 + n * 7 ≤ List.length l))
 (bcase (decide (0 + m * 1 ≤ List.length l2))
 (∃ n4 : Int,
 ((Says C 67 [(D.sl (n) 7 (List.take (n * 7) (List.drop 0 l))), (D.val (vI (IntKind.wrap .i64 (i + 1)))), (D.sl (m) 1 (List.take (m * 1) (List.drop 0 l2)))] [(D.val (vI n4))]) ∧
 (((((Go.Value.slice (Option.some (Go.Addr.mk 1002 0 Option.none)) 1 1) = (Go.Value.slice (Option.some (Go.Addr.mk 1002 0 Option.none)) 1 1)) ∧
 ((Option.some (AObj.cells [(vI (IntKind.wrap .i64 (IntKind.wrap .i64 (IntKind.wrap .i64 (n1 - n3) + n4) + n2)))] 3 false 1)) = (Option.some (AObj.cells [(vI (IntKind.wrap .i64 (IntKind.wrap .i64 (IntKind.wrap .i64 (n1 - n3) + n4) + n2)))] 3 false 1)))) ∧
 (((vI (IntKind.wrap .i64 (IntKind.wrap .i64 (IntKind.wrap .i64 (n1 - n3) + n4) + n2))) = (vI (IntKind.wrap .i64 (IntKind.wrap .i64 (IntKind.wrap .i64 (n1 - n3) + n4) + n2)))) ∧
 (((vI (IntKind.wrap .i64 (IntKind.wrap .i64 (n1 - n3) + n4))) = (vI (IntKind.wrap .i64 (IntKind.wrap .i64 (n1 - n3) + n4)))) ∧
 (((vI (IntKind.wrap .i64 (n1 - n3))) = (vI (IntKind.wrap .i64 (n1 - n3)))) ∧
 ((∃ n5 : Int,
 ((At (l3) (0 + Int.toNat i * 1) 1 [(vI n5)]) ∧
 ((vI n5) = (vI n2)))) ∧
 ((bcase (decide (0 ≤ i))
 (bcase (decide (i < (↑o : Int)))
 ((Go.Value.pointer (Option.some (Go.Addr.mk 502 (0 + Int.toNat i * 1) Option.none))) = (Go.Value.pointer (Option.some (Go.Addr.mk 502 (0 + Int.toNat i * 1) Option.none))))
 False)
 False) ∧
 (((vI i) = (vI i)) ∧
 (((Go.Value.slice (Option.some (Go.Addr.mk 502 0 Option.none)) (o) (cap3)) = (Go.Value.slice (Option.some (Go.Addr.mk 502 0 Option.none)) (o) (cap3))) ∧
 (((Go.Value.pointer (Option.some (Go.Addr.mk 1000 1 Option.none))) = (Go.Value.pointer (Option.some (Go.Addr.mk 1000 1 Option.none)))) ∧
 (((Go.Value.pointer (Option.some (Go.Addr.mk 1000 0 Option.none))) = (Go.Value.pointer (Option.some (Go.Addr.mk 1000 0 Option.none)))) ∧
 (((vI i) = (vI i)) ∧
 (((Go.Value.pointer (Option.some (Go.Addr.mk 1000 0 Option.none))) = (Go.Value.pointer (Option.some (Go.Addr.mk 1000 0 Option.none)))) ∧
 (((vI n1) = (vI n1)) ∧
 (((Go.Value.slice (Option.some (Go.Addr.mk 1001 0 Option.none)) (j) (j)) = (Go.Value.slice (Option.some (Go.Addr.mk 1001 0 Option.none)) (j) (j))) ∧
 True)))))))))))))) ∧
 (bcase (decide (j < j + 1))
 (bcase (decide ((2 * (j + 1) + 768) * 8 ≤ 281474976710656))
 (bcase (decide (j + 1 ≤ 1099511627776))
 (bcase (decide (0 + j * 1 ≤ List.length r))
 (bcase (decide (0 + j * 1 = List.length r))
 ((((vI (IntKind.wrap .i64 (IntKind.wrap .i64 (IntKind.wrap .i64 (n1 - n3) + n4) + n2))) = (vI (IntKind.wrap .i64 (IntKind.wrap .i64 (IntKind.wrap .i64 (n1 - n3) + n4) + n2)))) ∧
 (((vI (IntKind.wrap .i64 (IntKind.wrap .i64 (n1 - n3) + n4))) = (vI (IntKind.wrap .i64 (IntKind.wrap .i64 (n1 - n3) + n4)))) ∧
 (((vI (IntKind.wrap .i64 (n1 - n3))) = (vI (IntKind.wrap .i64 (n1 - n3)))) ∧
 ((∃ n5 : Int,
 ((At (l3) (0 + Int.toNat i * 1) 1 [(vI n5)]) ∧
 ((vI n5) = (vI n2)))) ∧
 ((bcase (decide (0 ≤ i))
 (bcase (decide (i < (↑o : Int)))
 ((Go.Value.pointer (Option.some (Go.Addr.mk 502 (0 + Int.toNat i * 1) Option.none))) = (Go.Value.pointer (Option.some (Go.Addr.mk 502 (0 + Int.toNat i * 1) Option.none))))
 False)
 False) ∧
 (((vI i) = (vI i)) ∧
 (((Go.Value.slice (Option.some (Go.Addr.mk 502 0 Option.none)) (o) (cap3)) = (Go.Value.slice (Option.some (Go.Addr.mk 502 0 Option.none)) (o) (cap3))) ∧
 (((Go.Value.pointer (Option.some (Go.Addr.mk 1000 1 Option.none))) = (Go.Value.pointer (Option.some (Go.Addr.mk 1000 1 Option.none)))) ∧
 (((Go.Value.pointer (Option.some (Go.Addr.mk 1000 0 Option.none))) = (Go.Value.pointer (Option.some (Go.Addr.mk 1000 0 Option.none)))) ∧
 (((vI i) = (vI i)) ∧
 (((Go.Value.pointer (Option.some (Go.Addr.mk 1000 0 Option.none))) = (Go.Value.pointer (Option.some (Go.Addr.mk 1000 0 Option.none)))) ∧
 (((vI n1) = (vI n1)) ∧
 True)))))))))))) ∧
 (True ∧
 (B [(Prod.mk 0 (Go.Value.slice (Option.some (Go.Addr.mk 500 0 Option.none)) (n) (cap))), (Prod.mk 3 (Go.Value.pointer (Option.some (Go.Addr.mk 1000 0 Option.none)))), (Prod.mk 5 (Go.Value.slice (Option.some (Go.Addr.mk 1001 0 Option.none)) (j + 1) (j + 1))), (Prod.mk 9 (Go.Value.slice (Option.some (Go.Addr.mk 501 0 Option.none)) (m) (cap2))), (Prod.mk 10 (vI ((↑m : Int)))), (Prod.mk 11 (vI (IntKind.wrap .i64 (i + 1))))] [(Prod.mk 500 (AObj.sym (l) false 7)), (Prod.mk 1000 (AObj.cells [(Go.Value.slice (Option.some (Go.Addr.mk 501 0 Option.none)) (m) (cap2)), (Go.Value.slice (Option.some (Go.Addr.mk 502 0 Option.none)) (o) (cap3))] 27 false 1)), (Prod.mk 1001 (AObj.sym ((List.take (j * 1) (List.drop 0 r)) ++ [(vI (IntKind.wrap .i64 (IntKind.wrap .i64 (IntKind.wrap .i64 (n1 - n3) + n4) + n2)))]) true 1)), (Prod.mk 501 (AObj.sym (l2) false 1)), (Prod.mk 502 (AObj.sym (l3) false 1))])))
 False)
 False)
 False)
 False)
 False))))
 False)
 False))))
 False)
 False))))
 False)
 False)))
 False)
 False)
 (X 0 [(Prod.mk 5 (Go.Value.slice (Option.some (Go.Addr.mk 1000 0 Option.none)) (j) (j)))] [(Prod.mk 1000 (AObj.sym (r) true 1))])) := by kernel_rfl
def nAe1 (C : Ct) (L : AtLoop) (j : Nat) (r : List Value) (k : List D → Prop) : Prop := wpNext Try.prog (hB C) L 41 0 .normal [(5, .slice (some ⟨1000, 0, none⟩) j j)] [(1000, .sym r true 1)] (dataK k)
theorem nAe1_text (C : Ct) (L : AtLoop) (j : Nat) (r : List Go.Value) (k : List D → Prop) : nAe1 C L j r k =
 ((((j) = (j)) ∧
 ((List.length r) = (j * 1))) ∧
 (k [(D.sl (j) 1 (r))])) := by kernel_rfl
def sAf (m cap2 o cap3 : Nat) (out : Value) (i : Int) : Slots := [(1, S501 m cap2), (2, S502 o cap3), (3, P1 1000 0), (7, out), (8, vI i)]
def rAf0 (C : Ct) (L : AtLoop) (n cap : Nat) (l : List Value) (m cap2 : Nat) (l2 : List Value) (o cap3 : Nat) (l3 : List Value) (i : Int) (B : Bx) (X : Xx) (k : List D → Prop) : Prop := wpRound Try.prog (hB C) L 16 0 (sAf m cap2 o cap3 nilS i) [Q501 l2, Q502 l3, oCh 1000 n cap, L500 l] B X (dataK k)
theorem rAf0_text (C : Ct) (L : AtLoop) (n : Nat) (cap : Nat) (l : List Go.Value) (m : Nat) (cap2 : Nat) (l2 : List Go.Value) (o : Nat) (cap3 : Nat) (l3 : List Go.Value) (i : Int) (B : Bx) (X : Xx) (k : List D → Prop) : rAf0 C L n cap l m cap2 l2 o cap3 l3 i B X k =
 (bcase (decide (i < (↑n : Int)))
 (bcase (decide (0 ≤ i))
 (bcase (decide (i < (↑m : Int)))
 (∃ n1 : Int,
 ((At (l2) (0 + Int.toNat i * 1) 1 [(vI n1)]) ∧
 (bcase (decide (0 ≤ i))
 (bcase (decide (i < (↑n : Int)))
 (∃ n2 : Int,
 (∃ n3 : Int,
 (∃ n4 : Int,
 (∃ n5 : Int,
 (∃ n6 : Int,
 (∃ n7 : Int,
 (∃ n8 : Int,
 ((At (l) (0 + Int.toNat i * 7) 7 [(vI n2), (vI n3), (vI n4), (vI n5), (vI n6), (vI n7), (vI n8)]) ∧
 (bcase (decide (0 ≤ i))
 (bcase (decide (i < (↑m : Int)))
 (∃ n9 : Int,
 ((At (l2) (0 + Int.toNat i * 1) 1 [(vI n9)]) ∧
 (bcase (decide (0 ≤ i))
 (bcase (decide (i < (↑o : Int)))
 (∃ n10 : Int,
 ((At (l3) (0 + Int.toNat i * 1) 1 [(vI n10)]) ∧
 (((∃ n11 : Int,
 ((At (l3) (0 + Int.toNat i * 1) 1 [(vI n11)]) ∧
 ((vI n11) = (vI n10)))) ∧
 ((bcase (decide (0 ≤ i))
 (bcase (decide (i < (↑o : Int)))
 ((Go.Value.pointer (Option.some (Go.Addr.mk 502 (0 + Int.toNat i * 1) Option.none))) = (Go.Value.pointer (Option.some (Go.Addr.mk 502 (0 + Int.toNat i * 1) Option.none))))
 False)
 False) ∧
 (((vI i) = (vI i)) ∧
 (((Go.Value.slice (Option.some (Go.Addr.mk 502 0 Option.none)) (o) (cap3)) = (Go.Value.slice (Option.some (Go.Addr.mk 502 0 Option.none)) (o) (cap3))) ∧
 ((∃ n11 : Int,
 ((At (l2) (0 + Int.toNat i * 1) 1 [(vI n11)]) ∧
 ((vI n11) = (vI n9)))) ∧
 ((bcase (decide (0 ≤ i))
 (bcase (decide (i < (↑m : Int)))
 ((Go.Value.pointer (Option.some (Go.Addr.mk 501 (0 + Int.toNat i * 1) Option.none))) = (Go.Value.pointer (Option.some (Go.Addr.mk 501 (0 + Int.toNat i * 1) Option.none))))
 False)
 False) ∧
 (((vI i) = (vI i)) ∧
 (((Go.Value.slice (Option.some (Go.Addr.mk 501 0 Option.none)) (m) (cap2)) = (Go.Value.slice (Option.some (Go.Addr.mk 501 0 Option.none)) (m) (cap2))) ∧
 ((∃ n11 : Int,
 (∃ n12 : Int,
 (∃ n13 : Int,
 (∃ n14 : Int,
 (∃ n15 : Int,
 (∃ n16 : Int,
 (∃ n17 : Int,
 ((At (l) (0 + Int.toNat i * 7) 7 [(vI n11), (vI n12), (vI n13), (vI n14), (vI n15), (vI n16), (vI n17)]) ∧
 ((Go.Value.agg [(vI n11), (vI n12), (vI n13), (vI n14), (vI n15), (vI n16), (vI n17)].toArray) = (Go.Value.agg [(vI n2), (vI n3), (vI n4), (vI n5), (vI n6), (vI n7), (vI n8)].toArray)))))))))) ∧
 ((bcase (decide (0 ≤ i))
 (bcase (decide (i < (↑n : Int)))
 ((Go.Value.pointer (Option.some (Go.Addr.mk 500 (0 + Int.toNat i * 7) Option.none))) = (Go.Value.pointer (Option.some (Go.Addr.mk 500 (0 + Int.toNat i * 7) Option.none))))
 False)
 False) ∧
 (((vI i) = (vI i)) ∧
 (((Go.Value.slice (Option.some (Go.Addr.mk 500 0 Option.none)) (n) (cap)) = (Go.Value.slice (Option.some (Go.Addr.mk 500 0 Option.none)) (n) (cap))) ∧
 (((Go.Value.pointer (Option.some (Go.Addr.mk 1000 0 Option.none))) = (Go.Value.pointer (Option.some (Go.Addr.mk 1000 0 Option.none)))) ∧
 ((∃ n11 : Int,
 ((At (l2) (0 + Int.toNat i * 1) 1 [(vI n11)]) ∧
 ((vI n11) = (vI n1)))) ∧
 ((bcase (decide (0 ≤ i))
 (bcase (decide (i < (↑m : Int)))
 ((Go.Value.pointer (Option.some (Go.Addr.mk 501 (0 + Int.toNat i * 1) Option.none))) = (Go.Value.pointer (Option.some (Go.Addr.mk 501 (0 + Int.toNat i * 1) Option.none))))
 False)
 False) ∧
 (((vI i) = (vI i)) ∧
 (((Go.Value.slice (Option.some (Go.Addr.mk 501 0 Option.none)) (m) (cap2)) = (Go.Value.slice (Option.some (Go.Addr.mk 501 0 Option.none)) (m) (cap2))) ∧
 True))))))))))))))))) ∧
 (∃ n11 : Int,
 ((Says C 43 [(D.agg [(D.val (vI n2)), (D.val (vI n3)), (D.val (vI n4)), (D.val (vI n5)), (D.val (vI n6)), (D.val (vI n7)), (D.val (vI n8))]), (D.val (vI n9))] [(D.val (vI n11))]) ∧
 ((((vI (IntKind.wrap .i64 (IntKind.wrap .i64 (n1 - n11) + n10))) = (vI (IntKind.wrap .i64 (IntKind.wrap .i64 (n1 - n11) + n10)))) ∧
 (((vI (IntKind.wrap .i64 (n1 - n11))) = (vI (IntKind.wrap .i64 (n1 - n11)))) ∧
 ((∃ n12 : Int,
 ((At (l3) (0 + Int.toNat i * 1) 1 [(vI n12)]) ∧
 ((vI n12) = (vI n10)))) ∧
 ((bcase (decide (0 ≤ i))
 (bcase (decide (i < (↑o : Int)))
 ((Go.Value.pointer (Option.some (Go.Addr.mk 502 (0 + Int.toNat i * 1) Option.none))) = (Go.Value.pointer (Option.some (Go.Addr.mk 502 (0 + Int.toNat i * 1) Option.none))))
 False)
 False) ∧
 (((vI i) = (vI i)) ∧
 (((Go.Value.slice (Option.some (Go.Addr.mk 502 0 Option.none)) (o) (cap3)) = (Go.Value.slice (Option.some (Go.Addr.mk 502 0 Option.none)) (o) (cap3))) ∧
 ((bcase (decide (0 ≤ i))
 (bcase (decide (i < (↑m : Int)))
 ((Go.Value.pointer (Option.some (Go.Addr.mk 501 (0 + Int.toNat i * 1) Option.none))) = (Go.Value.pointer (Option.some (Go.Addr.mk 501 (0 + Int.toNat i * 1) Option.none))))
 False)
 False) ∧
 (((vI i) = (vI i)) ∧
 (((Go.Value.slice (Option.some (Go.Addr.mk 501 0 Option.none)) (m) (cap2)) = (Go.Value.slice (Option.some (Go.Addr.mk 501 0 Option.none)) (m) (cap2))) ∧
 ((bcase (decide (0 ≤ i))
 (bcase (decide (i < (↑n : Int)))
 ((Go.Value.pointer (Option.some (Go.Addr.mk 500 (0 + Int.toNat i * 7) Option.none))) = (Go.Value.pointer (Option.some (Go.Addr.mk 500 (0 + Int.toNat i * 7) Option.none))))
 False)
 False) ∧
 (((vI i) = (vI i)) ∧
 (((Go.Value.slice (Option.some (Go.Addr.mk 500 0 Option.none)) (n) (cap)) = (Go.Value.slice (Option.some (Go.Addr.mk 500 0 Option.none)) (n) (cap))) ∧
 (((Go.Value.pointer (Option.some (Go.Addr.mk 1000 0 Option.none))) = (Go.Value.pointer (Option.some (Go.Addr.mk 1000 0 Option.none)))) ∧
 ((∃ n12 : Int,
 ((At (l2) (0 + Int.toNat i * 1) 1 [(vI n12)]) ∧
 ((vI n12) = (vI n1)))) ∧
 ((bcase (decide (0 ≤ i))
 (bcase (decide (i < (↑m : Int)))
 ((Go.Value.pointer (Option.some (Go.Addr.mk 501 (0 + Int.toNat i * 1) Option.none))) = (Go.Value.pointer (Option.some (Go.Addr.mk 501 (0 + Int.toNat i * 1) Option.none))))
 False)
 False) ∧
 (((vI i) = (vI i)) ∧
 (((Go.Value.slice (Option.some (Go.Addr.mk 501 0 Option.none)) (m) (cap2)) = (Go.Value.slice (Option.some (Go.Addr.mk 501 0 Option.none)) (m) (cap2))) ∧
 True))))))))))))))))) ∧
 (True ∧
 (bcase (decide (IntKind.wrap .i64 (i + 1) < (↑n : Int)))
 (bcase (decide (0 ≤ IntKind.wrap .i64 (i + 1)))
 (bcase (decide (IntKind.wrap .i64 (i + 1) < (↑n : Int)))
 (∃ n12 : Int,
 (∃ n13 : Int,
 (∃ n14 : Int,
 (∃ n15 : Int,
 (∃ n16 : Int,
 (∃ n17 : Int,
 (∃ n18 : Int,
 ((At (l) (0 + Int.toNat (IntKind.wrap .i64 (i + 1)) * 7) 7 [(vI n12), (vI n13), (vI n14), (vI n15), (vI n16), (vI n17), (vI n18)]) ∧
 (bcase (decide (0 ≤ IntKind.wrap .i64 (i + 1)))
 (bcase (decide (IntKind.wrap .i64 (i + 1) < (↑m : Int)))
 (∃ n19 : Int,
 ((At (l2) (0 + Int.toNat (IntKind.wrap .i64 (i + 1)) * 1) 1 [(vI n19)]) ∧
 (((∃ n20 : Int,
 ((At (l2) (0 + Int.toNat (IntKind.wrap .i64 (i + 1)) * 1) 1 [(vI n20)]) ∧
 ((vI n20) = (vI n19)))) ∧
 ((bcase (decide (0 ≤ IntKind.wrap .i64 (i + 1)))
 (bcase (decide (IntKind.wrap .i64 (i + 1) < (↑m : Int)))
 ((Go.Value.pointer (Option.some (Go.Addr.mk 501 (0 + Int.toNat (IntKind.wrap .i64 (i + 1)) * 1) Option.none))) = (Go.Value.pointer (Option.some (Go.Addr.mk 501 (0 + Int.toNat (IntKind.wrap .i64 (i + 1)) * 1) Option.none))))
 False)
 False) ∧
 (((vI (IntKind.wrap .i64 (i + 1))) = (vI (IntKind.wrap .i64 (i + 1)))) ∧
 (((vI i) = (vI i)) ∧
 (((Go.Value.slice (Option.some (Go.Addr.mk 501 0 Option.none)) (m) (cap2)) = (Go.Value.slice (Option.some (Go.Addr.mk 501 0 Option.none)) (m) (cap2))) ∧
 ((∃ n20 : Int,
 (∃ n21 : Int,
 (∃ n22 : Int,
 (∃ n23 : Int,
 (∃ n24 : Int,
 (∃ n25 : Int,
 (∃ n26 : Int,
 ((At (l) (0 + Int.toNat (IntKind.wrap .i64 (i + 1)) * 7) 7 [(vI n20), (vI n21), (vI n22), (vI n23), (vI n24), (vI n25), (vI n26)]) ∧
 ((Go.Value.agg [(vI n20), (vI n21), (vI n22), (vI n23), (vI n24), (vI n25), (vI n26)].toArray) = (Go.Value.agg [(vI n12), (vI n13), (vI n14), (vI n15), (vI n16), (vI n17), (vI n18)].toArray)))))))))) ∧
 ((bcase (decide (0 ≤ IntKind.wrap .i64 (i + 1)))
 (bcase (decide (IntKind.wrap .i64 (i + 1) < (↑n : Int)))
 ((Go.Value.pointer (Option.some (Go.Addr.mk 500 (0 + Int.toNat (IntKind.wrap .i64 (i + 1)) * 7) Option.none))) = (Go.Value.pointer (Option.some (Go.Addr.mk 500 (0 + Int.toNat (IntKind.wrap .i64 (i + 1)) * 7) Option.none))))
 False)
 False) ∧
 (((vI (IntKind.wrap .i64 (i + 1))) = (vI (IntKind.wrap .i64 (i + 1)))) ∧
 (((vI i) = (vI i)) ∧
 (((Go.Value.slice (Option.some (Go.Addr.mk 500 0 Option.none)) (n) (cap)) = (Go.Value.slice (Option.some (Go.Addr.mk 500 0 Option.none)) (n) (cap))) ∧
 (((Go.Value.pointer (Option.some (Go.Addr.mk 1000 0 Option.none))) = (Go.Value.pointer (Option.some (Go.Addr.mk 1000 0 Option.none)))) ∧
 (((vI (IntKind.wrap .i64 (IntKind.wrap .i64 (n1 - n11) + n10))) = (vI (IntKind.wrap .i64 (IntKind.wrap .i64 (n1 - n11) + n10)))) ∧
 True)))))))))))) ∧
 (∃ n20 : Int,
 ((Says C 43 [(D.agg [(D.val (vI n12)), (D.val (vI n13)), (D.val (vI n14)), (D.val (vI n15)), (D.val (vI n16)), (D.val (vI n17)), (D.val (vI n18))]), (D.val (vI n19))] [(D.val (vI n20))]) ∧
 ((((vI (IntKind.wrap .i64 (IntKind.wrap .i64 (IntKind.wrap .i64 (n1 - n11) + n10) + n20))) = (vI (IntKind.wrap .i64 (IntKind.wrap .i64 (IntKind.wrap .i64 (n1 - n11) + n10) + n20)))) ∧
 ((bcase (decide (0 ≤ IntKind.wrap .i64 (i + 1)))
 (bcase (decide (IntKind.wrap .i64 (i + 1) < (↑m : Int)))
 ((Go.Value.pointer (Option.some (Go.Addr.mk 501 (0 + Int.toNat (IntKind.wrap .i64 (i + 1)) * 1) Option.none))) = (Go.Value.pointer (Option.some (Go.Addr.mk 501 (0 + Int.toNat (IntKind.wrap .i64 (i + 1)) * 1) Option.none))))
 False)
 False) ∧
 (((vI (IntKind.wrap .i64 (i + 1))) = (vI (IntKind.wrap .i64 (i + 1)))) ∧
 (((vI i) = (vI i)) ∧
 (((Go.Value.slice (Option.some (Go.Addr.mk 501 0 Option.none)) (m) (cap2)) = (Go.Value.slice (Option.some (Go.Addr.mk 501 0 Option.none)) (m) (cap2))) ∧
 ((bcase (decide (0 ≤ IntKind.wrap .i64 (i + 1)))
 (bcase (decide (IntKind.wrap .i64 (i + 1) < (↑n : Int)))
 ((Go.Value.pointer (Option.some (Go.Addr.mk 500 (0 + Int.toNat (IntKind.wrap .i64 (i + 1)) * 7) Option.none))) = (Go.Value.pointer (Option.some (Go.Addr.mk 500 (0 + Int.toNat (IntKind.wrap .i64 (i + 1)) * 7) Option.none))))
 False)
 False) ∧
 (((vI (IntKind.wrap .i64 (i + 1))) = (vI (IntKind.wrap .i64 (i + 1)))) ∧
 (((vI i) = (vI i)) ∧
 (((Go.Value.slice (Option.some (Go.Addr.mk 500 0 Option.none)) (n) (cap)) = (Go.Value.slice (Option.some (Go.Addr.mk 500 0 Option.none)) (n) (cap))) ∧
 (((Go.Value.pointer (Option.some (Go.Addr.mk 1000 0 Option.none))) = (Go.Value.pointer (Option.some (Go.Addr.mk 1000 0 Option.none)))) ∧
 (((vI (IntKind.wrap .i64 (IntKind.wrap .i64 (n1 - n11) + n10))) = (vI (IntKind.wrap .i64 (IntKind.wrap .i64 (n1 - n11) + n10)))) ∧
 True))))))))))) ∧
 (True ∧
 (B [(Prod.mk 1 (Go.Value.slice (Option.some (Go.Addr.mk 501 0 Option.none)) (m) (cap2))), (Prod.mk 2 (Go.Value.slice (Option.some (Go.Addr.mk 502 0 Option.none)) (o) (cap3))), (Prod.mk 3 (Go.Value.pointer (Option.some (Go.Addr.mk 1000 0 Option.none)))), (Prod.mk 7 (Go.Value.slice (Option.some (Go.Addr.mk 1001 0 Option.none)) 1 1)), (Prod.mk 8 (vI (IntKind.wrap .i64 (i + 1))))] [(Prod.mk 501 (AObj.sym (l2) false 1)), (Prod.mk 502 (AObj.sym (l3) false 1)), (Prod.mk 1000 (AObj.cells [(Go.Value.slice (Option.some (Go.Addr.mk 500 0 Option.none)) (n) (cap))] 24 false 1)), (Prod.mk 1001 (AObj.sym [(vI (IntKind.wrap .i64 (IntKind.wrap .i64 (IntKind.wrap .i64 (n1 - n11) + n10) + n20)))] true 1)), (Prod.mk 500 (AObj.sym (l) false 7))]))))))))
 False)
 False)))))))))
 False)
 False)
 (B [(Prod.mk 1 (Go.Value.slice (Option.some (Go.Addr.mk 501 0 Option.none)) (m) (cap2))), (Prod.mk 2 (Go.Value.slice (Option.some (Go.Addr.mk 502 0 Option.none)) (o) (cap3))), (Prod.mk 3 (Go.Value.pointer (Option.some (Go.Addr.mk 1000 0 Option.none)))), (Prod.mk 7 (Go.Value.slice (Option.some (Go.Addr.mk 1001 0 Option.none)) 1 1)), (Prod.mk 8 (vI (IntKind.wrap .i64 (i + 1))))] [(Prod.mk 501 (AObj.sym (l2) false 1)), (Prod.mk 502 (AObj.sym (l3) false 1)), (Prod.mk 1000 (AObj.cells [(Go.Value.slice (Option.some (Go.Addr.mk 500 0 Option.none)) (n) (cap))] 24 false 1)), (Prod.mk 1001 (AObj.sym [(vI (IntKind.wrap .i64 (IntKind.wrap .i64 (n1 - n11) + n10)))] true 1)), (Prod.mk 500 (AObj.sym (l) false 7))])))))))))
 False)
 False)))
 False)
 False)))))))))
 False)
 False)))
 False)
 False)
 (X 0 [(Prod.mk 7 (Go.Value.slice Option.none 0 0))] [])) := by kernel_rfl
def rAf1 (C : Ct) (L : AtLoop) (n cap : Nat) (l : List Value) (m cap2 : Nat) (l2 : List Value) (o cap3 : Nat) (l3 : List Value) (j : Nat) (r : List Value) (i : Int) (B : Bx) (X : Xx) (k : List D → Prop) : Prop := wpRound Try.prog (hB C) L 16 0 (sAf m cap2 o cap3 (S1001 j) i) [Q501 l2, Q502 l3, oCh 1000 n cap, Q1001 r, L500 l] B X (dataK k)
theorem rAf1_text (C : Ct) (L : AtLoop) (n : Nat) (cap : Nat) (l : List Go.Value) (m : Nat) (cap2 : Nat) (l2 : List Go.Value) (o : Nat) (cap3 : Nat) (l3 : List Go.Value) (j : Nat) (r : List Go.Value) (i : Int) (B : Bx) (X : Xx) (k : List D → Prop) : rAf1 C L n cap l m cap2 l2 o cap3 l3 j r i B X k =
 (bcase (decide (i < (↑n : Int)))
 (bcase (decide (0 ≤ i))
 (bcase (decide (i < (↑m : Int)))
 (∃ n1 : Int,
 ((At (l2) (0 + Int.toNat i * 1) 1 [(vI n1)]) ∧
 (bcase (decide (0 ≤ i))
 (bcase (decide (i < (↑n : Int)))
 (∃ n2 : Int,
 (∃ n3 : Int,
 (∃ n4 : Int,
 (∃ n5 : Int,
 (∃ n6 : Int,
 (∃ n7 : Int,
 (∃ n8 : Int,
 ((At (l) (0 + Int.toNat i * 7) 7 [(vI n2), (vI n3), (vI n4), (vI n5), (vI n6), (vI n7), (vI n8)]) ∧
 (bcase (decide (0 ≤ i))
 (bcase (decide (i < (↑m : Int)))
 (∃ n9 : Int,
 ((At (l2) (0 + Int.toNat i * 1) 1 [(vI n9)]) ∧
 (bcase (decide (0 ≤ i))
 (bcase (decide (i < (↑o : Int)))
 (∃ n10 : Int,
 ((At (l3) (0 + Int.toNat i * 1) 1 [(vI n10)]) ∧
 (((∃ n11 : Int,
 ((At (l3) (0 + Int.toNat i * 1) 1 [(vI n11)]) ∧
 ((vI n11) = (vI n10)))) ∧
 ((bcase (decide (0 ≤ i))
 (bcase (decide (i < (↑o : Int)))
 ((Go.Value.pointer (Option.some (Go.Addr.mk 502 (0 + Int.toNat i * 1) Option.none))) = (Go.Value.pointer (Option.some (Go.Addr.mk 502 (0 + Int.toNat i * 1) Option.none))))
 False)
 False) ∧
 (((vI i) = (vI i)) ∧
 (((Go.Value.slice (Option.some (Go.Addr.mk 502 0 Option.none)) (o) (cap3)) = (Go.Value.slice (Option.some (Go.Addr.mk 502 0 Option.none)) (o) (cap3))) ∧
 ((∃ n11 : Int,
 ((At (l2) (0 + Int.toNat i * 1) 1 [(vI n11)]) ∧
 ((vI n11) = (vI n9)))) ∧
 ((bcase (decide (0 ≤ i))
 (bcase (decide (i < (↑m : Int)))
 ((Go.Value.pointer (Option.some (Go.Addr.mk 501 (0 + Int.toNat i * 1) Option.none))) = (Go.Value.pointer (Option.some (Go.Addr.mk 501 (0 + Int.toNat i * 1) Option.none))))
 False)
 False) ∧
 (((vI i) = (vI i)) ∧
 (((Go.Value.slice (Option.some (Go.Addr.mk 501 0 Option.none)) (m) (cap2)) = (Go.Value.slice (Option.some (Go.Addr.mk 501 0 Option.none)) (m) (cap2))) ∧
 ((∃ n11 : Int,
 (∃ n12 : Int,
 (∃ n13 : Int,
 (∃ n14 : Int,
 (∃ n15 : Int,
 (∃ n16 : Int,
 (∃ n17 : Int,
 ((At (l) (0 + Int.toNat i * 7) 7 [(vI n11), (vI n12), (vI n13), (vI n14), (vI n15), (vI n16), (vI n17)]) ∧
 ((Go.Value.agg [(vI n11), (vI n12), (vI n13), (vI n14), (vI n15), (vI n16), (vI n17)].toArray) = (Go.Value.agg [(vI n2), (vI n3), (vI n4), (vI n5), (vI n6), (vI n7), (vI n8)].toArray)))))))))) ∧
 ((bcase (decide (0 ≤ i))
 (bcase (decide (i < (↑n : Int)))
 ((Go.Value.pointer (Option.some (Go.Addr.mk 500 (0 + Int.toNat i * 7) Option.none))) = (Go.Value.pointer (Option.some (Go.Addr.mk 500 (0 + Int.toNat i * 7) Option.none))))
 False)
 False) ∧
 (((vI i) = (vI i)) ∧
 (((Go.Value.slice (Option.some (Go.Addr.mk 500 0 Option.none)) (n) (cap)) = (Go.Value.slice (Option.some (Go.Addr.mk 500 0 Option.none)) (n) (cap))) ∧
 (((Go.Value.pointer (Option.some (Go.Addr.mk 1000 0 Option.none))) = (Go.Value.pointer (Option.some (Go.Addr.mk 1000 0 Option.none)))) ∧
 ((∃ n11 : Int,
 ((At (l2) (0 + Int.toNat i * 1) 1 [(vI n11)]) ∧
 ((vI n11) = (vI n1)))) ∧
 ((bcase (decide (0 ≤ i))
 (bcase (decide (i < (↑m : Int)))
 ((Go.Value.pointer (Option.some (Go.Addr.mk 501 (0 + Int.toNat i * 1) Option.none))) = (Go.Value.pointer (Option.some (Go.Addr.mk 501 (0 + Int.toNat i * 1) Option.none))))
 False)
 False) ∧
 (((vI i) = (vI i)) ∧
 (((Go.Value.slice (Option.some (Go.Addr.mk 501 0 Option.none)) (m) (cap2)) = (Go.Value.slice (Option.some (Go.Addr.mk 501 0 Option.none)) (m) (cap2))) ∧
 True))))))))))))))))) ∧
 (∃ n11 : Int,
 ((Says C 43 [(D.agg [(D.val (vI n2)), (D.val (vI n3)), (D.val (vI n4)), (D.val (vI n5)), (D.val (vI n6)), (D.val (vI n7)), (D.val (vI n8))]), (D.val (vI n9))] [(D.val (vI n11))]) ∧
 ((((vI (IntKind.wrap .i64 (IntKind.wrap .i64 (n1 - n11) + n10))) = (vI (IntKind.wrap .i64 (IntKind.wrap .i64 (n1 - n11) + n10)))) ∧
 (((vI (IntKind.wrap .i64 (n1 - n11))) = (vI (IntKind.wrap .i64 (n1 - n11)))) ∧
 ((∃ n12 : Int,
 ((At (l3) (0 + Int.toNat i * 1) 1 [(vI n12)]) ∧
 ((vI n12) = (vI n10)))) ∧
 ((bcase (decide (0 ≤ i))
 (bcase (decide (i < (↑o : Int)))
 ((Go.Value.pointer (Option.some (Go.Addr.mk 502 (0 + Int.toNat i * 1) Option.none))) = (Go.Value.pointer (Option.some (Go.Addr.mk 502 (0 + Int.toNat i * 1) Option.none))))
 False)
 False) ∧
 (((vI i) = (vI i)) ∧
 (((Go.Value.slice (Option.some (Go.Addr.mk 502 0 Option.none)) (o) (cap3)) = (Go.Value.slice (Option.some (Go.Addr.mk 502 0 Option.none)) (o) (cap3))) ∧
 ((bcase (decide (0 ≤ i))
 (bcase (decide (i < (↑m : Int)))
 ((Go.Value.pointer (Option.some (Go.Addr.mk 501 (0 + Int.toNat i * 1) Option.none))) = (Go.Value.pointer (Option.some (Go.Addr.mk 501 (0 + Int.toNat i * 1) Option.none))))
 False)
 False) ∧
 (((vI i) = (vI i)) ∧
 (((Go.Value.slice (Option.some (Go.Addr.mk 501 0 Option.none)) (m) (cap2)) = (Go.Value.slice (Option.some (Go.Addr.mk 501 0 Option.none)) (m) (cap2))) ∧
 ((bcase (decide (0 ≤ i))
 (bcase (decide (i < (↑n : Int)))
 ((Go.Value.pointer (Option.some (Go.Addr.mk 500 (0 + Int.toNat i * 7) Option.none))) = (Go.Value.pointer (Option.some (Go.Addr.mk 500 (0 + Int.toNat i * 7) Option.none))))
 False)
 False) ∧
 (((vI i) = (vI i)) ∧
 (((Go.Value.slice (Option.some (Go.Addr.mk 500 0 Option.none)) (n) (cap)) = (Go.Value.slice (Option.some (Go.Addr.mk 500 0 Option.none)) (n) (cap))) ∧
 (((Go.Value.pointer (Option.some (Go.Addr.mk 1000 0 Option.none))) = (Go.Value.pointer (Option.some (Go.Addr.mk 1000 0 Option.none)))) ∧
 ((∃ n12 : Int,
 ((At (l2) (0 + Int.toNat i * 1) 1 [(vI n12)]) ∧
 ((vI n12) = (vI n1)))) ∧
 ((bcase (decide (0 ≤ i))
 (bcase (decide (i < (↑m : Int)))
 ((Go.Value.pointer (Option.some (Go.Addr.mk 501 (0 + Int.toNat i * 1) Option.none))) = (Go.Value.pointer (Option.some (Go.Addr.mk 501 (0 + Int.toNat i * 1) Option.none))))
 False)
 False) ∧
 (((vI i) = (vI i)) ∧
 (((Go.Value.slice (Option.some (Go.Addr.mk 501 0 Option.none)) (m) (cap2)) = (Go.Value.slice (Option.some (Go.Addr.mk 501 0 Option.none)) (m) (cap2))) ∧
 True))))))))))))))))) ∧
 (True ∧
 (bcase (decide (IntKind.wrap .i64 (i + 1) < (↑n : Int)))
 (bcase (decide (0 ≤ IntKind.wrap .i64 (i + 1)))
 (bcase (decide (IntKind.wrap .i64 (i + 1) < (↑n : Int)))
 (∃ n12 : Int,
 (∃ n13 : Int,
 (∃ n14 : Int,
 (∃ n15 : Int,
 (∃ n16 : Int,
 (∃ n17 : Int,
 (∃ n18 : Int,
 ((At (l) (0 + Int.toNat (IntKind.wrap .i64 (i + 1)) * 7) 7 [(vI n12), (vI n13), (vI n14), (vI n15), (vI n16), (vI n17), (vI n18)]) ∧
 (bcase (decide (0 ≤ IntKind.wrap .i64 (i + 1)))
 (bcase (decide (IntKind.wrap .i64 (i + 1) < (↑m : Int)))
 (∃ n19 : Int,
 ((At (l2) (0 + Int.toNat (IntKind.wrap .i64 (i + 1)) * 1) 1 [(vI n19)]) ∧
 (((∃ n20 : Int,
 ((At (l2) (0 + Int.toNat (IntKind.wrap .i64 (i + 1)) * 1) 1 [(vI n20)]) ∧
 ((vI n20) = (vI n19)))) ∧
 ((bcase (decide (0 ≤ IntKind.wrap .i64 (i + 1)))
 (bcase (decide (IntKind.wrap .i64 (i + 1) < (↑m : Int)))
 ((Go.Value.pointer (Option.some (Go.Addr.mk 501 (0 + Int.toNat (IntKind.wrap .i64 (i + 1)) * 1) Option.none))) = (Go.Value.pointer (Option.some (Go.Addr.mk 501 (0 + Int.toNat (IntKind.wrap .i64 (i + 1)) * 1) Option.none))))
 False)
 False) ∧
 (((vI (IntKind.wrap .i64 (i + 1))) = (vI (IntKind.wrap .i64 (i + 1)))) ∧
 (((vI i) = (vI i)) ∧
 (((Go.Value.slice (Option.some (Go.Addr.mk 501 0 Option.none)) (m) (cap2)) = (Go.Value.slice (Option.some (Go.Addr.mk 501 0 Option.none)) (m) (cap2))) ∧
 ((∃ n20 : Int,
 (∃ n21 : Int,
 (∃ n22 : Int,
 (∃ n23 : Int,
 (∃ n24 : Int,
 (∃ n25 : Int,
 (∃ n26 : Int,
 ((At (l) (0 + Int.toNat (IntKind.wrap .i64 (i + 1)) * 7) 7 [(vI n20), (vI n21), (vI n22), (vI n23), (vI n24), (vI n25), (vI n26)]) ∧
 ((Go.Value.agg [(vI n20), (vI n21), (vI n22), (vI n23), (vI n24), (vI n25), (vI n26)].toArray) = (Go.Value.agg [(vI n12), (vI n13), (vI n14), (vI n15), (vI n16), (vI n17), (vI n18)].toArray)))))))))) ∧
 ((bcase (decide (0 ≤ IntKind.wrap .i64 (i + 1)))
 (bcase (decide (IntKind.wrap .i64 (i + 1) < (↑n : Int)))
 ((Go.Value.pointer (Option.some (Go.Addr.mk 500 (0 + Int.toNat (IntKind.wrap .i64 (i + 1)) * 7) Option.none))) = (Go.Value.pointer (Option.some (Go.Addr.mk 500 (0 + Int.toNat (IntKind.wrap .i64 (i + 1)) * 7) Option.none))))
 False)
 False) ∧
 (((vI (IntKind.wrap .i64 (i + 1))) = (vI (IntKind.wrap .i64 (i + 1)))) ∧
 (((vI i) = (vI i)) ∧
 (((Go.Value.slice (Option.some (Go.Addr.mk 500 0 Option.none)) (n) (cap)) = (Go.Value.slice (Option.some (Go.Addr.mk 500 0 Option.none)) (n) (cap))) ∧
 (((Go.Value.pointer (Option.some (Go.Addr.mk 1000 0 Option.none))) = (Go.Value.pointer (Option.some (Go.Addr.mk 1000 0 Option.none)))) ∧
 (((vI (IntKind.wrap .i64 (IntKind.wrap .i64 (n1 - n11) + n10))) = (vI (IntKind.wrap .i64 (IntKind.wrap .i64 (n1 - n11) + n10)))) ∧
 True)))))))))))) ∧
 (∃ n20 : Int,
 ((Says C 43 [(D.agg [(D.val (vI n12)), (D.val (vI n13)), (D.val (vI n14)), (D.val (vI n15)), (D.val (vI n16)), (D.val (vI n17)), (D.val (vI n18))]), (D.val (vI n19))] [(D.val (vI n20))]) ∧
 ((((vI (IntKind.wrap .i64 (IntKind.wrap .i64 (IntKind.wrap .i64 (n1 - n11) + n10) + n20))) = (vI (IntKind.wrap .i64 (IntKind.wrap .i64 (IntKind.wrap .i64 (n1 - n11) + n10) + n20)))) ∧
 ((bcase (decide (0 ≤ IntKind.wrap .i64 (i + 1)))
 (bcase (decide (IntKind.wrap .i64 (i + 1) < (↑m : Int)))
 ((Go.Value.pointer (Option.some (Go.Addr.mk 501 (0 + Int.toNat (IntKind.wrap .i64 (i + 1)) * 1) Option.none))) = (Go.Value.pointer (Option.some (Go.Addr.mk 501 (0 + Int.toNat (IntKind.wrap .i64 (i + 1)) * 1) Option.none))))
 False)
 False) ∧
 (((vI (IntKind.wrap .i64 (i + 1))) = (vI (IntKind.wrap .i64 (i + 1)))) ∧
 (((vI i) = (vI i)) ∧
 (((Go.Value.slice (Option.some (Go.Addr.mk 501 0 Option.none)) (m) (cap2)) = (Go.Value.slice (Option.some (Go.Addr.mk 501 0 Option.none)) (m) (cap2))) ∧
 ((bcase (decide (0 ≤ IntKind.wrap .i64 (i + 1)))
 (bcase (decide (IntKind.wrap .i64 (i + 1) < (↑n : Int)))
 ((Go.Value.pointer (Option.some (Go.Addr.mk 500 (0 + Int.toNat (IntKind.wrap .i64 (i + 1)) * 7) Option.none))) = (Go.Value.pointer (Option.some (Go.Addr.mk 500 (0 + Int.toNat (IntKind.wrap .i64 (i + 1)) * 7) Option.none))))
 False)
 False) ∧
 (((vI (IntKind.wrap .i64 (i + 1))) = (vI (IntKind.wrap .i64 (i + 1)))) ∧
 (((vI i) = (vI i)) ∧
 (((Go.Value.slice (Option.some (Go.Addr.mk 500 0 Option.none)) (n) (cap)) = (Go.Value.slice (Option.some (Go.Addr.mk 500 0 Option.none)) (n) (cap))) ∧
 (((Go.Value.pointer (Option.some (Go.Addr.mk 1000 0 Option.none))) = (Go.Value.pointer (Option.some (Go.Addr.mk 1000 0 Option.none)))) ∧
 (((vI (IntKind.wrap .i64 (IntKind.wrap .i64 (n1 - n11) + n10))) = (vI (IntKind.wrap .i64 (IntKind.wrap .i64 (n1 - n11) + n10)))) ∧
 True))))))))))) ∧
 (True ∧
 (bcase (decide (j < j + 1))
 (bcase (decide ((2 * (j + 1) + 768) * 8 ≤ 281474976710656))
 (bcase (decide (j + 1 ≤ 1099511627776))
 (bcase (decide (0 + j * 1 ≤ List.length r))
 (bcase (decide (0 + j * 1 = List.length r))
 (B [(Prod.mk 1 (Go.Value.slice (Option.some (Go.Addr.mk 501 0 Option.none)) (m) (cap2))), (Prod.mk 2 (Go.Value.slice (Option.some (Go.Addr.mk 502 0 Option.none)) (o) (cap3))), (Prod.mk 3 (Go.Value.pointer (Option.some (Go.Addr.mk 1000 0 Option.none)))), (Prod.mk 7 (Go.Value.slice (Option.some (Go.Addr.mk 1001 0 Option.none)) (j + 1) (j + 1))), (Prod.mk 8 (vI (IntKind.wrap .i64 (i + 1))))] [(Prod.mk 501 (AObj.sym (l2) false 1)), (Prod.mk 502 (AObj.sym (l3) false 1)), (Prod.mk 1000 (AObj.cells [(Go.Value.slice (Option.some (Go.Addr.mk 500 0 Option.none)) (n) (cap))] 24 false 1)), (Prod.mk 1001 (AObj.sym ((List.take (j * 1) (List.drop 0 r)) ++ [(vI (IntKind.wrap .i64 (IntKind.wrap .i64 (IntKind.wrap .i64 (n1 - n11) + n10) + n20)))]) true 1)), (Prod.mk 500 (AObj.sym (l) false 7))])
 False)
 False)
 False)
 False)
 False))))))))
 False)
 False)))))))))
 False)
 False)
 (bcase (decide (j < j + 1))
 (bcase (decide ((2 * (j + 1) + 768) * 8 ≤ 281474976710656))
 (bcase (decide (j + 1 ≤ 1099511627776))
 (bcase (decide (0 + j * 1 ≤ List.length r))
 (bcase (decide (0 + j * 1 = List.length r))
 (B [(Prod.mk 1 (Go.Value.slice (Option.some (Go.Addr.mk 501 0 Option.none)) (m) (cap2))), (Prod.mk 2 (Go.Value.slice (Option.some (Go.Addr.mk 502 0 Option.none)) (o) (cap3))), (Prod.mk 3 (Go.Value.pointer (Option.some (Go.Addr.mk 1000 0 Option.none)))), (Prod.mk 7 (Go.Value.slice (Option.some (Go.Addr.mk 1001 0 Option.none)) (j + 1) (j + 1))), (Prod.mk 8 (vI (IntKind.wrap .i64 (i + 1))))] [(Prod.mk 501 (AObj.sym (l2) false 1)), (Prod.mk 502 (AObj.sym (l3) false 1)), (Prod.mk 1000 (AObj.cells [(Go.Value.slice (Option.some (Go.Addr.mk 500 0 Option.none)) (n) (cap))] 24 false 1)), (Prod.mk 1001 (AObj.sym ((List.take (j * 1) (List.drop 0 r)) ++ [(vI (IntKind.wrap .i64 (IntKind.wrap .i64 (n1 - n11) + n10)))]) true 1)), (Prod.mk 500 (AObj.sym (l) false 7))])
 False)
 False)
 False)
 False)
 False)))))))))
 False)
 False)))
 False)
 False)))))))))
 False)
 False)))
 False)
 False)
 (X 0 [(Prod.mk 7 (Go.Value.slice (Option.some (Go.Addr.mk 1000 0 Option.none)) (j) (j)))] [(Prod.mk 1000 (AObj.sym (r) true 1))])) := by kernel_rfl
def nAf1 (C : Ct) (L : AtLoop) (j : Nat) (r : List Value) (k : List D → Prop) : Prop := wpNext Try.prog (hB C) L 16 0 .normal [(7, .slice (some ⟨1000, 0, none⟩) j j)] [(1000, .sym r true 1)] (dataK k)
theorem nAf1_text (C : Ct) (L : AtLoop) (j : Nat) (r : List Go.Value) (k : List D → Prop) : nAf1 C L j r k =
 ((((j) = (j)) ∧
 ((List.length r) = (j * 1))) ∧
 (k [(D.sl (j) 1 (r))])) := by kernel_rfl
def sSt (n cap : Nat) (i : Int) : Slots := [(3, P1 1000 0), (6, S500 n cap), (33, S500 n cap), (34, vI n), (35, vI i)]
def rSt (C : Ct) (L : AtLoop) (n cap : Nat) (l : List Value) (m cap2 : Nat) (l2 : List Value) (o cap3 : Nat) (l3 : List Value) (i : Int) (B : Bx) (X : Xx) (k : List D → Prop) : Prop := wpRound Try.prog (hB C) L 11 0 (sSt n cap i) [oMv 1000 m cap2 o cap3, L500 l, Q501 l2, Q502 l3] B X (dataK k)
theorem rSt_text (C : Ct) (L : AtLoop) (n : Nat) (cap : Nat) (l : List Go.Value) (m : Nat) (cap2 : Nat) (l2 : List Go.Value) (o : Nat) (cap3 : Nat) (l3 : List Go.Value) (i : Int) (B : Bx) (X : Xx) (k : List D → Prop) : rSt C L n cap l m cap2 l2 o cap3 l3 i B X k =
 (bcase (decide (i < (↑n : Int)))
 (bcase (decide (0 ≤ i))
 (bcase (decide (i < (↑n : Int)))
 (∃ n1 : Int,
 (∃ n2 : Int,
 (∃ n3 : Int,
 (∃ n4 : Int,
 (∃ n5 : Int,
 (∃ n6 : Int,
 (∃ n7 : Int,
 ((At (l) (0 + Int.toNat i * 7) 7 [(vI n1), (vI n2), (vI n3), (vI n4), (vI n5), (vI n6), (vI n7)]) ∧
 (bcase (decide (0 ≤ i))
 (bcase (decide (i < (↑m : Int)))
 (∃ n8 : Int,
 ((At (l2) (0 + Int.toNat i * 1) 1 [(vI n8)]) ∧
 (bcase (decide (0 ≤ i))
 (bcase (decide (i < (↑o : Int)))
 (∃ n9 : Int,
 ((At (l3) (0 + Int.toNat i * 1) 1 [(vI n9)]) ∧
 (((((Go.Value.slice (Option.some (Go.Addr.mk 1003 0 Option.none)) 1 1) = (Go.Value.slice (Option.some (Go.Addr.mk 1003 0 Option.none)) 1 1)) ∧
 ((Option.some (AObj.cells [(vI n9)] 3 false 1)) = (Option.some (AObj.cells [(vI n9)] 3 false 1)))) ∧
 ((∃ n10 : Int,
 ((At (l3) (0 + Int.toNat i * 1) 1 [(vI n10)]) ∧
 ((vI n10) = (vI n9)))) ∧
 ((bcase (decide (0 ≤ i))
 (bcase (decide (i < (↑o : Int)))
 ((Go.Value.pointer (Option.some (Go.Addr.mk 502 (0 + Int.toNat i * 1) Option.none))) = (Go.Value.pointer (Option.some (Go.Addr.mk 502 (0 + Int.toNat i * 1) Option.none))))
 False)
 False) ∧
 (((vI i) = (vI i)) ∧
 (((Go.Value.slice (Option.some (Go.Addr.mk 502 0 Option.none)) (o) (cap3)) = (Go.Value.slice (Option.some (Go.Addr.mk 502 0 Option.none)) (o) (cap3))) ∧
 (((Go.Value.pointer (Option.some (Go.Addr.mk 1000 1 Option.none))) = (Go.Value.pointer (Option.some (Go.Addr.mk 1000 1 Option.none)))) ∧
 (((Go.Value.agg [(vI n4), (vI n5)].toArray) = (Go.Value.agg [(vI n4), (vI n5)].toArray)) ∧
 (((Go.Value.pointer (Option.some (Go.Addr.mk 1001 3 Option.none))) = (Go.Value.pointer (Option.some (Go.Addr.mk 1001 3 Option.none)))) ∧
 ((((Go.Value.slice (Option.some (Go.Addr.mk 1002 0 Option.none)) 1 1) = (Go.Value.slice (Option.some (Go.Addr.mk 1002 0 Option.none)) 1 1)) ∧
 ((Option.some (AObj.cells [(vI n8)] 3 false 1)) = (Option.some (AObj.cells [(vI n8)] 3 false 1)))) ∧
 ((∃ n10 : Int,
 ((At (l2) (0 + Int.toNat i * 1) 1 [(vI n10)]) ∧
 ((vI n10) = (vI n8)))) ∧
 ((bcase (decide (0 ≤ i))
 (bcase (decide (i < (↑m : Int)))
 ((Go.Value.pointer (Option.some (Go.Addr.mk 501 (0 + Int.toNat i * 1) Option.none))) = (Go.Value.pointer (Option.some (Go.Addr.mk 501 (0 + Int.toNat i * 1) Option.none))))
 False)
 False) ∧
 (((vI i) = (vI i)) ∧
 (((Go.Value.slice (Option.some (Go.Addr.mk 501 0 Option.none)) (m) (cap2)) = (Go.Value.slice (Option.some (Go.Addr.mk 501 0 Option.none)) (m) (cap2))) ∧
 (((Go.Value.pointer (Option.some (Go.Addr.mk 1000 0 Option.none))) = (Go.Value.pointer (Option.some (Go.Addr.mk 1000 0 Option.none)))) ∧
 (((Go.Value.agg [(vI n1), (vI n2), (vI n3), (vI n4), (vI n5), (vI n6), (vI n7)].toArray) = (Go.Value.agg [(vI n1), (vI n2), (vI n3), (vI n4), (vI n5), (vI n6), (vI n7)].toArray)) ∧
 True))))))))))))))) ∧
 (∃ r1 : Int,
 ((Says witC 0 [(D.val (vI n6)), (D.val (vI n7)), (D.val (vI (22 : Int))), (D.sl 1 1 [(vI n8)])] [(D.val (vI r1))]) ∧
 (((((Go.Value.slice (Option.some (Go.Addr.mk 1003 0 Option.none)) 1 1) = (Go.Value.slice (Option.some (Go.Addr.mk 1003 0 Option.none)) 1 1)) ∧
 ((Option.some (AObj.cells [(vI n9)] 3 false 1)) = (Option.some (AObj.cells [(vI n9)] 3 false 1)))) ∧
 ((∃ n10 : Int,
 ((At (l3) (0 + Int.toNat i * 1) 1 [(vI n10)]) ∧
 ((vI n10) = (vI n9)))) ∧
 ((bcase (decide (0 ≤ i))
 (bcase (decide (i < (↑o : Int)))
 ((Go.Value.pointer (Option.some (Go.Addr.mk 502 (0 + Int.toNat i * 1) Option.none))) = (Go.Value.pointer (Option.some (Go.Addr.mk 502 (0 + Int.toNat i * 1) Option.none))))
 False)
 False) ∧
 (((vI i) = (vI i)) ∧
 (((Go.Value.slice (Option.some (Go.Addr.mk 502 0 Option.none)) (o) (cap3)) = (Go.Value.slice (Option.some (Go.Addr.mk 502 0 Option.none)) (o) (cap3))) ∧
 (((Go.Value.pointer (Option.some (Go.Addr.mk 1000 1 Option.none))) = (Go.Value.pointer (Option.some (Go.Addr.mk 1000 1 Option.none)))) ∧
 (((Go.Value.agg [(vI n4), (vI n5)].toArray) = (Go.Value.agg [(vI n4), (vI n5)].toArray)) ∧
 (((Go.Value.pointer (Option.some (Go.Addr.mk 1001 3 Option.none))) = (Go.Value.pointer (Option.some (Go.Addr.mk 1001 3 Option.none)))) ∧
 ((∃ n10 : Int,
 ((At (l2) (0 + Int.toNat i * 1) 1 [(vI n10)]) ∧
 ((vI n10) = (vI n8)))) ∧
 ((bcase (decide (0 ≤ i))
 (bcase (decide (i < (↑m : Int)))
 ((Go.Value.pointer (Option.some (Go.Addr.mk 501 (0 + Int.toNat i * 1) Option.none))) = (Go.Value.pointer (Option.some (Go.Addr.mk 501 (0 + Int.toNat i * 1) Option.none))))
 False)
 False) ∧
 (((vI i) = (vI i)) ∧
 (((Go.Value.slice (Option.some (Go.Addr.mk 501 0 Option.none)) (m) (cap2)) = (Go.Value.slice (Option.some (Go.Addr.mk 501 0 Option.none)) (m) (cap2))) ∧
 (((Go.Value.pointer (Option.some (Go.Addr.mk 1000 0 Option.none))) = (Go.Value.pointer (Option.some (Go.Addr.mk 1000 0 Option.none)))) ∧
 True))))))))))))) ∧
 (((((Go.Value.slice (Option.some (Go.Addr.mk 1003 0 Option.none)) 1 1) = (Go.Value.slice (Option.some (Go.Addr.mk 1003 0 Option.none)) 1 1)) ∧
 ((Option.some (AObj.cells [(vI n9)] 3 false 1)) = (Option.some (AObj.cells [(vI n9)] 3 false 1)))) ∧
 ((∃ n10 : Int,
 ((At (l3) (0 + Int.toNat i * 1) 1 [(vI n10)]) ∧
 ((vI n10) = (vI n9)))) ∧
 ((bcase (decide (0 ≤ i))
 (bcase (decide (i < (↑o : Int)))
 ((Go.Value.pointer (Option.some (Go.Addr.mk 502 (0 + Int.toNat i * 1) Option.none))) = (Go.Value.pointer (Option.some (Go.Addr.mk 502 (0 + Int.toNat i * 1) Option.none))))
 False)
 False) ∧
 (((vI i) = (vI i)) ∧
 (((Go.Value.slice (Option.some (Go.Addr.mk 502 0 Option.none)) (o) (cap3)) = (Go.Value.slice (Option.some (Go.Addr.mk 502 0 Option.none)) (o) (cap3))) ∧
 (((Go.Value.pointer (Option.some (Go.Addr.mk 1000 1 Option.none))) = (Go.Value.pointer (Option.some (Go.Addr.mk 1000 1 Option.none)))) ∧
 (((Go.Value.pointer (Option.some (Go.Addr.mk 1001 3 Option.none))) = (Go.Value.pointer (Option.some (Go.Addr.mk 1001 3 Option.none)))) ∧
 ((∃ n10 : Int,
 ((At (l2) (0 + Int.toNat i * 1) 1 [(vI n10)]) ∧
 ((vI n10) = (vI n8)))) ∧
 ((bcase (decide (0 ≤ i))
 (bcase (decide (i < (↑m : Int)))
 ((Go.Value.pointer (Option.some (Go.Addr.mk 501 (0 + Int.toNat i * 1) Option.none))) = (Go.Value.pointer (Option.some (Go.Addr.mk 501 (0 + Int.toNat i * 1) Option.none))))
 False)
 False) ∧
 (((vI i) = (vI i)) ∧
 (((Go.Value.slice (Option.some (Go.Addr.mk 501 0 Option.none)) (m) (cap2)) = (Go.Value.slice (Option.some (Go.Addr.mk 501 0 Option.none)) (m) (cap2))) ∧
 (((Go.Value.pointer (Option.some (Go.Addr.mk 1000 0 Option.none))) = (Go.Value.pointer (Option.some (Go.Addr.mk 1000 0 Option.none)))) ∧
 True)))))))))))) ∧
 (∃ r2 : Int,
 ((Says witC 0 [(D.val (vI n4)), (D.val (vI n5)), (D.val (vI (2 : Int))), (D.sl 1 1 [(vI n9)])] [(D.val (vI r2))]) ∧
 (((((Go.Value.slice (Option.some (Go.Addr.mk 1009 0 Option.none)) 2 2) = (Go.Value.slice (Option.some (Go.Addr.mk 1009 0 Option.none)) 2 2)) ∧
 ((Option.some (AObj.cells [(vI r1), (vI r2)] 30 false 1)) = (Option.some (AObj.cells [(vI r1), (vI r2)] 30 false 1)))) ∧
 ((∃ n10 : Int,
 ((At (l3) (0 + Int.toNat i * 1) 1 [(vI n10)]) ∧
 ((vI n10) = (vI n9)))) ∧
 ((bcase (decide (0 ≤ i))
 (bcase (decide (i < (↑o : Int)))
 ((Go.Value.pointer (Option.some (Go.Addr.mk 502 (0 + Int.toNat i * 1) Option.none))) = (Go.Value.pointer (Option.some (Go.Addr.mk 502 (0 + Int.toNat i * 1) Option.none))))
 False)
 False) ∧
 (((vI i) = (vI i)) ∧
 (((Go.Value.slice (Option.some (Go.Addr.mk 502 0 Option.none)) (o) (cap3)) = (Go.Value.slice (Option.some (Go.Addr.mk 502 0 Option.none)) (o) (cap3))) ∧
 (((Go.Value.pointer (Option.some (Go.Addr.mk 1000 1 Option.none))) = (Go.Value.pointer (Option.some (Go.Addr.mk 1000 1 Option.none)))) ∧
 (((Go.Value.pointer (Option.some (Go.Addr.mk 1001 3 Option.none))) = (Go.Value.pointer (Option.some (Go.Addr.mk 1001 3 Option.none)))) ∧
 ((∃ n10 : Int,
 ((At (l2) (0 + Int.toNat i * 1) 1 [(vI n10)]) ∧
 ((vI n10) = (vI n8)))) ∧
 ((bcase (decide (0 ≤ i))
 (bcase (decide (i < (↑m : Int)))
 ((Go.Value.pointer (Option.some (Go.Addr.mk 501 (0 + Int.toNat i * 1) Option.none))) = (Go.Value.pointer (Option.some (Go.Addr.mk 501 (0 + Int.toNat i * 1) Option.none))))
 False)
 False) ∧
 (((vI i) = (vI i)) ∧
 (((Go.Value.slice (Option.some (Go.Addr.mk 501 0 Option.none)) (m) (cap2)) = (Go.Value.slice (Option.some (Go.Addr.mk 501 0 Option.none)) (m) (cap2))) ∧
 (((Go.Value.pointer (Option.some (Go.Addr.mk 1000 0 Option.none))) = (Go.Value.pointer (Option.some (Go.Addr.mk 1000 0 Option.none)))) ∧
 True)))))))))))) ∧
 (∃ n10 : Int,
 ((Says C 37 [(D.sl 2 1 [(vI r1), (vI r2)])] [(D.val (vI n10))]) ∧
 (((∃ n11 : Int,
 ((At (l3) (0 + Int.toNat i * 1) 1 [(vI n11)]) ∧
 ((vI n11) = (vI n9)))) ∧
 ((bcase (decide (0 ≤ i))
 (bcase (decide (i < (↑o : Int)))
 ((Go.Value.pointer (Option.some (Go.Addr.mk 502 (0 + Int.toNat i * 1) Option.none))) = (Go.Value.pointer (Option.some (Go.Addr.mk 502 (0 + Int.toNat i * 1) Option.none))))
 False)
 False) ∧
 (((vI i) = (vI i)) ∧
 (((Go.Value.slice (Option.some (Go.Addr.mk 502 0 Option.none)) (o) (cap3)) = (Go.Value.slice (Option.some (Go.Addr.mk 502 0 Option.none)) (o) (cap3))) ∧
 (((Go.Value.pointer (Option.some (Go.Addr.mk 1000 1 Option.none))) = (Go.Value.pointer (Option.some (Go.Addr.mk 1000 1 Option.none)))) ∧
 (((Go.Value.pointer (Option.some (Go.Addr.mk 1001 3 Option.none))) = (Go.Value.pointer (Option.some (Go.Addr.mk 1001 3 Option.none)))) ∧
 ((∃ n11 : Int,
 ((At (l2) (0 + Int.toNat i * 1) 1 [(vI n11)]) ∧
 ((vI n11) = (vI n8)))) ∧
 ((bcase (decide (0 ≤ i))
 (bcase (decide (i < (↑m : Int)))
 ((Go.Value.pointer (Option.some (Go.Addr.mk 501 (0 + Int.toNat i * 1) Option.none))) = (Go.Value.pointer (Option.some (Go.Addr.mk 501 (0 + Int.toNat i * 1) Option.none))))
 False)
 False) ∧
 (((vI i) = (vI i)) ∧
 (((Go.Value.slice (Option.some (Go.Addr.mk 501 0 Option.none)) (m) (cap2)) = (Go.Value.slice (Option.some (Go.Addr.mk 501 0 Option.none)) (m) (cap2))) ∧
 (((Go.Value.pointer (Option.some (Go.Addr.mk 1000 0 Option.none))) = (Go.Value.pointer (Option.some (Go.Addr.mk 1000 0 Option.none)))) ∧
 True))))))))))) ∧
 (True ∧
 (bcase (n10 != 0)
 (k [D.nil, (D.val (vI n10))])
 (B [(Prod.mk 3 (Go.Value.pointer (Option.some (Go.Addr.mk 1000 0 Option.none)))), (Prod.mk 6 (Go.Value.slice (Option.some (Go.Addr.mk 500 0 Option.none)) (n) (cap))), (Prod.mk 33 (Go.Value.slice (Option.some (Go.Addr.mk 500 0 Option.none)) (n) (cap))), (Prod.mk 34 (vI ((↑n : Int)))), (Prod.mk 35 (vI (IntKind.wrap .i64 (i + 1))))] [(Prod.mk 1000 (AObj.cells [(Go.Value.slice (Option.some (Go.Addr.mk 501 0 Option.none)) (m) (cap2)), (Go.Value.slice (Option.some (Go.Addr.mk 502 0 Option.none)) (o) (cap3))] 27 false 1)), (Prod.mk 500 (AObj.sym (l) false 7)), (Prod.mk 501 (AObj.sym (l2) false 1)), (Prod.mk 502 (AObj.sym (l3) false 1))]))))))))))))))))
 False)
 False)))
 False)
 False)))))))))
 False)
 False)
 (X 0 [(Prod.mk 3 (Go.Value.pointer (Option.some (Go.Addr.mk 1000 0 Option.none)))), (Prod.mk 6 (Go.Value.slice (Option.some (Go.Addr.mk 500 0 Option.none)) (n) (cap)))] [(Prod.mk 1000 (AObj.cells [(Go.Value.slice (Option.some (Go.Addr.mk 501 0 Option.none)) (m) (cap2)), (Go.Value.slice (Option.some (Go.Addr.mk 502 0 Option.none)) (o) (cap3))] 27 false 1)), (Prod.mk 500 (AObj.sym (l) false 7)), (Prod.mk 501 (AObj.sym (l2) false 1)), (Prod.mk 502 (AObj.sym (l3) false 1))])) := by kernel_rfl
def nSt (C : Ct) (L : AtLoop) (n cap : Nat) (l : List Value) (m cap2 : Nat) (l2 : List Value) (o cap3 : Nat) (l3 : List Value) (k : List D → Prop) : Prop := wpNext Try.prog (hB C) L 11 0 .normal [(3, P1 1000 0), (6, S500 n cap)] [oMv 1000 m cap2 o cap3, L500 l, Q501 l2, Q502 l3] (dataK k)
theorem nSt_text (C : Ct) (L : AtLoop) (n : Nat) (cap : Nat) (l : List Go.Value) (m : Nat) (cap2 : Nat) (l2 : List Go.Value) (o : Nat) (cap3 : Nat) (l3 : List Go.Value) (k : List D → Prop) : nSt C L n cap l m cap2 l2 o cap3 l3 k =
 (bcase (decide (0 + n * 7 ≤ List.length l))
 (bcase (decide (0 + m * 1 ≤ List.length l2))
 (bcase (decide (0 + o * 1 ≤ List.length l3))
 (((Says C 41 [(D.sl (n) 7 (List.take (n * 7) (List.drop 0 l))), (D.agg [(D.sl (m) 1 (List.take (m * 1) (List.drop 0 l2))), (D.sl (o) 1 (List.take (o * 1) (List.drop 0 l3)))])] [D.nil]) ∧
 (k [D.nil, (D.val (vI (0 : Int)))])) ∨
 (∃ n1 : Nat,
 (∃ cs1 : List Go.Value,
 ((Says C 41 [(D.sl (n) 7 (List.take (n * 7) (List.drop 0 l))), (D.agg [(D.sl (m) 1 (List.take (m * 1) (List.drop 0 l2))), (D.sl (o) 1 (List.take (o * 1) (List.drop 0 l3)))])] [(D.sl (n1) 1 (cs1))]) ∧
 ((((n1) = (n1)) ∧
 ((List.length cs1) = (n1 * 1))) ∧
 (k [(D.sl (n1) 1 (cs1)), (D.val (vI (0 : Int)))]))))))
 False)
 False)
 False) := by kernel_rfl
def sMv (i : Int) : Slots := [(2, P1 1000 0), (3, P1 1001 0), (5, vI i)]
def rMv (C : Ct) (L : AtLoop) (n cap : Nat) (l : List Value) (m cap2 : Nat) (l2 : List Value) (o cap3 : Nat) (l3 : List Value) (i : Int) (B : Bx) (X : Xx) (k : List D → Prop) : Prop := wpRound Try.prog (hB C) L 14 0 (sMv i) [oCh 1000 n cap, oMv 1001 m cap2 o cap3, L500 l, Q501 l2, Q502 l3] B X (dataK k)
theorem rMv_text (C : Ct) (L : AtLoop) (n : Nat) (cap : Nat) (l : List Go.Value) (m : Nat) (cap2 : Nat) (l2 : List Go.Value) (o : Nat) (cap3 : Nat) (l3 : List Go.Value) (i : Int) (B : Bx) (X : Xx) (k : List D → Prop) : rMv C L n cap l m cap2 l2 o cap3 l3 i B X k =
 (bcase (decide (i < (↑n : Int)))
 (bcase (decide (0 ≤ i))
 (bcase (decide (i < (↑n : Int)))
 (∃ n1 : Int,
 (∃ n2 : Int,
 (∃ n3 : Int,
 (∃ n4 : Int,
 (∃ n5 : Int,
 (∃ n6 : Int,
 (∃ n7 : Int,
 ((At (l) (0 + Int.toNat i * 7) 7 [(vI n1), (vI n2), (vI n3), (vI n4), (vI n5), (vI n6), (vI n7)]) ∧
 (bcase (decide (0 ≤ i))
 (bcase (decide (i < (↑m : Int)))
 (∃ n8 : Int,
 ((At (l2) (0 + Int.toNat i * 1) 1 [(vI n8)]) ∧
 ((((vI n7) = (vI n7)) ∧
 (((Go.Value.pointer (Option.some (Go.Addr.mk 1002 6 Option.none))) = (Go.Value.pointer (Option.some (Go.Addr.mk 1002 6 Option.none)))) ∧
 (((Go.Value.pointer (Option.some (Go.Addr.mk 1002 5 Option.none))) = (Go.Value.pointer (Option.some (Go.Addr.mk 1002 5 Option.none)))) ∧
 (((vI n6) = (vI n6)) ∧
 (((Go.Value.pointer (Option.some (Go.Addr.mk 1002 5 Option.none))) = (Go.Value.pointer (Option.some (Go.Addr.mk 1002 5 Option.none)))) ∧
 (((Go.Value.pointer (Option.some (Go.Addr.mk 1002 5 Option.none))) = (Go.Value.pointer (Option.some (Go.Addr.mk 1002 5 Option.none)))) ∧
 ((∃ n9 : Int,
 ((At (l2) (0 + Int.toNat i * 1) 1 [(vI n9)]) ∧
 ((vI n9) = (vI n8)))) ∧
 ((bcase (decide (0 ≤ i))
 (bcase (decide (i < (↑m : Int)))
 ((Go.Value.pointer (Option.some (Go.Addr.mk 501 (0 + Int.toNat i * 1) Option.none))) = (Go.Value.pointer (Option.some (Go.Addr.mk 501 (0 + Int.toNat i * 1) Option.none))))
 False)
 False) ∧
 (((vI i) = (vI i)) ∧
 (((Go.Value.slice (Option.some (Go.Addr.mk 501 0 Option.none)) (m) (cap2)) = (Go.Value.slice (Option.some (Go.Addr.mk 501 0 Option.none)) (m) (cap2))) ∧
 (((Go.Value.pointer (Option.some (Go.Addr.mk 1001 0 Option.none))) = (Go.Value.pointer (Option.some (Go.Addr.mk 1001 0 Option.none)))) ∧
 True))))))))))) ∧
 (((Says C 26 [(D.val (vI n8)), (D.val (vI n6)), (D.val (vI n7))] [(D.val (Value.bool true))]) ∧
 ((((Value.bool false) = (Value.bool false)) ∧
 (((Go.Value.pointer (Option.some (Go.Addr.mk 1002 6 Option.none))) = (Go.Value.pointer (Option.some (Go.Addr.mk 1002 6 Option.none)))) ∧
 (((Go.Value.pointer (Option.some (Go.Addr.mk 1002 5 Option.none))) = (Go.Value.pointer (Option.some (Go.Addr.mk 1002 5 Option.none)))) ∧
 (((Go.Value.pointer (Option.some (Go.Addr.mk 1002 5 Option.none))) = (Go.Value.pointer (Option.some (Go.Addr.mk 1002 5 Option.none)))) ∧
 (((Go.Value.pointer (Option.some (Go.Addr.mk 1002 5 Option.none))) = (Go.Value.pointer (Option.some (Go.Addr.mk 1002 5 Option.none)))) ∧
 ((bcase (decide (0 ≤ i))
 (bcase (decide (i < (↑m : Int)))
 ((Go.Value.pointer (Option.some (Go.Addr.mk 501 (0 + Int.toNat i * 1) Option.none))) = (Go.Value.pointer (Option.some (Go.Addr.mk 501 (0 + Int.toNat i * 1) Option.none))))
 False)
 False) ∧
 (((vI i) = (vI i)) ∧
 (((Go.Value.slice (Option.some (Go.Addr.mk 501 0 Option.none)) (m) (cap2)) = (Go.Value.slice (Option.some (Go.Addr.mk 501 0 Option.none)) (m) (cap2))) ∧
 (((Go.Value.pointer (Option.some (Go.Addr.mk 1001 0 Option.none))) = (Go.Value.pointer (Option.some (Go.Addr.mk 1001 0 Option.none)))) ∧
 True))))))))) ∧
 (bcase (decide (0 ≤ i))
 (bcase (decide (i < (↑o : Int)))
 (∃ n9 : Int,
 ((At (l3) (0 + Int.toNat i * 1) 1 [(vI n9)]) ∧
 ((((vI n5) = (vI n5)) ∧
 (((Go.Value.pointer (Option.some (Go.Addr.mk 1002 4 Option.none))) = (Go.Value.pointer (Option.some (Go.Addr.mk 1002 4 Option.none)))) ∧
 (((Go.Value.pointer (Option.some (Go.Addr.mk 1002 3 Option.none))) = (Go.Value.pointer (Option.some (Go.Addr.mk 1002 3 Option.none)))) ∧
 (((vI n4) = (vI n4)) ∧
 (((Go.Value.pointer (Option.some (Go.Addr.mk 1002 3 Option.none))) = (Go.Value.pointer (Option.some (Go.Addr.mk 1002 3 Option.none)))) ∧
 (((Go.Value.pointer (Option.some (Go.Addr.mk 1002 3 Option.none))) = (Go.Value.pointer (Option.some (Go.Addr.mk 1002 3 Option.none)))) ∧
 ((∃ n10 : Int,
 ((At (l3) (0 + Int.toNat i * 1) 1 [(vI n10)]) ∧
 ((vI n10) = (vI n9)))) ∧
 ((bcase (decide (0 ≤ i))
 (bcase (decide (i < (↑o : Int)))
 ((Go.Value.pointer (Option.some (Go.Addr.mk 502 (0 + Int.toNat i * 1) Option.none))) = (Go.Value.pointer (Option.some (Go.Addr.mk 502 (0 + Int.toNat i * 1) Option.none))))
 False)
 False) ∧
 (((vI i) = (vI i)) ∧
 (((Go.Value.slice (Option.some (Go.Addr.mk 502 0 Option.none)) (o) (cap3)) = (Go.Value.slice (Option.some (Go.Addr.mk 502 0 Option.none)) (o) (cap3))) ∧
 (((Go.Value.pointer (Option.some (Go.Addr.mk 1001 1 Option.none))) = (Go.Value.pointer (Option.some (Go.Addr.mk 1001 1 Option.none)))) ∧
 True))))))))))) ∧
 (((Says C 26 [(D.val (vI n9)), (D.val (vI n4)), (D.val (vI n5))] [(D.val (Value.bool true))]) ∧
 ((((Value.bool false) = (Value.bool false)) ∧
 (((Go.Value.pointer (Option.some (Go.Addr.mk 1002 4 Option.none))) = (Go.Value.pointer (Option.some (Go.Addr.mk 1002 4 Option.none)))) ∧
 (((Go.Value.pointer (Option.some (Go.Addr.mk 1002 3 Option.none))) = (Go.Value.pointer (Option.some (Go.Addr.mk 1002 3 Option.none)))) ∧
 (((Go.Value.pointer (Option.some (Go.Addr.mk 1002 3 Option.none))) = (Go.Value.pointer (Option.some (Go.Addr.mk 1002 3 Option.none)))) ∧
 (((Go.Value.pointer (Option.some (Go.Addr.mk 1002 3 Option.none))) = (Go.Value.pointer (Option.some (Go.Addr.mk 1002 3 Option.none)))) ∧
 ((bcase (decide (0 ≤ i))
 (bcase (decide (i < (↑o : Int)))
 ((Go.Value.pointer (Option.some (Go.Addr.mk 502 (0 + Int.toNat i * 1) Option.none))) = (Go.Value.pointer (Option.some (Go.Addr.mk 502 (0 + Int.toNat i * 1) Option.none))))
 False)
 False) ∧
 (((vI i) = (vI i)) ∧
 (((Go.Value.slice (Option.some (Go.Addr.mk 502 0 Option.none)) (o) (cap3)) = (Go.Value.slice (Option.some (Go.Addr.mk 502 0 Option.none)) (o) (cap3))) ∧
 (((Go.Value.pointer (Option.some (Go.Addr.mk 1001 1 Option.none))) = (Go.Value.pointer (Option.some (Go.Addr.mk 1001 1 Option.none)))) ∧
 True))))))))) ∧
 (B [(Prod.mk 2 (Go.Value.pointer (Option.some (Go.Addr.mk 1000 0 Option.none)))), (Prod.mk 3 (Go.Value.pointer (Option.some (Go.Addr.mk 1001 0 Option.none)))), (Prod.mk 5 (vI (IntKind.wrap .i64 (i + 1))))] [(Prod.mk 1000 (AObj.cells [(Go.Value.slice (Option.some (Go.Addr.mk 500 0 Option.none)) (n) (cap))] 24 false 1)), (Prod.mk 1001 (AObj.cells [(Go.Value.slice (Option.some (Go.Addr.mk 501 0 Option.none)) (m) (cap2)), (Go.Value.slice (Option.some (Go.Addr.mk 502 0 Option.none)) (o) (cap3))] 27 false 1)), (Prod.mk 500 (AObj.sym (l) false 7)), (Prod.mk 501 (AObj.sym (l2) false 1)), (Prod.mk 502 (AObj.sym (l3) false 1))]))) ∨
 ((Says C 26 [(D.val (vI n9)), (D.val (vI n4)), (D.val (vI n5))] [(D.val (Value.bool false))]) ∧
 ((((Value.bool true) = (Value.bool true)) ∧
 (((Go.Value.pointer (Option.some (Go.Addr.mk 1002 4 Option.none))) = (Go.Value.pointer (Option.some (Go.Addr.mk 1002 4 Option.none)))) ∧
 (((Go.Value.pointer (Option.some (Go.Addr.mk 1002 3 Option.none))) = (Go.Value.pointer (Option.some (Go.Addr.mk 1002 3 Option.none)))) ∧
 (((Go.Value.pointer (Option.some (Go.Addr.mk 1002 3 Option.none))) = (Go.Value.pointer (Option.some (Go.Addr.mk 1002 3 Option.none)))) ∧
 (((Go.Value.pointer (Option.some (Go.Addr.mk 1002 3 Option.none))) = (Go.Value.pointer (Option.some (Go.Addr.mk 1002 3 Option.none)))) ∧
 ((bcase (decide (0 ≤ i))
 (bcase (decide (i < (↑o : Int)))
 ((Go.Value.pointer (Option.some (Go.Addr.mk 502 (0 + Int.toNat i * 1) Option.none))) = (Go.Value.pointer (Option.some (Go.Addr.mk 502 (0 + Int.toNat i * 1) Option.none))))
 False)
 False) ∧
 (((vI i) = (vI i)) ∧
 (((Go.Value.slice (Option.some (Go.Addr.mk 502 0 Option.none)) (o) (cap3)) = (Go.Value.slice (Option.some (Go.Addr.mk 502 0 Option.none)) (o) (cap3))) ∧
 (((Go.Value.pointer (Option.some (Go.Addr.mk 1001 1 Option.none))) = (Go.Value.pointer (Option.some (Go.Addr.mk 1001 1 Option.none)))) ∧
 True))))))))) ∧
 (k [(D.val (vI (2 : Int)))])))))))
 False)
 False))) ∨
 ((Says C 26 [(D.val (vI n8)), (D.val (vI n6)), (D.val (vI n7))] [(D.val (Value.bool false))]) ∧
 ((((Value.bool true) = (Value.bool true)) ∧
 (((Go.Value.pointer (Option.some (Go.Addr.mk 1002 6 Option.none))) = (Go.Value.pointer (Option.some (Go.Addr.mk 1002 6 Option.none)))) ∧
 (((Go.Value.pointer (Option.some (Go.Addr.mk 1002 5 Option.none))) = (Go.Value.pointer (Option.some (Go.Addr.mk 1002 5 Option.none)))) ∧
 (((Go.Value.pointer (Option.some (Go.Addr.mk 1002 5 Option.none))) = (Go.Value.pointer (Option.some (Go.Addr.mk 1002 5 Option.none)))) ∧
 (((Go.Value.pointer (Option.some (Go.Addr.mk 1002 5 Option.none))) = (Go.Value.pointer (Option.some (Go.Addr.mk 1002 5 Option.none)))) ∧
 ((bcase (decide (0 ≤ i))
 (bcase (decide (i < (↑m : Int)))
 ((Go.Value.pointer (Option.some (Go.Addr.mk 501 (0 + Int.toNat i * 1) Option.none))) = (Go.Value.pointer (Option.some (Go.Addr.mk 501 (0 + Int.toNat i * 1) Option.none))))
 False)
 False) ∧
 (((vI i) = (vI i)) ∧
 (((Go.Value.slice (Option.some (Go.Addr.mk 501 0 Option.none)) (m) (cap2)) = (Go.Value.slice (Option.some (Go.Addr.mk 501 0 Option.none)) (m) (cap2))) ∧
 (((Go.Value.pointer (Option.some (Go.Addr.mk 1001 0 Option.none))) = (Go.Value.pointer (Option.some (Go.Addr.mk 1001 0 Option.none)))) ∧
 True))))))))) ∧
 (k [(D.val (vI (22 : Int)))])))))))
 False)
 False)))))))))
 False)
 False)
 (X 0 [] [])) := by kernel_rfl
def nMv (C : Ct) (L : AtLoop) (k : List D → Prop) : Prop := wpNext Try.prog (hB C) L 14 0 .normal [] [] (dataK k)
theorem nMv_text (C : Ct) (L : AtLoop) (k : List D → Prop) : nMv C L k =
 (k [(D.val (vI (0 : Int)))]) := by kernel_rfl
def gCpC (C : Ct) (L : AtLoop) (n cap : Nat) (l : List Value) (k : List D → Prop) : Prop := wpFn Try.prog (hE C) L 0 10 #[.agg #[S500 n cap]] (heapOf [L500 l]) (dataK k)
theorem gCpC_text (C : Ct) (L : AtLoop) (n : Nat) (cap : Nat) (l : List Go.Value) (k : List D → Prop) : gCpC C L n cap l k =
 (bcase (decide (0 + n * 7 ≤ List.length l))
 (bcase (n == 0)
 (((0 = 0) ∧
 (0 = 0)) ∧
 (k [(D.agg [(D.sl 0 7 [])])]))
 (bcase (decide (0 < 0 + n))
 (bcase (decide ((2 * (0 + n) + 768) * 56 ≤ 281474976710656))
 (bcase (decide (0 + n ≤ 1099511627776))
 ((((0 + n) = (0 + n)) ∧
 ((List.length (List.take 0 (List.drop 0 []) ++ List.take (n * 7) (List.drop 0 l))) = ((0 + n) * 7))) ∧
 (k [(D.agg [(D.sl (0 + n) 7 ([] ++ (List.take (n * 7) (List.drop 0 l))))])]))
 False)
 False)
 False))
 False) := by kernel_rfl
def gCpCn (C : Ct) (L : AtLoop) (k : List D → Prop) : Prop := wpFn Try.prog (hE C) L 0 10 #[.agg #[nilS]] (heapOf []) (dataK k)
theorem gCpCn_text (C : Ct) (L : AtLoop) (k : List D → Prop) : gCpCn C L k =
 (((0 = 0) ∧
 (0 = 0)) ∧
 (k [(D.agg [(D.sl 0 7 [])])])) := by kernel_rfl
def gSm (C : Ct) (L : AtLoop) (n cap : Nat) (l : List Value) (k : List D → Prop) : Prop := wpFn Try.prog (hE C) L 0 8 #[.agg #[S500 n cap]] (heapOf [L500 l]) (dataK k)
theorem gSm_text (C : Ct) (L : AtLoop) (n : Nat) (cap : Nat) (l : List Go.Value) (k : List D → Prop) : gSm C L n cap l k =
 (bcase (decide ((↑n : Int) ≤ 7))
 (k [(D.val (Value.bool true))])
 (k [(D.val (Value.bool false))])) := by kernel_rfl
def gSmn (C : Ct) (L : AtLoop) (k : List D → Prop) : Prop := wpFn Try.prog (hE C) L 0 8 #[.agg #[nilS]] (heapOf []) (dataK k)
theorem gSmn_text (C : Ct) (L : AtLoop) (k : List D → Prop) : gSmn C L k =
 (k [(D.val (Value.bool true))]) := by kernel_rfl
def gR9n (C : Ct) (L : AtLoop) (k : List D → Prop) : Prop := wpFn Try.prog (hB C) L 0 13 #[.agg #[nilS]] (heapOf []) (dataK k)
theorem gR9n_text (C : Ct) (L : AtLoop) (k : List D → Prop) : gR9n C L k =
 (k [(D.val (vI (0 : Int))), (D.val (vI (10 : Int)))]) := by kernel_rfl
def gMvsn (C : Ct) (L : AtLoop) (n cap : Nat) (l : List Value) (m cap2 : Nat) (l2 : List Value) (k : List D → Prop) : Prop := wpFn Try.prog (hB C) L 0 14 #[.agg #[.slice (some ⟨500, 0, none⟩) n cap], .agg #[.slice (some ⟨501, 0, none⟩) m cap2, nilS]] (heapOf [(500, .sym l false 7), (501, .sym l2 false 1)]) (dataK k)
theorem gMvsn_text (C : Ct) (L : AtLoop) (n : Nat) (cap : Nat) (l : List Go.Value) (m : Nat) (cap2 : Nat) (l2 : List Go.Value) (k : List D → Prop) : gMvsn C L n cap l m cap2 l2 k =
 (bcase ((↑m : Int) != (↑n : Int))
 (k [(D.val (vI (10 : Int)))])
 (bcase ((↑0 : Int) != (↑n : Int))
 (k [(D.val (vI (10 : Int)))])
 (L 0 [(Prod.mk 2 (Go.Value.pointer (Option.some (Go.Addr.mk 1000 0 Option.none)))), (Prod.mk 3 (Go.Value.pointer (Option.some (Go.Addr.mk 1001 0 Option.none)))), (Prod.mk 5 (vI (0 : Int)))] [(Prod.mk 1000 (AObj.cells [(Go.Value.slice (Option.some (Go.Addr.mk 500 0 Option.none)) (n) (cap))] 24 false 1)), (Prod.mk 1001 (AObj.cells [(Go.Value.slice (Option.some (Go.Addr.mk 501 0 Option.none)) (m) (cap2)), (Go.Value.slice Option.none 0 0)] 27 false 1)), (Prod.mk 500 (AObj.sym (l) false 7)), (Prod.mk 501 (AObj.sym (l2) false 1))]))) := by kernel_rfl
def gMvns (C : Ct) (L : AtLoop) (n cap : Nat) (l : List Value) (o cap3 : Nat) (l3 : List Value) (k : List D → Prop) : Prop := wpFn Try.prog (hB C) L 0 14 #[.agg #[.slice (some ⟨500, 0, none⟩) n cap], .agg #[nilS, .slice (some ⟨501, 0, none⟩) o cap3]] (heapOf [(500, .sym l false 7), (501, .sym l3 false 1)]) (dataK k)
theorem gMvns_text (C : Ct) (L : AtLoop) (n : Nat) (cap : Nat) (l : List Go.Value) (o : Nat) (cap3 : Nat) (l3 : List Go.Value) (k : List D → Prop) : gMvns C L n cap l o cap3 l3 k =
 (bcase ((↑0 : Int) != (↑n : Int))
 (k [(D.val (vI (10 : Int)))])
 (bcase ((↑o : Int) != (↑n : Int))
 (k [(D.val (vI (10 : Int)))])
 (L 0 [(Prod.mk 2 (Go.Value.pointer (Option.some (Go.Addr.mk 1000 0 Option.none)))), (Prod.mk 3 (Go.Value.pointer (Option.some (Go.Addr.mk 1001 0 Option.none)))), (Prod.mk 5 (vI (0 : Int)))] [(Prod.mk 1000 (AObj.cells [(Go.Value.slice (Option.some (Go.Addr.mk 500 0 Option.none)) (n) (cap))] 24 false 1)), (Prod.mk 1001 (AObj.cells [(Go.Value.slice Option.none 0 0), (Go.Value.slice (Option.some (Go.Addr.mk 501 0 Option.none)) (o) (cap3))] 27 false 1)), (Prod.mk 500 (AObj.sym (l) false 7)), (Prod.mk 501 (AObj.sym (l3) false 1))]))) := by kernel_rfl
def gMvnn (C : Ct) (L : AtLoop) (n cap : Nat) (l : List Value) (k : List D → Prop) : Prop := wpFn Try.prog (hB C) L 0 14 #[.agg #[.slice (some ⟨500, 0, none⟩) n cap], .agg #[nilS, nilS]] (heapOf [(500, .sym l false 7)]) (dataK k)
theorem gMvnn_text (C : Ct) (L : AtLoop) (n : Nat) (cap : Nat) (l : List Go.Value) (k : List D → Prop) : gMvnn C L n cap l k =
 (bcase ((↑0 : Int) != (↑n : Int))
 (k [(D.val (vI (10 : Int)))])
 (bcase ((↑0 : Int) != (↑n : Int))
 (k [(D.val (vI (10 : Int)))])
 (L 0 [(Prod.mk 2 (Go.Value.pointer (Option.some (Go.Addr.mk 1000 0 Option.none)))), (Prod.mk 3 (Go.Value.pointer (Option.some (Go.Addr.mk 1001 0 Option.none)))), (Prod.mk 5 (vI (0 : Int)))] [(Prod.mk 1000 (AObj.cells [(Go.Value.slice (Option.some (Go.Addr.mk 500 0 Option.none)) (n) (cap))] 24 false 1)), (Prod.mk 1001 (AObj.cells [(Go.Value.slice Option.none 0 0), (Go.Value.slice Option.none 0 0)] 27 false 1)), (Prod.mk 500 (AObj.sym (l) false 7))]))) := by kernel_rfl
def gLwssn (C : Ct) (L : AtLoop) (n cap : Nat) (l : List Value) (m cap2 : Nat) (l2 : List Value) (k : List D → Prop) : Prop := wpFn Try.prog (hB C) L 0 3 #[.agg #[.slice (some ⟨500, 0, none⟩) n cap], .agg #[.slice (some ⟨501, 0, none⟩) m cap2, nilS]] (heapOf [(500, .sym l false 7), (501, .sym l2 false 1)]) (dataK k)
theorem gLwssn_text (C : Ct) (L : AtLoop) (n : Nat) (cap : Nat) (l : List Go.Value) (m : Nat) (cap2 : Nat) (l2 : List Go.Value) (k : List D → Prop) : gLwssn C L n cap l m cap2 l2 k =
 (((Says C 7 [] [(D.val (Value.bool true))]) ∧
 (bcase (decide (0 + n * 7 ≤ List.length l))
 (((Says C 8 [(D.agg [(D.sl (n) 7 (List.take (n * 7) (List.drop 0 l)))])] [(D.val (Value.bool true))]) ∧
 (bcase (decide ((↑m : Int) > 7))
 (k [(D.val (Value.bool true))])
 (bcase (decide (0 + n * 7 ≤ List.length l))
 ((Says C 10 [(D.agg [(D.sl (n) 7 (List.take (n * 7) (List.drop 0 l)))])] [(D.agg [(D.sl (n) 7 (List.take (n * 7) (List.drop 0 l)))])]) ∧
 (bcase (decide (0 + n * 7 ≤ List.length (List.take (n * 7) (List.drop 0 l))))
 (∃ n1 : Int,
 (∃ n2 : Int,
 ((Says C 9 [(D.agg [(D.sl (n) 7 (List.take (n * 7) (List.drop 0 (List.take (n * 7) (List.drop 0 l)))))])] [(D.val (vI n1)), (D.val (vI n2))]) ∧
 ((((Go.Value.agg [(Go.Value.slice (Option.some (Go.Addr.mk 501 0 Option.none)) (m) (cap2)), (Go.Value.slice Option.none 0 0)].toArray) = (Go.Value.agg [(Go.Value.slice (Option.some (Go.Addr.mk 501 0 Option.none)) (m) (cap2)), (Go.Value.slice Option.none 0 0)].toArray)) ∧
 (((Go.Value.agg [(Go.Value.slice (Option.some (Go.Addr.mk 500 0 Option.none)) (n) (cap))].toArray) = (Go.Value.agg [(Go.Value.slice (Option.some (Go.Addr.mk 500 0 Option.none)) (n) (cap))].toArray)) ∧
 True)) ∧
 (bcase (decide (0 + n * 7 ≤ List.length l))
 ((Says C 10 [(D.agg [(D.sl (n) 7 (List.take (n * 7) (List.drop 0 l)))])] [(D.agg [(D.sl (n) 7 (List.take (n * 7) (List.drop 0 l)))])]) ∧
 ((((Go.Value.agg [(Go.Value.slice (Option.some (Go.Addr.mk 501 0 Option.none)) (m) (cap2)), (Go.Value.slice Option.none 0 0)].toArray) = (Go.Value.agg [(Go.Value.slice (Option.some (Go.Addr.mk 501 0 Option.none)) (m) (cap2)), (Go.Value.slice Option.none 0 0)].toArray)) ∧
 True) ∧
 ((((Go.Value.slice Option.none 0 0) = (Go.Value.slice Option.none 0 0)) ∧
 (((Go.Value.pointer (Option.some (Go.Addr.mk 1004 1 Option.none))) = (Go.Value.pointer (Option.some (Go.Addr.mk 1004 1 Option.none)))) ∧
 (((Go.Value.slice (Option.some (Go.Addr.mk 501 0 Option.none)) (m) (cap2)) = (Go.Value.slice (Option.some (Go.Addr.mk 501 0 Option.none)) (m) (cap2))) ∧
 (((Go.Value.pointer (Option.some (Go.Addr.mk 1004 0 Option.none))) = (Go.Value.pointer (Option.some (Go.Addr.mk 1004 0 Option.none)))) ∧
 True)))) ∧
 (bcase (decide (0 + m * 1 ≤ List.length l2))
 ((Says C 20 [(D.sl (m) 1 (List.take (m * 1) (List.drop 0 l2)))] [(D.sl (m) 1 (List.take (m * 1) (List.drop 0 l2)))]) ∧
 ((((Go.Value.slice Option.none 0 0) = (Go.Value.slice Option.none 0 0)) ∧
 (((Go.Value.pointer (Option.some (Go.Addr.mk 1004 1 Option.none))) = (Go.Value.pointer (Option.some (Go.Addr.mk 1004 1 Option.none)))) ∧
 (((Go.Value.pointer (Option.some (Go.Addr.mk 1004 0 Option.none))) = (Go.Value.pointer (Option.some (Go.Addr.mk 1004 0 Option.none)))) ∧
 True))) ∧
 ((Says C 20 [D.nil] [(D.sl 0 1 [])]) ∧
 ((((Go.Value.agg [(Go.Value.slice (Option.some (Go.Addr.mk 1006 0 Option.none)) (m) (m)), (Go.Value.slice (Option.some (Go.Addr.mk 1007 0 Option.none)) 0 0)].toArray) = (Go.Value.agg [(Go.Value.slice (Option.some (Go.Addr.mk 1006 0 Option.none)) (m) (m)), (Go.Value.slice (Option.some (Go.Addr.mk 1007 0 Option.none)) 0 0)].toArray)) ∧
 (((Go.Value.pointer (Option.some (Go.Addr.mk 1004 1 Option.none))) = (Go.Value.pointer (Option.some (Go.Addr.mk 1004 1 Option.none)))) ∧
 (((Go.Value.pointer (Option.some (Go.Addr.mk 1004 0 Option.none))) = (Go.Value.pointer (Option.some (Go.Addr.mk 1004 0 Option.none)))) ∧
 True))) ∧
 (True ∧
 (True ∧
 (bcase (decide (0 + n * 7 ≤ List.length (List.take (n * 7) (List.drop 0 l))))
 (bcase (decide (0 + m * 1 ≤ List.length (List.take (m * 1) (List.drop 0 l2))))
 ((∃ n3 : Int,
 ((Says C 11 [(D.agg [(D.sl (n) 7 (List.take (n * 7) (List.drop 0 (List.take (n * 7) (List.drop 0 l)))))]), (D.agg [(D.sl (m) 1 (List.take (m * 1) (List.drop 0 (List.take (m * 1) (List.drop 0 l2))))), (D.sl 0 1 [])])] [D.nil, (D.val (vI n3))]) ∧
 ((((vI n3) = (vI n3)) ∧
 (((Go.Value.slice Option.none 0 0) = (Go.Value.slice Option.none 0 0)) ∧
 (((Go.Value.tuple [(Go.Value.slice Option.none 0 0), (vI n3)].toArray) = (Go.Value.tuple [(Go.Value.slice Option.none 0 0), (vI n3)].toArray)) ∧
 True))) ∧
 ((((vI n3) = (vI n3)) ∧
 True) ∧
 (True ∧
 (bcase (decide (0 + n * 7 ≤ List.length l))
 (∃ n4 : Int,
 (∃ n5 : Int,
 ((Says C 13 [(D.agg [(D.sl (n) 7 (List.take (n * 7) (List.drop 0 l)))])] [(D.val (vI n4)), (D.val (vI n5))]) ∧
 (bcase (n2 != n5)
 (k [(D.val (Value.bool false))])
 (bcase (n1 != n4)
 (k [(D.val (Value.bool false))])
 (bcase (n5 == 0)
 (bcase (decide (0 + n * 7 ≤ List.length l))
 (bcase (decide (0 + m * 1 ≤ List.length l2))
 (∃ n6 : Int,
 ((Says C 14 [(D.agg [(D.sl (n) 7 (List.take (n * 7) (List.drop 0 l)))]), (D.agg [(D.sl (m) 1 (List.take (m * 1) (List.drop 0 l2))), D.nil])] [(D.val (vI n6))]) ∧
 (bcase (n6 != 0)
 (bcase (n3 == n6)
 (k [(D.val (Value.bool true))])
 (k [(D.val (Value.bool false))]))
 (bcase (n3 == 0)
 (bcase (decide (0 + n * 7 ≤ List.length l))
 (bcase (decide (0 + m * 1 ≤ List.length l2))
 (((Says C 16 [(D.agg [(D.sl (n) 7 (List.take (n * 7) (List.drop 0 l)))]), (D.sl (m) 1 (List.take (m * 1) (List.drop 0 l2))), D.nil] [D.nil]) ∧
 (((Says C 15 [D.nil, D.nil] [(D.val (Value.bool true))]) ∧
 (k [(D.val (Value.bool true))])) ∨
 ((Says C 15 [D.nil, D.nil] [(D.val (Value.bool false))]) ∧
 (k [(D.val (Value.bool false))])))) ∨
 (∃ n7 : Nat,
 (∃ cs1 : List Go.Value,
 ((Says C 16 [(D.agg [(D.sl (n) 7 (List.take (n * 7) (List.drop 0 l)))]), (D.sl (m) 1 (List.take (m * 1) (List.drop 0 l2))), D.nil] [(D.sl (n7) 1 (cs1))]) ∧
 (bcase (decide (0 + n7 * 1 ≤ List.length cs1))
 (((Says C 15 [D.nil, (D.sl (n7) 1 (List.take (n7 * 1) (List.drop 0 cs1)))] [(D.val (Value.bool true))]) ∧
 (k [(D.val (Value.bool true))])) ∨
 ((Says C 15 [D.nil, (D.sl (n7) 1 (List.take (n7 * 1) (List.drop 0 cs1)))] [(D.val (Value.bool false))]) ∧
 (k [(D.val (Value.bool false))])))
 False)))))
 False)
 False)
 (k [(D.val (Value.bool false))])))))
 False)
 False)
 (bcase (n5 != 0)
 (bcase (n3 == n5)
 (k [(D.val (Value.bool true))])
 (k [(D.val (Value.bool false))]))
 (bcase (n3 == 0)
 (bcase (decide (0 + n * 7 ≤ List.length l))
 (bcase (decide (0 + m * 1 ≤ List.length l2))
 (((Says C 16 [(D.agg [(D.sl (n) 7 (List.take (n * 7) (List.drop 0 l)))]), (D.sl (m) 1 (List.take (m * 1) (List.drop 0 l2))), D.nil] [D.nil]) ∧
 (((Says C 15 [D.nil, D.nil] [(D.val (Value.bool true))]) ∧
 (k [(D.val (Value.bool true))])) ∨
 ((Says C 15 [D.nil, D.nil] [(D.val (Value.bool false))]) ∧
 (k [(D.val (Value.bool false))])))) ∨
 (∃ n6 : Nat,
 (∃ cs1 : List Go.Value,
 ((Says C 16 [(D.agg [(D.sl (n) 7 (List.take (n * 7) (List.drop 0 l)))]), (D.sl (m) 1 (List.take (m * 1) (List.drop 0 l2))), D.nil] [(D.sl (n6) 1 (cs1))]) ∧
 (bcase (decide (0 + n6 * 1 ≤ List.length cs1))
 (((Says C 15 [D.nil, (D.sl (n6) 1 (List.take (n6 * 1) (List.drop 0 cs1)))] [(D.val (Value.bool true))]) ∧
 (k [(D.val (Value.bool true))])) ∨
 ((Says C 15 [D.nil, (D.sl (n6) 1 (List.take (n6 * 1) (List.drop 0 cs1)))] [(D.val (Value.bool false))]) ∧
 (k [(D.val (Value.bool false))])))
 False)))))
 False)
 False)
 (k [(D.val (Value.bool false))])))))))))
 False)))))) ∨
 (∃ n3 : Nat,
 (∃ cs1 : List Go.Value,
 (∃ n4 : Int,
 ((Says C 11 [(D.agg [(D.sl (n) 7 (List.take (n * 7) (List.drop 0 (List.take (n * 7) (List.drop 0 l)))))]), (D.agg [(D.sl (m) 1 (List.take (m * 1) (List.drop 0 (List.take (m * 1) (List.drop 0 l2))))), (D.sl 0 1 [])])] [(D.sl (n3) 1 (cs1)), (D.val (vI n4))]) ∧
 ((((vI n4) = (vI n4)) ∧
 (((Go.Value.slice (Option.some (Go.Addr.mk 1008 0 Option.none)) (n3) (n3)) = (Go.Value.slice (Option.some (Go.Addr.mk 1008 0 Option.none)) (n3) (n3))) ∧
 (((Go.Value.tuple [(Go.Value.slice (Option.some (Go.Addr.mk 1008 0 Option.none)) (n3) (n3)), (vI n4)].toArray) = (Go.Value.tuple [(Go.Value.slice (Option.some (Go.Addr.mk 1008 0 Option.none)) (n3) (n3)), (vI n4)].toArray)) ∧
 True))) ∧
 ((((vI n4) = (vI n4)) ∧
 True) ∧
 (True ∧
 (bcase (decide (0 + n * 7 ≤ List.length l))
 (∃ n5 : Int,
 (∃ n6 : Int,
 ((Says C 13 [(D.agg [(D.sl (n) 7 (List.take (n * 7) (List.drop 0 l)))])] [(D.val (vI n5)), (D.val (vI n6))]) ∧
 (bcase (n2 != n6)
 (k [(D.val (Value.bool false))])
 (bcase (n1 != n5)
 (k [(D.val (Value.bool false))])
 (bcase (n6 == 0)
 (bcase (decide (0 + n * 7 ≤ List.length l))
 (bcase (decide (0 + m * 1 ≤ List.length l2))
 (∃ n7 : Int,
 ((Says C 14 [(D.agg [(D.sl (n) 7 (List.take (n * 7) (List.drop 0 l)))]), (D.agg [(D.sl (m) 1 (List.take (m * 1) (List.drop 0 l2))), D.nil])] [(D.val (vI n7))]) ∧
 (bcase (n7 != 0)
 (bcase (n4 == n7)
 (bcase ((↑n3 : Int) == 0)
 (k [(D.val (Value.bool true))])
 (k [(D.val (Value.bool false))]))
 (k [(D.val (Value.bool false))]))
 (bcase (n4 == 0)
 (bcase (decide (0 + n * 7 ≤ List.length l))
 (bcase (decide (0 + m * 1 ≤ List.length l2))
 (((Says C 16 [(D.agg [(D.sl (n) 7 (List.take (n * 7) (List.drop 0 l)))]), (D.sl (m) 1 (List.take (m * 1) (List.drop 0 l2))), D.nil] [D.nil]) ∧
 (bcase (decide (0 + n3 * 1 ≤ List.length cs1))
 (((Says C 15 [(D.sl (n3) 1 (List.take (n3 * 1) (List.drop 0 cs1))), D.nil] [(D.val (Value.bool true))]) ∧
 (k [(D.val (Value.bool true))])) ∨
 ((Says C 15 [(D.sl (n3) 1 (List.take (n3 * 1) (List.drop 0 cs1))), D.nil] [(D.val (Value.bool false))]) ∧
 (k [(D.val (Value.bool false))])))
 False)) ∨
 (∃ n8 : Nat,
 (∃ cs2 : List Go.Value,
 ((Says C 16 [(D.agg [(D.sl (n) 7 (List.take (n * 7) (List.drop 0 l)))]), (D.sl (m) 1 (List.take (m * 1) (List.drop 0 l2))), D.nil] [(D.sl (n8) 1 (cs2))]) ∧
 (bcase (decide (0 + n3 * 1 ≤ List.length cs1))
 (bcase (decide (0 + n8 * 1 ≤ List.length cs2))
 (((Says C 15 [(D.sl (n3) 1 (List.take (n3 * 1) (List.drop 0 cs1))), (D.sl (n8) 1 (List.take (n8 * 1) (List.drop 0 cs2)))] [(D.val (Value.bool true))]) ∧
 (k [(D.val (Value.bool true))])) ∨
 ((Says C 15 [(D.sl (n3) 1 (List.take (n3 * 1) (List.drop 0 cs1))), (D.sl (n8) 1 (List.take (n8 * 1) (List.drop 0 cs2)))] [(D.val (Value.bool false))]) ∧
 (k [(D.val (Value.bool false))])))
 False)
 False)))))
 False)
 False)
 (k [(D.val (Value.bool false))])))))
 False)
 False)
 (bcase (n6 != 0)
 (bcase (n4 == n6)
 (bcase ((↑n3 : Int) == 0)
 (k [(D.val (Value.bool true))])
 (k [(D.val (Value.bool false))]))
 (k [(D.val (Value.bool false))]))
 (bcase (n4 == 0)
 (bcase (decide (0 + n * 7 ≤ List.length l))
 (bcase (decide (0 + m * 1 ≤ List.length l2))
 (((Says C 16 [(D.agg [(D.sl (n) 7 (List.take (n * 7) (List.drop 0 l)))]), (D.sl (m) 1 (List.take (m * 1) (List.drop 0 l2))), D.nil] [D.nil]) ∧
 (bcase (decide (0 + n3 * 1 ≤ List.length cs1))
 (((Says C 15 [(D.sl (n3) 1 (List.take (n3 * 1) (List.drop 0 cs1))), D.nil] [(D.val (Value.bool true))]) ∧
 (k [(D.val (Value.bool true))])) ∨
 ((Says C 15 [(D.sl (n3) 1 (List.take (n3 * 1) (List.drop 0 cs1))), D.nil] [(D.val (Value.bool false))]) ∧
 (k [(D.val (Value.bool false))])))
 False)) ∨
 (∃ n7 : Nat,
 (∃ cs2 : List Go.Value,
 ((Says C 16 [(D.agg [(D.sl (n) 7 (List.take (n * 7) (List.drop 0 l)))]), (D.sl (m) 1 (List.take (m * 1) (List.drop 0 l2))), D.nil] [(D.sl (n7) 1 (cs2))]) ∧
 (bcase (decide (0 + n3 * 1 ≤ List.length cs1))
 (bcase (decide (0 + n7 * 1 ≤ List.length cs2))
 (((Says C 15 [(D.sl (n3) 1 (List.take (n3 * 1) (List.drop 0 cs1))), (D.sl (n7) 1 (List.take (n7 * 1) (List.drop 0 cs2)))] [(D.val (Value.bool true))]) ∧
 (k [(D.val (Value.bool true))])) ∨
 ((Says C 15 [(D.sl (n3) 1 (List.take (n3 * 1) (List.drop 0 cs1))), (D.sl (n7) 1 (List.take (n7 * 1) (List.drop 0 cs2)))] [(D.val (Value.bool false))]) ∧
 (k [(D.val (Value.bool false))])))
 False)
 False)))))
 False)
 False)
 (k [(D.val (Value.bool false))])))))))))
 False)))))))))
 False)
 False)))))))
 False))))
 False)))))
 False))
 False))) ∨
 ((Says C 8 [(D.agg [(D.sl (n) 7 (List.take (n * 7) (List.drop 0 l)))])] [(D.val (Value.bool false))]) ∧
 (k [(D.val (Value.bool true))])))
 False)) ∨
 ((Says C 7 [] [(D.val (Value.bool false))]) ∧
 (k [(D.val (Value.bool false))]))) := by kernel_rfl
def gLwsns (C : Ct) (L : AtLoop) (n cap : Nat) (l : List Value) (o cap3 : Nat) (l3 : List Value) (k : List D → Prop) : Prop := wpFn Try.prog (hB C) L 0 3 #[.agg #[.slice (some ⟨500, 0, none⟩) n cap], .agg #[nilS, .slice (some ⟨501, 0, none⟩) o cap3]] (heapOf [(500, .sym l false 7), (501, .sym l3 false 1)]) (dataK k)
theorem gLwsns_text (C : Ct) (L : AtLoop) (n : Nat) (cap : Nat) (l : List Go.Value) (o : Nat) (cap3 : Nat) (l3 : List Go.Value) (k : List D → Prop) : gLwsns C L n cap l o cap3 l3 k =
 (((Says C 7 [] [(D.val (Value.bool true))]) ∧
 (bcase (decide (0 + n * 7 ≤ List.length l))
 (((Says C 8 [(D.agg [(D.sl (n) 7 (List.take (n * 7) (List.drop 0 l)))])] [(D.val (Value.bool true))]) ∧
 (bcase (decide ((↑o : Int) > 7))
 (k [(D.val (Value.bool true))])
 (bcase (decide (0 + n * 7 ≤ List.length l))
 ((Says C 10 [(D.agg [(D.sl (n) 7 (List.take (n * 7) (List.drop 0 l)))])] [(D.agg [(D.sl (n) 7 (List.take (n * 7) (List.drop 0 l)))])]) ∧
 (bcase (decide (0 + n * 7 ≤ List.length (List.take (n * 7) (List.drop 0 l))))
 (∃ n1 : Int,
 (∃ n2 : Int,
 ((Says C 9 [(D.agg [(D.sl (n) 7 (List.take (n * 7) (List.drop 0 (List.take (n * 7) (List.drop 0 l)))))])] [(D.val (vI n1)), (D.val (vI n2))]) ∧
 ((((Go.Value.agg [(Go.Value.slice Option.none 0 0), (Go.Value.slice (Option.some (Go.Addr.mk 501 0 Option.none)) (o) (cap3))].toArray) = (Go.Value.agg [(Go.Value.slice Option.none 0 0), (Go.Value.slice (Option.some (Go.Addr.mk 501 0 Option.none)) (o) (cap3))].toArray)) ∧
 (((Go.Value.agg [(Go.Value.slice (Option.some (Go.Addr.mk 500 0 Option.none)) (n) (cap))].toArray) = (Go.Value.agg [(Go.Value.slice (Option.some (Go.Addr.mk 500 0 Option.none)) (n) (cap))].toArray)) ∧
 True)) ∧
 (bcase (decide (0 + n * 7 ≤ List.length l))
 ((Says C 10 [(D.agg [(D.sl (n) 7 (List.take (n * 7) (List.drop 0 l)))])] [(D.agg [(D.sl (n) 7 (List.take (n * 7) (List.drop 0 l)))])]) ∧
 ((((Go.Value.agg [(Go.Value.slice Option.none 0 0), (Go.Value.slice (Option.some (Go.Addr.mk 501 0 Option.none)) (o) (cap3))].toArray) = (Go.Value.agg [(Go.Value.slice Option.none 0 0), (Go.Value.slice (Option.some (Go.Addr.mk 501 0 Option.none)) (o) (cap3))].toArray)) ∧
 True) ∧
 ((((Go.Value.slice (Option.some (Go.Addr.mk 501 0 Option.none)) (o) (cap3)) = (Go.Value.slice (Option.some (Go.Addr.mk 501 0 Option.none)) (o) (cap3))) ∧
 (((Go.Value.pointer (Option.some (Go.Addr.mk 1004 1 Option.none))) = (Go.Value.pointer (Option.some (Go.Addr.mk 1004 1 Option.none)))) ∧
 (((Go.Value.slice Option.none 0 0) = (Go.Value.slice Option.none 0 0)) ∧
 (((Go.Value.pointer (Option.some (Go.Addr.mk 1004 0 Option.none))) = (Go.Value.pointer (Option.some (Go.Addr.mk 1004 0 Option.none)))) ∧
 True)))) ∧
 ((Says C 20 [D.nil] [(D.sl 0 1 [])]) ∧
 ((((Go.Value.slice (Option.some (Go.Addr.mk 501 0 Option.none)) (o) (cap3)) = (Go.Value.slice (Option.some (Go.Addr.mk 501 0 Option.none)) (o) (cap3))) ∧
 (((Go.Value.pointer (Option.some (Go.Addr.mk 1004 1 Option.none))) = (Go.Value.pointer (Option.some (Go.Addr.mk 1004 1 Option.none)))) ∧
 (((Go.Value.pointer (Option.some (Go.Addr.mk 1004 0 Option.none))) = (Go.Value.pointer (Option.some (Go.Addr.mk 1004 0 Option.none)))) ∧
 True))) ∧
 (bcase (decide (0 + o * 1 ≤ List.length l3))
 ((Says C 20 [(D.sl (o) 1 (List.take (o * 1) (List.drop 0 l3)))] [(D.sl (o) 1 (List.take (o * 1) (List.drop 0 l3)))]) ∧
 ((((Go.Value.agg [(Go.Value.slice (Option.some (Go.Addr.mk 1006 0 Option.none)) 0 0), (Go.Value.slice (Option.some (Go.Addr.mk 1007 0 Option.none)) (o) (o))].toArray) = (Go.Value.agg [(Go.Value.slice (Option.some (Go.Addr.mk 1006 0 Option.none)) 0 0), (Go.Value.slice (Option.some (Go.Addr.mk 1007 0 Option.none)) (o) (o))].toArray)) ∧
 (((Go.Value.pointer (Option.some (Go.Addr.mk 1004 1 Option.none))) = (Go.Value.pointer (Option.some (Go.Addr.mk 1004 1 Option.none)))) ∧
 (((Go.Value.pointer (Option.some (Go.Addr.mk 1004 0 Option.none))) = (Go.Value.pointer (Option.some (Go.Addr.mk 1004 0 Option.none)))) ∧
 True))) ∧
 (True ∧
 (True ∧
 (bcase (decide (0 + n * 7 ≤ List.length (List.take (n * 7) (List.drop 0 l))))
 (bcase (decide (0 + o * 1 ≤ List.length (List.take (o * 1) (List.drop 0 l3))))
 ((∃ n3 : Int,
 ((Says C 11 [(D.agg [(D.sl (n) 7 (List.take (n * 7) (List.drop 0 (List.take (n * 7) (List.drop 0 l)))))]), (D.agg [(D.sl 0 1 []), (D.sl (o) 1 (List.take (o * 1) (List.drop 0 (List.take (o * 1) (List.drop 0 l3)))))])] [D.nil, (D.val (vI n3))]) ∧
 ((((vI n3) = (vI n3)) ∧
 (((Go.Value.slice Option.none 0 0) = (Go.Value.slice Option.none 0 0)) ∧
 (((Go.Value.tuple [(Go.Value.slice Option.none 0 0), (vI n3)].toArray) = (Go.Value.tuple [(Go.Value.slice Option.none 0 0), (vI n3)].toArray)) ∧
 True))) ∧
 ((((vI n3) = (vI n3)) ∧
 True) ∧
 (True ∧
 (bcase (decide (0 + n * 7 ≤ List.length l))
 (∃ n4 : Int,
 (∃ n5 : Int,
 ((Says C 13 [(D.agg [(D.sl (n) 7 (List.take (n * 7) (List.drop 0 l)))])] [(D.val (vI n4)), (D.val (vI n5))]) ∧
 (bcase (n2 != n5)
 (k [(D.val (Value.bool false))])
 (bcase (n1 != n4)
 (k [(D.val (Value.bool false))])
 (bcase (n5 == 0)
 (bcase (decide (0 + n * 7 ≤ List.length l))
 (bcase (decide (0 + o * 1 ≤ List.length l3))
 (∃ n6 : Int,
 ((Says C 14 [(D.agg [(D.sl (n) 7 (List.take (n * 7) (List.drop 0 l)))]), (D.agg [D.nil, (D.sl (o) 1 (List.take (o * 1) (List.drop 0 l3)))])] [(D.val (vI n6))]) ∧
 (bcase (n6 != 0)
 (bcase (n3 == n6)
 (k [(D.val (Value.bool true))])
 (k [(D.val (Value.bool false))]))
 (bcase (n3 == 0)
 (bcase (decide (0 + n * 7 ≤ List.length l))
 (bcase (decide (0 + o * 1 ≤ List.length l3))
 (((Says C 16 [(D.agg [(D.sl (n) 7 (List.take (n * 7) (List.drop 0 l)))]), D.nil, (D.sl (o) 1 (List.take (o * 1) (List.drop 0 l3)))] [D.nil]) ∧
 (((Says C 15 [D.nil, D.nil] [(D.val (Value.bool true))]) ∧
 (k [(D.val (Value.bool true))])) ∨
 ((Says C 15 [D.nil, D.nil] [(D.val (Value.bool false))]) ∧
 (k [(D.val (Value.bool false))])))) ∨
 (∃ n7 : Nat,
 (∃ cs1 : List Go.Value,
 ((Says C 16 [(D.agg [(D.sl (n) 7 (List.take (n * 7) (List.drop 0 l)))]), D.nil, (D.sl (o) 1 (List.take (o * 1) (List.drop 0 l3)))] [(D.sl (n7) 1 (cs1))]) ∧
 (bcase (decide (0 + n7 * 1 ≤ List.length cs1))
 (((Says C 15 [D.nil, (D.sl (n7) 1 (List.take (n7 * 1) (List.drop 0 cs1)))] [(D.val (Value.bool true))]) ∧
 (k [(D.val (Value.bool true))])) ∨
 ((Says C 15 [D.nil, (D.sl (n7) 1 (List.take (n7 * 1) (List.drop 0 cs1)))] [(D.val (Value.bool false))]) ∧
 (k [(D.val (Value.bool false))])))
 False)))))
 False)
 False)
 (k [(D.val (Value.bool false))])))))
 False)
 False)
 (bcase (n5 != 0)
 (bcase (n3 == n5)
 (k [(D.val (Value.bool true))])
 (k [(D.val (Value.bool false))]))
 (bcase (n3 == 0)
 (bcase (decide (0 + n * 7 ≤ List.length l))
 (bcase (decide (0 + o * 1 ≤ List.length l3))
 (((Says C 16 [(D.agg [(D.sl (n) 7 (List.take (n * 7) (List.drop 0 l)))]), D.nil, (D.sl (o) 1 (List.take (o * 1) (List.drop 0 l3)))] [D.nil]) ∧
 (((Says C 15 [D.nil, D.nil] [(D.val (Value.bool true))]) ∧
 (k [(D.val (Value.bool true))])) ∨
 ((Says C 15 [D.nil, D.nil] [(D.val (Value.bool false))]) ∧
 (k [(D.val (Value.bool false))])))) ∨
 (∃ n6 : Nat,
 (∃ cs1 : List Go.Value,
 ((Says C 16 [(D.agg [(D.sl (n) 7 (List.take (n * 7) (List.drop 0 l)))]), D.nil, (D.sl (o) 1 (List.take (o * 1) (List.drop 0 l3)))] [(D.sl (n6) 1 (cs1))]) ∧
 (bcase (decide (0 + n6 * 1 ≤ List.length cs1))
 (((Says C 15 [D.nil, (D.sl (n6) 1 (List.take (n6 * 1) (List.drop 0 cs1)))] [(D.val (Value.bool true))]) ∧
 (k [(D.val (Value.bool true))])) ∨
 ((Says C 15 [D.nil, (D.sl (n6) 1 (List.take (n6 * 1) (List.drop 0 cs1)))] [(D.val (Value.bool false))]) ∧
 (k [(D.val (Value.bool false))])))
 False)))))
 False)
 False)
 (k [(D.val (Value.bool false))])))))))))
 False)))))) ∨
 (∃ n3 : Nat,
 (∃ cs1 : List Go.Value,
 (∃ n4 : Int,
 ((Says C 11 [(D.agg [(D.sl (n) 7 (List.take (n * 7) (List.drop 0 (List.take (n * 7) (List.drop 0 l)))))]), (D.agg [(D.sl 0 1 []), (D.sl (o) 1 (List.take (o * 1) (List.drop 0 (List.take (o * 1) (List.drop 0 l3)))))])] [(D.sl (n3) 1 (cs1)), (D.val (vI n4))]) ∧
 ((((vI n4) = (vI n4)) ∧
 (((Go.Value.slice (Option.some (Go.Addr.mk 1008 0 Option.none)) (n3) (n3)) = (Go.Value.slice (Option.some (Go.Addr.mk 1008 0 Option.none)) (n3) (n3))) ∧
 (((Go.Value.tuple [(Go.Value.slice (Option.some (Go.Addr.mk 1008 0 Option.none)) (n3) (n3)), (vI n4)].toArray) = (Go.Value.tuple [(Go.Value.slice (Option.some (Go.Addr.mk 1008 0 Option.none)) (n3) (n3)), (vI n4)].toArray)) ∧
 True))) ∧
 ((((vI n4) = (vI n4)) ∧
 True) ∧
 (True ∧
 (bcase (decide (0 + n * 7 ≤ List.length l))
 (∃ n5 : Int,
 (∃ n6 : Int,
 ((Says C 13 [(D.agg [(D.sl (n) 7 (List.take (n * 7) (List.drop 0 l)))])] [(D.val (vI n5)), (D.val (vI n6))]) ∧
 (bcase (n2 != n6)
 (k [(D.val (Value.bool false))])
 (bcase (n1 != n5)
 (k [(D.val (Value.bool false))])
 (bcase (n6 == 0)
 (bcase (decide (0 + n * 7 ≤ List.length l))
 (bcase (decide (0 + o * 1 ≤ List.length l3))
 (∃ n7 : Int,
 ((Says C 14 [(D.agg [(D.sl (n) 7 (List.take (n * 7) (List.drop 0 l)))]), (D.agg [D.nil, (D.sl (o) 1 (List.take (o * 1) (List.drop 0 l3)))])] [(D.val (vI n7))]) ∧
 (bcase (n7 != 0)
 (bcase (n4 == n7)
 (bcase ((↑n3 : Int) == 0)
 (k [(D.val (Value.bool true))])
 (k [(D.val (Value.bool false))]))
 (k [(D.val (Value.bool false))]))
 (bcase (n4 == 0)
 (bcase (decide (0 + n * 7 ≤ List.length l))
 (bcase (decide (0 + o * 1 ≤ List.length l3))
 (((Says C 16 [(D.agg [(D.sl (n) 7 (List.take (n * 7) (List.drop 0 l)))]), D.nil, (D.sl (o) 1 (List.take (o * 1) (List.drop 0 l3)))] [D.nil]) ∧
 (bcase (decide (0 + n3 * 1 ≤ List.length cs1))
 (((Says C 15 [(D.sl (n3) 1 (List.take (n3 * 1) (List.drop 0 cs1))), D.nil] [(D.val (Value.bool true))]) ∧
 (k [(D.val (Value.bool true))])) ∨
 ((Says C 15 [(D.sl (n3) 1 (List.take (n3 * 1) (List.drop 0 cs1))), D.nil] [(D.val (Value.bool false))]) ∧
 (k [(D.val (Value.bool false))])))
 False)) ∨
 (∃ n8 : Nat,
 (∃ cs2 : List Go.Value,
 ((Says C 16 [(D.agg [(D.sl (n) 7 (List.take (n * 7) (List.drop 0 l)))]), D.nil, (D.sl (o) 1 (List.take (o * 1) (List.drop 0 l3)))] [(D.sl (n8) 1 (cs2))]) ∧
 (bcase (decide (0 + n3 * 1 ≤ List.length cs1))
 (bcase (decide (0 + n8 * 1 ≤ List.length cs2))
 (((Says C 15 [(D.sl (n3) 1 (List.take (n3 * 1) (List.drop 0 cs1))), (D.sl (n8) 1 (List.take (n8 * 1) (List.drop 0 cs2)))] [(D.val (Value.bool true))]) ∧
 (k [(D.val (Value.bool true))])) ∨
 ((Says C 15 [(D.sl (n3) 1 (List.take (n3 * 1) (List.drop 0 cs1))), (D.sl (n8) 1 (List.take (n8 * 1) (List.drop 0 cs2)))] [(D.val (Value.bool false))]) ∧
 (k [(D.val (Value.bool false))])))
 False)
 False)))))
 False)
 False)
 (k [(D.val (Value.bool false))])))))
 False)
 False)
 (bcase (n6 != 0)
 (bcase (n4 == n6)
 (bcase ((↑n3 : Int) == 0)
 (k [(D.val (Value.bool true))])
 (k [(D.val (Value.bool false))]))
 (k [(D.val (Value.bool false))]))
 (bcase (n4 == 0)
 (bcase (decide (0 + n * 7 ≤ List.length l))
 (bcase (decide (0 + o * 1 ≤ List.length l3))
 (((Says C 16 [(D.agg [(D.sl (n) 7 (List.take (n * 7) (List.drop 0 l)))]), D.nil, (D.sl (o) 1 (List.take (o * 1) (List.drop 0 l3)))] [D.nil]) ∧
 (bcase (decide (0 + n3 * 1 ≤ List.length cs1))
 (((Says C 15 [(D.sl (n3) 1 (List.take (n3 * 1) (List.drop 0 cs1))), D.nil] [(D.val (Value.bool true))]) ∧
 (k [(D.val (Value.bool true))])) ∨
 ((Says C 15 [(D.sl (n3) 1 (List.take (n3 * 1) (List.drop 0 cs1))), D.nil] [(D.val (Value.bool false))]) ∧
 (k [(D.val (Value.bool false))])))
 False)) ∨
 (∃ n7 : Nat,
 (∃ cs2 : List Go.Value,
 ((Says C 16 [(D.agg [(D.sl (n) 7 (List.take (n * 7) (List.drop 0 l)))]), D.nil, (D.sl (o) 1 (List.take (o * 1) (List.drop 0 l3)))] [(D.sl (n7) 1 (cs2))]) ∧
 (bcase (decide (0 + n3 * 1 ≤ List.length cs1))
 (bcase (decide (0 + n7 * 1 ≤ List.length cs2))
 (((Says C 15 [(D.sl (n3) 1 (List.take (n3 * 1) (List.drop 0 cs1))), (D.sl (n7) 1 (List.take (n7 * 1) (List.drop 0 cs2)))] [(D.val (Value.bool true))]) ∧
 (k [(D.val (Value.bool true))])) ∨
 ((Says C 15 [(D.sl (n3) 1 (List.take (n3 * 1) (List.drop 0 cs1))), (D.sl (n7) 1 (List.take (n7 * 1) (List.drop 0 cs2)))] [(D.val (Value.bool false))]) ∧
 (k [(D.val (Value.bool false))])))
 False)
 False)))))
 False)
 False)
 (k [(D.val (Value.bool false))])))))))))
 False)))))))))
 False)
 False)))))
 False))))))
 False)))))
 False))
 False))) ∨
 ((Says C 8 [(D.agg [(D.sl (n) 7 (List.take (n * 7) (List.drop 0 l)))])] [(D.val (Value.bool false))]) ∧
 (k [(D.val (Value.bool true))])))
 False)) ∨
 ((Says C 7 [] [(D.val (Value.bool false))]) ∧
 (k [(D.val (Value.bool false))]))) := by kernel_rfl
def gLwsnn (C : Ct) (L : AtLoop) (n cap : Nat) (l : List Value) (k : List D → Prop) : Prop := wpFn Try.prog (hB C) L 0 3 #[.agg #[.slice (some ⟨500, 0, none⟩) n cap], .agg #[nilS, nilS]] (heapOf [(500, .sym l false 7)]) (dataK k)
theorem gLwsnn_text (C : Ct) (L : AtLoop) (n : Nat) (cap : Nat) (l : List Go.Value) (k : List D → Prop) : gLwsnn C L n cap l k =
 (((Says C 7 [] [(D.val (Value.bool true))]) ∧
 (bcase (decide (0 + n * 7 ≤ List.length l))
 (((Says C 8 [(D.agg [(D.sl (n) 7 (List.take (n * 7) (List.drop 0 l)))])] [(D.val (Value.bool true))]) ∧
 (bcase (decide (0 + n * 7 ≤ List.length l))
 ((Says C 10 [(D.agg [(D.sl (n) 7 (List.take (n * 7) (List.drop 0 l)))])] [(D.agg [(D.sl (n) 7 (List.take (n * 7) (List.drop 0 l)))])]) ∧
 (bcase (decide (0 + n * 7 ≤ List.length (List.take (n * 7) (List.drop 0 l))))
 (∃ n1 : Int,
 (∃ n2 : Int,
 ((Says C 9 [(D.agg [(D.sl (n) 7 (List.take (n * 7) (List.drop 0 (List.take (n * 7) (List.drop 0 l)))))])] [(D.val (vI n1)), (D.val (vI n2))]) ∧
 ((((Go.Value.agg [(Go.Value.slice Option.none 0 0), (Go.Value.slice Option.none 0 0)].toArray) = (Go.Value.agg [(Go.Value.slice Option.none 0 0), (Go.Value.slice Option.none 0 0)].toArray)) ∧
 (((Go.Value.agg [(Go.Value.slice (Option.some (Go.Addr.mk 500 0 Option.none)) (n) (cap))].toArray) = (Go.Value.agg [(Go.Value.slice (Option.some (Go.Addr.mk 500 0 Option.none)) (n) (cap))].toArray)) ∧
 True)) ∧
 (bcase (decide (0 + n * 7 ≤ List.length l))
 ((Says C 10 [(D.agg [(D.sl (n) 7 (List.take (n * 7) (List.drop 0 l)))])] [(D.agg [(D.sl (n) 7 (List.take (n * 7) (List.drop 0 l)))])]) ∧
 ((((Go.Value.agg [(Go.Value.slice Option.none 0 0), (Go.Value.slice Option.none 0 0)].toArray) = (Go.Value.agg [(Go.Value.slice Option.none 0 0), (Go.Value.slice Option.none 0 0)].toArray)) ∧
 True) ∧
 ((((Go.Value.slice Option.none 0 0) = (Go.Value.slice Option.none 0 0)) ∧
 (((Go.Value.pointer (Option.some (Go.Addr.mk 1004 1 Option.none))) = (Go.Value.pointer (Option.some (Go.Addr.mk 1004 1 Option.none)))) ∧
 (((Go.Value.slice Option.none 0 0) = (Go.Value.slice Option.none 0 0)) ∧
 (((Go.Value.pointer (Option.some (Go.Addr.mk 1004 0 Option.none))) = (Go.Value.pointer (Option.some (Go.Addr.mk 1004 0 Option.none)))) ∧
 True)))) ∧
 ((Says C 20 [D.nil] [(D.sl 0 1 [])]) ∧
 ((((Go.Value.slice Option.none 0 0) = (Go.Value.slice Option.none 0 0)) ∧
 (((Go.Value.pointer (Option.some (Go.Addr.mk 1004 1 Option.none))) = (Go.Value.pointer (Option.some (Go.Addr.mk 1004 1 Option.none)))) ∧
 (((Go.Value.pointer (Option.some (Go.Addr.mk 1004 0 Option.none))) = (Go.Value.pointer (Option.some (Go.Addr.mk 1004 0 Option.none)))) ∧
 True))) ∧
 ((Says C 20 [D.nil] [(D.sl 0 1 [])]) ∧
 ((((Go.Value.agg [(Go.Value.slice (Option.some (Go.Addr.mk 1006 0 Option.none)) 0 0), (Go.Value.slice (Option.some (Go.Addr.mk 1007 0 Option.none)) 0 0)].toArray) = (Go.Value.agg [(Go.Value.slice (Option.some (Go.Addr.mk 1006 0 Option.none)) 0 0), (Go.Value.slice (Option.some (Go.Addr.mk 1007 0 Option.none)) 0 0)].toArray)) ∧
 (((Go.Value.pointer (Option.some (Go.Addr.mk 1004 1 Option.none))) = (Go.Value.pointer (Option.some (Go.Addr.mk 1004 1 Option.none)))) ∧
 (((Go.Value.pointer (Option.some (Go.Addr.mk 1004 0 Option.none))) = (Go.Value.pointer (Option.some (Go.Addr.mk 1004 0 Option.none)))) ∧
 True))) ∧
 (True ∧
 (True ∧
 (bcase (decide (0 + n * 7 ≤ List.length (List.take (n * 7) (List.drop 0 l))))
 ((∃ n3 : Int,
 ((Says C 11 [(D.agg [(D.sl (n) 7 (List.take (n * 7) (List.drop 0 (List.take (n * 7) (List.drop 0 l)))))]), (D.agg [(D.sl 0 1 []), (D.sl 0 1 [])])] [D.nil, (D.val (vI n3))]) ∧
 ((((vI n3) = (vI n3)) ∧
 (((Go.Value.slice Option.none 0 0) = (Go.Value.slice Option.none 0 0)) ∧
 (((Go.Value.tuple [(Go.Value.slice Option.none 0 0), (vI n3)].toArray) = (Go.Value.tuple [(Go.Value.slice Option.none 0 0), (vI n3)].toArray)) ∧
 True))) ∧
 ((((vI n3) = (vI n3)) ∧
 True) ∧
 (True ∧
 (bcase (decide (0 + n * 7 ≤ List.length l))
 (∃ n4 : Int,
 (∃ n5 : Int,
 ((Says C 13 [(D.agg [(D.sl (n) 7 (List.take (n * 7) (List.drop 0 l)))])] [(D.val (vI n4)), (D.val (vI n5))]) ∧
 (bcase (n2 != n5)
 (k [(D.val (Value.bool false))])
 (bcase (n1 != n4)
 (k [(D.val (Value.bool false))])
 (bcase (n5 == 0)
 (bcase (decide (0 + n * 7 ≤ List.length l))
 (∃ n6 : Int,
 ((Says C 14 [(D.agg [(D.sl (n) 7 (List.take (n * 7) (List.drop 0 l)))]), (D.agg [D.nil, D.nil])] [(D.val (vI n6))]) ∧
 (bcase (n6 != 0)
 (bcase (n3 == n6)
 (k [(D.val (Value.bool true))])
 (k [(D.val (Value.bool false))]))
 (bcase (n3 == 0)
 (bcase (decide (0 + n * 7 ≤ List.length l))
 (((Says C 16 [(D.agg [(D.sl (n) 7 (List.take (n * 7) (List.drop 0 l)))]), D.nil, D.nil] [D.nil]) ∧
 (((Says C 15 [D.nil, D.nil] [(D.val (Value.bool true))]) ∧
 (k [(D.val (Value.bool true))])) ∨
 ((Says C 15 [D.nil, D.nil] [(D.val (Value.bool false))]) ∧
 (k [(D.val (Value.bool false))])))) ∨
 (∃ n7 : Nat,
 (∃ cs1 : List Go.Value,
 ((Says C 16 [(D.agg [(D.sl (n) 7 (List.take (n * 7) (List.drop 0 l)))]), D.nil, D.nil] [(D.sl (n7) 1 (cs1))]) ∧
 (bcase (decide (0 + n7 * 1 ≤ List.length cs1))
 (((Says C 15 [D.nil, (D.sl (n7) 1 (List.take (n7 * 1) (List.drop 0 cs1)))] [(D.val (Value.bool true))]) ∧
 (k [(D.val (Value.bool true))])) ∨
 ((Says C 15 [D.nil, (D.sl (n7) 1 (List.take (n7 * 1) (List.drop 0 cs1)))] [(D.val (Value.bool false))]) ∧
 (k [(D.val (Value.bool false))])))
 False)))))
 False)
 (k [(D.val (Value.bool false))])))))
 False)
 (bcase (n5 != 0)
 (bcase (n3 == n5)
 (k [(D.val (Value.bool true))])
 (k [(D.val (Value.bool false))]))
 (bcase (n3 == 0)
 (bcase (decide (0 + n * 7 ≤ List.length l))
 (((Says C 16 [(D.agg [(D.sl (n) 7 (List.take (n * 7) (List.drop 0 l)))]), D.nil, D.nil] [D.nil]) ∧
 (((Says C 15 [D.nil, D.nil] [(D.val (Value.bool true))]) ∧
 (k [(D.val (Value.bool true))])) ∨
 ((Says C 15 [D.nil, D.nil] [(D.val (Value.bool false))]) ∧
 (k [(D.val (Value.bool false))])))) ∨
 (∃ n6 : Nat,
 (∃ cs1 : List Go.Value,
 ((Says C 16 [(D.agg [(D.sl (n) 7 (List.take (n * 7) (List.drop 0 l)))]), D.nil, D.nil] [(D.sl (n6) 1 (cs1))]) ∧
 (bcase (decide (0 + n6 * 1 ≤ List.length cs1))
 (((Says C 15 [D.nil, (D.sl (n6) 1 (List.take (n6 * 1) (List.drop 0 cs1)))] [(D.val (Value.bool true))]) ∧
 (k [(D.val (Value.bool true))])) ∨
 ((Says C 15 [D.nil, (D.sl (n6) 1 (List.take (n6 * 1) (List.drop 0 cs1)))] [(D.val (Value.bool false))]) ∧
 (k [(D.val (Value.bool false))])))
 False)))))
 False)
 (k [(D.val (Value.bool false))])))))))))
 False)))))) ∨
 (∃ n3 : Nat,
 (∃ cs1 : List Go.Value,
 (∃ n4 : Int,
 ((Says C 11 [(D.agg [(D.sl (n) 7 (List.take (n * 7) (List.drop 0 (List.take (n * 7) (List.drop 0 l)))))]), (D.agg [(D.sl 0 1 []), (D.sl 0 1 [])])] [(D.sl (n3) 1 (cs1)), (D.val (vI n4))]) ∧
 ((((vI n4) = (vI n4)) ∧
 (((Go.Value.slice (Option.some (Go.Addr.mk 1008 0 Option.none)) (n3) (n3)) = (Go.Value.slice (Option.some (Go.Addr.mk 1008 0 Option.none)) (n3) (n3))) ∧
 (((Go.Value.tuple [(Go.Value.slice (Option.some (Go.Addr.mk 1008 0 Option.none)) (n3) (n3)), (vI n4)].toArray) = (Go.Value.tuple [(Go.Value.slice (Option.some (Go.Addr.mk 1008 0 Option.none)) (n3) (n3)), (vI n4)].toArray)) ∧
 True))) ∧
 ((((vI n4) = (vI n4)) ∧
 True) ∧
 (True ∧
 (bcase (decide (0 + n * 7 ≤ List.length l))
 (∃ n5 : Int,
 (∃ n6 : Int,
 ((Says C 13 [(D.agg [(D.sl (n) 7 (List.take (n * 7) (List.drop 0 l)))])] [(D.val (vI n5)), (D.val (vI n6))]) ∧
 (bcase (n2 != n6)
 (k [(D.val (Value.bool false))])
 (bcase (n1 != n5)
 (k [(D.val (Value.bool false))])
 (bcase (n6 == 0)
 (bcase (decide (0 + n * 7 ≤ List.length l))
 (∃ n7 : Int,
 ((Says C 14 [(D.agg [(D.sl (n) 7 (List.take (n * 7) (List.drop 0 l)))]), (D.agg [D.nil, D.nil])] [(D.val (vI n7))]) ∧
 (bcase (n7 != 0)
 (bcase (n4 == n7)
 (bcase ((↑n3 : Int) == 0)
 (k [(D.val (Value.bool true))])
 (k [(D.val (Value.bool false))]))
 (k [(D.val (Value.bool false))]))
 (bcase (n4 == 0)
 (bcase (decide (0 + n * 7 ≤ List.length l))
 (((Says C 16 [(D.agg [(D.sl (n) 7 (List.take (n * 7) (List.drop 0 l)))]), D.nil, D.nil] [D.nil]) ∧
 (bcase (decide (0 + n3 * 1 ≤ List.length cs1))
 (((Says C 15 [(D.sl (n3) 1 (List.take (n3 * 1) (List.drop 0 cs1))), D.nil] [(D.val (Value.bool true))]) ∧
 (k [(D.val (Value.bool true))])) ∨
 ((Says C 15 [(D.sl (n3) 1 (List.take (n3 * 1) (List.drop 0 cs1))), D.nil] [(D.val (Value.bool false))]) ∧
 (k [(D.val (Value.bool false))])))
 False)) ∨
 (∃ n8 : Nat,
 (∃ cs2 : List Go.Value,
 ((Says C 16 [(D.agg [(D.sl (n) 7 (List.take (n * 7) (List.drop 0 l)))]), D.nil, D.nil] [(D.sl (n8) 1 (cs2))]) ∧
 (bcase (decide (0 + n3 * 1 ≤ List.length cs1))
 (bcase (decide (0 + n8 * 1 ≤ List.length cs2))
 (((Says C 15 [(D.sl (n3) 1 (List.take (n3 * 1) (List.drop 0 cs1))), (D.sl (n8) 1 (List.take (n8 * 1) (List.drop 0 cs2)))] [(D.val (Value.bool true))]) ∧
 (k [(D.val (Value.bool true))])) ∨
 ((Says C 15 [(D.sl (n3) 1 (List.take (n3 * 1) (List.drop 0 cs1))), (D.sl (n8) 1 (List.take (n8 * 1) (List.drop 0 cs2)))] [(D.val (Value.bool false))]) ∧
 (k [(D.val (Value.bool false))])))
 False)
 False)))))
 False)
 (k [(D.val (Value.bool false))])))))
 False)
 (bcase (n6 != 0)
 (bcase (n4 == n6)
 (bcase ((↑n3 : Int) == 0)
 (k [(D.val (Value.bool true))])
 (k [(D.val (Value.bool false))]))
 (k [(D.val (Value.bool false))]))
 (bcase (n4 == 0)
 (bcase (decide (0 + n * 7 ≤ List.length l))
 (((Says C 16 [(D.agg [(D.sl (n) 7 (List.take (n * 7) (List.drop 0 l)))]), D.nil, D.nil] [D.nil]) ∧
 (bcase (decide (0 + n3 * 1 ≤ List.length cs1))
 (((Says C 15 [(D.sl (n3) 1 (List.take (n3 * 1) (List.drop 0 cs1))), D.nil] [(D.val (Value.bool true))]) ∧
 (k [(D.val (Value.bool true))])) ∨
 ((Says C 15 [(D.sl (n3) 1 (List.take (n3 * 1) (List.drop 0 cs1))), D.nil] [(D.val (Value.bool false))]) ∧
 (k [(D.val (Value.bool false))])))
 False)) ∨
 (∃ n7 : Nat,
 (∃ cs2 : List Go.Value,
 ((Says C 16 [(D.agg [(D.sl (n) 7 (List.take (n * 7) (List.drop 0 l)))]), D.nil, D.nil] [(D.sl (n7) 1 (cs2))]) ∧
 (bcase (decide (0 + n3 * 1 ≤ List.length cs1))
 (bcase (decide (0 + n7 * 1 ≤ List.length cs2))
 (((Says C 15 [(D.sl (n3) 1 (List.take (n3 * 1) (List.drop 0 cs1))), (D.sl (n7) 1 (List.take (n7 * 1) (List.drop 0 cs2)))] [(D.val (Value.bool true))]) ∧
 (k [(D.val (Value.bool true))])) ∨
 ((Says C 15 [(D.sl (n3) 1 (List.take (n3 * 1) (List.drop 0 cs1))), (D.sl (n7) 1 (List.take (n7 * 1) (List.drop 0 cs2)))] [(D.val (Value.bool false))]) ∧
 (k [(D.val (Value.bool false))])))
 False)
 False)))))
 False)
 (k [(D.val (Value.bool false))])))))))))
 False)))))))))
 False))))))))))
 False)))))
 False))
 False)) ∨
 ((Says C 8 [(D.agg [(D.sl (n) 7 (List.take (n * 7) (List.drop 0 l)))])] [(D.val (Value.bool false))]) ∧
 (k [(D.val (Value.bool true))])))
 False)) ∨
 ((Says C 7 [] [(D.val (Value.bool false))]) ∧
 (k [(D.val (Value.bool false))]))) := by kernel_rfl
def gLwnss (C : Ct) (L : AtLoop) (m cap2 : Nat) (l2 : List Value) (o cap3 : Nat) (l3 : List Value) (k : List D → Prop) : Prop := wpFn Try.prog (hB C) L 0 3 #[.agg #[nilS], .agg #[.slice (some ⟨500, 0, none⟩) m cap2, .slice (some ⟨501, 0, none⟩) o cap3]] (heapOf [(500, .sym l2 false 1), (501, .sym l3 false 1)]) (dataK k)
theorem gLwnss_text (C : Ct) (L : AtLoop) (m : Nat) (cap2 : Nat) (l2 : List Go.Value) (o : Nat) (cap3 : Nat) (l3 : List Go.Value) (k : List D → Prop) : gLwnss C L m cap2 l2 o cap3 l3 k =
 (((Says C 7 [] [(D.val (Value.bool true))]) ∧
 (((Says C 8 [(D.agg [D.nil])] [(D.val (Value.bool true))]) ∧
 (bcase (decide ((↑m : Int) > 7))
 (k [(D.val (Value.bool true))])
 (bcase (decide ((↑o : Int) > 7))
 (k [(D.val (Value.bool true))])
 ((Says C 10 [(D.agg [D.nil])] [(D.agg [(D.sl 0 7 [])])]) ∧
 (∃ n1 : Int,
 (∃ n2 : Int,
 ((Says C 9 [(D.agg [(D.sl 0 7 [])])] [(D.val (vI n1)), (D.val (vI n2))]) ∧
 ((((Go.Value.agg [(Go.Value.slice (Option.some (Go.Addr.mk 500 0 Option.none)) (m) (cap2)), (Go.Value.slice (Option.some (Go.Addr.mk 501 0 Option.none)) (o) (cap3))].toArray) = (Go.Value.agg [(Go.Value.slice (Option.some (Go.Addr.mk 500 0 Option.none)) (m) (cap2)), (Go.Value.slice (Option.some (Go.Addr.mk 501 0 Option.none)) (o) (cap3))].toArray)) ∧
 (((Go.Value.agg [(Go.Value.slice Option.none 0 0)].toArray) = (Go.Value.agg [(Go.Value.slice Option.none 0 0)].toArray)) ∧
 True)) ∧
 ((Says C 10 [(D.agg [D.nil])] [(D.agg [(D.sl 0 7 [])])]) ∧
 ((((Go.Value.agg [(Go.Value.slice (Option.some (Go.Addr.mk 500 0 Option.none)) (m) (cap2)), (Go.Value.slice (Option.some (Go.Addr.mk 501 0 Option.none)) (o) (cap3))].toArray) = (Go.Value.agg [(Go.Value.slice (Option.some (Go.Addr.mk 500 0 Option.none)) (m) (cap2)), (Go.Value.slice (Option.some (Go.Addr.mk 501 0 Option.none)) (o) (cap3))].toArray)) ∧
 True) ∧
 ((((Go.Value.slice (Option.some (Go.Addr.mk 501 0 Option.none)) (o) (cap3)) = (Go.Value.slice (Option.some (Go.Addr.mk 501 0 Option.none)) (o) (cap3))) ∧
 (((Go.Value.pointer (Option.some (Go.Addr.mk 1004 1 Option.none))) = (Go.Value.pointer (Option.some (Go.Addr.mk 1004 1 Option.none)))) ∧
 (((Go.Value.slice (Option.some (Go.Addr.mk 500 0 Option.none)) (m) (cap2)) = (Go.Value.slice (Option.some (Go.Addr.mk 500 0 Option.none)) (m) (cap2))) ∧
 (((Go.Value.pointer (Option.some (Go.Addr.mk 1004 0 Option.none))) = (Go.Value.pointer (Option.some (Go.Addr.mk 1004 0 Option.none)))) ∧
 True)))) ∧
 (bcase (decide (0 + m * 1 ≤ List.length l2))
 ((Says C 20 [(D.sl (m) 1 (List.take (m * 1) (List.drop 0 l2)))] [(D.sl (m) 1 (List.take (m * 1) (List.drop 0 l2)))]) ∧
 ((((Go.Value.slice (Option.some (Go.Addr.mk 501 0 Option.none)) (o) (cap3)) = (Go.Value.slice (Option.some (Go.Addr.mk 501 0 Option.none)) (o) (cap3))) ∧
 (((Go.Value.pointer (Option.some (Go.Addr.mk 1004 1 Option.none))) = (Go.Value.pointer (Option.some (Go.Addr.mk 1004 1 Option.none)))) ∧
 (((Go.Value.pointer (Option.some (Go.Addr.mk 1004 0 Option.none))) = (Go.Value.pointer (Option.some (Go.Addr.mk 1004 0 Option.none)))) ∧
 True))) ∧
 (bcase (decide (0 + o * 1 ≤ List.length l3))
 ((Says C 20 [(D.sl (o) 1 (List.take (o * 1) (List.drop 0 l3)))] [(D.sl (o) 1 (List.take (o * 1) (List.drop 0 l3)))]) ∧
 ((((Go.Value.agg [(Go.Value.slice (Option.some (Go.Addr.mk 1006 0 Option.none)) (m) (m)), (Go.Value.slice (Option.some (Go.Addr.mk 1007 0 Option.none)) (o) (o))].toArray) = (Go.Value.agg [(Go.Value.slice (Option.some (Go.Addr.mk 1006 0 Option.none)) (m) (m)), (Go.Value.slice (Option.some (Go.Addr.mk 1007 0 Option.none)) (o) (o))].toArray)) ∧
 (((Go.Value.pointer (Option.some (Go.Addr.mk 1004 1 Option.none))) = (Go.Value.pointer (Option.some (Go.Addr.mk 1004 1 Option.none)))) ∧
 (((Go.Value.pointer (Option.some (Go.Addr.mk 1004 0 Option.none))) = (Go.Value.pointer (Option.some (Go.Addr.mk 1004 0 Option.none)))) ∧
 True))) ∧
 (True ∧
 (True ∧
 (bcase (decide (0 + m * 1 ≤ List.length (List.take (m * 1) (List.drop 0 l2))))
 (bcase (decide (0 + o * 1 ≤ List.length (List.take (o * 1) (List.drop 0 l3))))
 ((∃ n3 : Int,
 ((Says C 11 [(D.agg [(D.sl 0 7 [])]), (D.agg [(D.sl (m) 1 (List.take (m * 1) (List.drop 0 (List.take (m * 1) (List.drop 0 l2))))), (D.sl (o) 1 (List.take (o * 1) (List.drop 0 (List.take (o * 1) (List.drop 0 l3)))))])] [D.nil, (D.val (vI n3))]) ∧
 ((((vI n3) = (vI n3)) ∧
 (((Go.Value.slice Option.none 0 0) = (Go.Value.slice Option.none 0 0)) ∧
 (((Go.Value.tuple [(Go.Value.slice Option.none 0 0), (vI n3)].toArray) = (Go.Value.tuple [(Go.Value.slice Option.none 0 0), (vI n3)].toArray)) ∧
 True))) ∧
 ((((vI n3) = (vI n3)) ∧
 True) ∧
 (True ∧
 (∃ n4 : Int,
 (∃ n5 : Int,
 ((Says C 13 [(D.agg [D.nil])] [(D.val (vI n4)), (D.val (vI n5))]) ∧
 (bcase (n2 != n5)
 (k [(D.val (Value.bool false))])
 (bcase (n1 != n4)
 (k [(D.val (Value.bool false))])
 (bcase (n5 == 0)
 (bcase (decide (0 + m * 1 ≤ List.length l2))
 (bcase (decide (0 + o * 1 ≤ List.length l3))
 (∃ n6 : Int,
 ((Says C 14 [(D.agg [D.nil]), (D.agg [(D.sl (m) 1 (List.take (m * 1) (List.drop 0 l2))), (D.sl (o) 1 (List.take (o * 1) (List.drop 0 l3)))])] [(D.val (vI n6))]) ∧
 (bcase (n6 != 0)
 (bcase (n3 == n6)
 (k [(D.val (Value.bool true))])
 (k [(D.val (Value.bool false))]))
 (bcase (n3 == 0)
 (bcase (decide (0 + m * 1 ≤ List.length l2))
 (bcase (decide (0 + o * 1 ≤ List.length l3))
 (((Says C 16 [(D.agg [D.nil]), (D.sl (m) 1 (List.take (m * 1) (List.drop 0 l2))), (D.sl (o) 1 (List.take (o * 1) (List.drop 0 l3)))] [D.nil]) ∧
 (((Says C 15 [D.nil, D.nil] [(D.val (Value.bool true))]) ∧
 (k [(D.val (Value.bool true))])) ∨
 ((Says C 15 [D.nil, D.nil] [(D.val (Value.bool false))]) ∧
 (k [(D.val (Value.bool false))])))) ∨
 (∃ n7 : Nat,
 (∃ cs1 : List Go.Value,
 ((Says C 16 [(D.agg [D.nil]), (D.sl (m) 1 (List.take (m * 1) (List.drop 0 l2))), (D.sl (o) 1 (List.take (o * 1) (List.drop 0 l3)))] [(D.sl (n7) 1 (cs1))]) ∧
 (bcase (decide (0 + n7 * 1 ≤ List.length cs1))
 (((Says C 15 [D.nil, (D.sl (n7) 1 (List.take (n7 * 1) (List.drop 0 cs1)))] [(D.val (Value.bool true))]) ∧
 (k [(D.val (Value.bool true))])) ∨
 ((Says C 15 [D.nil, (D.sl (n7) 1 (List.take (n7 * 1) (List.drop 0 cs1)))] [(D.val (Value.bool false))]) ∧
 (k [(D.val (Value.bool false))])))
 False)))))
 False)
 False)
 (k [(D.val (Value.bool false))])))))
 False)
 False)
 (bcase (n5 != 0)
 (bcase (n3 == n5)
 (k [(D.val (Value.bool true))])
 (k [(D.val (Value.bool false))]))
 (bcase (n3 == 0)
 (bcase (decide (0 + m * 1 ≤ List.length l2))
 (bcase (decide (0 + o * 1 ≤ List.length l3))
 (((Says C 16 [(D.agg [D.nil]), (D.sl (m) 1 (List.take (m * 1) (List.drop 0 l2))), (D.sl (o) 1 (List.take (o * 1) (List.drop 0 l3)))] [D.nil]) ∧
 (((Says C 15 [D.nil, D.nil] [(D.val (Value.bool true))]) ∧
 (k [(D.val (Value.bool true))])) ∨
 ((Says C 15 [D.nil, D.nil] [(D.val (Value.bool false))]) ∧
 (k [(D.val (Value.bool false))])))) ∨
 (∃ n6 : Nat,
 (∃ cs1 : List Go.Value,
 ((Says C 16 [(D.agg [D.nil]), (D.sl (m) 1 (List.take (m * 1) (List.drop 0 l2))), (D.sl (o) 1 (List.take (o * 1) (List.drop 0 l3)))] [(D.sl (n6) 1 (cs1))]) ∧
 (bcase (decide (0 + n6 * 1 ≤ List.length cs1))
 (((Says C 15 [D.nil, (D.sl (n6) 1 (List.take (n6 * 1) (List.drop 0 cs1)))] [(D.val (Value.bool true))]) ∧
 (k [(D.val (Value.bool true))])) ∨
 ((Says C 15 [D.nil, (D.sl (n6) 1 (List.take (n6 * 1) (List.drop 0 cs1)))] [(D.val (Value.bool false))]) ∧
 (k [(D.val (Value.bool false))])))
 False)))))
 False)
 False)
 (k [(D.val (Value.bool false))])))))))))))))) ∨
 (∃ n3 : Nat,
 (∃ cs1 : List Go.Value,
 (∃ n4 : Int,
 ((Says C 11 [(D.agg [(D.sl 0 7 [])]), (D.agg [(D.sl (m) 1 (List.take (m * 1) (List.drop 0 (List.take (m * 1) (List.drop 0 l2))))), (D.sl (o) 1 (List.take (o * 1) (List.drop 0 (List.take (o * 1) (List.drop 0 l3)))))])] [(D.sl (n3) 1 (cs1)), (D.val (vI n4))]) ∧
 ((((vI n4) = (vI n4)) ∧
 (((Go.Value.slice (Option.some (Go.Addr.mk 1008 0 Option.none)) (n3) (n3)) = (Go.Value.slice (Option.some (Go.Addr.mk 1008 0 Option.none)) (n3) (n3))) ∧
 (((Go.Value.tuple [(Go.Value.slice (Option.some (Go.Addr.mk 1008 0 Option.none)) (n3) (n3)), (vI n4)].toArray) = (Go.Value.tuple [(Go.Value.slice (Option.some (Go.Addr.mk 1008 0 Option.none)) (n3) (n3)), (vI n4)].toArray)) ∧
 True))) ∧
 ((((vI n4) = (vI n4)) ∧
 True) ∧
 (True ∧
 (∃ n5 : Int,
 (∃ n6 : Int,
 ((Says C 13 [(D.agg [D.nil])] [(D.val (vI n5)), (D.val (vI n6))]) ∧
 (bcase (n2 != n6)
 (k [(D.val (Value.bool false))])
 (bcase (n1 != n5)
 (k [(D.val (Value.bool false))])
 (bcase (n6 == 0)
 (bcase (decide (0 + m * 1 ≤ List.length l2))
 (bcase (decide (0 + o * 1 ≤ List.length l3))
 (∃ n7 : Int,
 ((Says C 14 [(D.agg [D.nil]), (D.agg [(D.sl (m) 1 (List.take (m * 1) (List.drop 0 l2))), (D.sl (o) 1 (List.take (o * 1) (List.drop 0 l3)))])] [(D.val (vI n7))]) ∧
 (bcase (n7 != 0)
 (bcase (n4 == n7)
 (bcase ((↑n3 : Int) == 0)
 (k [(D.val (Value.bool true))])
 (k [(D.val (Value.bool false))]))
 (k [(D.val (Value.bool false))]))
 (bcase (n4 == 0)
 (bcase (decide (0 + m * 1 ≤ List.length l2))
 (bcase (decide (0 + o * 1 ≤ List.length l3))
 (((Says C 16 [(D.agg [D.nil]), (D.sl (m) 1 (List.take (m * 1) (List.drop 0 l2))), (D.sl (o) 1 (List.take (o * 1) (List.drop 0 l3)))] [D.nil]) ∧
 (bcase (decide (0 + n3 * 1 ≤ List.length cs1))
 (((Says C 15 [(D.sl (n3) 1 (List.take (n3 * 1) (List.drop 0 cs1))), D.nil] [(D.val (Value.bool true))]) ∧
 (k [(D.val (Value.bool true))])) ∨
 ((Says C 15 [(D.sl (n3) 1 (List.take (n3 * 1) (List.drop 0 cs1))), D.nil] [(D.val (Value.bool false))]) ∧
 (k [(D.val (Value.bool false))])))
 False)) ∨
 (∃ n8 : Nat,
 (∃ cs2 : List Go.Value,
 ((Says C 16 [(D.agg [D.nil]), (D.sl (m) 1 (List.take (m * 1) (List.drop 0 l2))), (D.sl (o) 1 (List.take (o * 1) (List.drop 0 l3)))] [(D.sl (n8) 1 (cs2))]) ∧
 (bcase (decide (0 + n3 * 1 ≤ List.length cs1))
 (bcase (decide (0 + n8 * 1 ≤ List.length cs2))
 (((Says C 15 [(D.sl (n3) 1 (List.take (n3 * 1) (List.drop 0 cs1))), (D.sl (n8) 1 (List.take (n8 * 1) (List.drop 0 cs2)))] [(D.val (Value.bool true))]) ∧
 (k [(D.val (Value.bool true))])) ∨
 ((Says C 15 [(D.sl (n3) 1 (List.take (n3 * 1) (List.drop 0 cs1))), (D.sl (n8) 1 (List.take (n8 * 1) (List.drop 0 cs2)))] [(D.val (Value.bool false))]) ∧
 (k [(D.val (Value.bool false))])))
 False)
 False)))))
 False)
 False)
 (k [(D.val (Value.bool false))])))))
 False)
 False)
 (bcase (n6 != 0)
 (bcase (n4 == n6)
 (bcase ((↑n3 : Int) == 0)
 (k [(D.val (Value.bool true))])
 (k [(D.val (Value.bool false))]))
 (k [(D.val (Value.bool false))]))
 (bcase (n4 == 0)
 (bcase (decide (0 + m * 1 ≤ List.length l2))
 (bcase (decide (0 + o * 1 ≤ List.length l3))
 (((Says C 16 [(D.agg [D.nil]), (D.sl (m) 1 (List.take (m * 1) (List.drop 0 l2))), (D.sl (o) 1 (List.take (o * 1) (List.drop 0 l3)))] [D.nil]) ∧
 (bcase (decide (0 + n3 * 1 ≤ List.length cs1))
 (((Says C 15 [(D.sl (n3) 1 (List.take (n3 * 1) (List.drop 0 cs1))), D.nil] [(D.val (Value.bool true))]) ∧
 (k [(D.val (Value.bool true))])) ∨
 ((Says C 15 [(D.sl (n3) 1 (List.take (n3 * 1) (List.drop 0 cs1))), D.nil] [(D.val (Value.bool false))]) ∧
 (k [(D.val (Value.bool false))])))
 False)) ∨
 (∃ n7 : Nat,
 (∃ cs2 : List Go.Value,
 ((Says C 16 [(D.agg [D.nil]), (D.sl (m) 1 (List.take (m * 1) (List.drop 0 l2))), (D.sl (o) 1 (List.take (o * 1) (List.drop 0 l3)))] [(D.sl (n7) 1 (cs2))]) ∧
 (bcase (decide (0 + n3 * 1 ≤ List.length cs1))
 (bcase (decide (0 + n7 * 1 ≤ List.length cs2))
 (((Says C 15 [(D.sl (n3) 1 (List.take (n3 * 1) (List.drop 0 cs1))), (D.sl (n7) 1 (List.take (n7 * 1) (List.drop 0 cs2)))] [(D.val (Value.bool true))]) ∧
 (k [(D.val (Value.bool true))])) ∨
 ((Says C 15 [(D.sl (n3) 1 (List.take (n3 * 1) (List.drop 0 cs1))), (D.sl (n7) 1 (List.take (n7 * 1) (List.drop 0 cs2)))] [(D.val (Value.bool false))]) ∧
 (k [(D.val (Value.bool false))])))
 False)
 False)))))
 False)
 False)
 (k [(D.val (Value.bool false))])))))))))))))))))
 False)
 False)))))
 False)))
 False)))))))))))) ∨
 ((Says C 8 [(D.agg [D.nil])] [(D.val (Value.bool false))]) ∧
 (k [(D.val (Value.bool true))])))) ∨
 ((Says C 7 [] [(D.val (Value.bool false))]) ∧
 (k [(D.val (Value.bool false))]))) := by kernel_rfl
def gLwnsn (C : Ct) (L : AtLoop) (m cap2 : Nat) (l2 : List Value) (k : List D → Prop) : Prop := wpFn Try.prog (hB C) L 0 3 #[.agg #[nilS], .agg #[.slice (some ⟨500, 0, none⟩) m cap2, nilS]] (heapOf [(500, .sym l2 false 1)]) (dataK k)
theorem gLwnsn_text (C : Ct) (L : AtLoop) (m : Nat) (cap2 : Nat) (l2 : List Go.Value) (k : List D → Prop) : gLwnsn C L m cap2 l2 k =
 (((Says C 7 [] [(D.val (Value.bool true))]) ∧
 (((Says C 8 [(D.agg [D.nil])] [(D.val (Value.bool true))]) ∧
 (bcase (decide ((↑m : Int) > 7))
 (k [(D.val (Value.bool true))])
 ((Says C 10 [(D.agg [D.nil])] [(D.agg [(D.sl 0 7 [])])]) ∧
 (∃ n1 : Int,
 (∃ n2 : Int,
 ((Says C 9 [(D.agg [(D.sl 0 7 [])])] [(D.val (vI n1)), (D.val (vI n2))]) ∧
 ((((Go.Value.agg [(Go.Value.slice (Option.some (Go.Addr.mk 500 0 Option.none)) (m) (cap2)), (Go.Value.slice Option.none 0 0)].toArray) = (Go.Value.agg [(Go.Value.slice (Option.some (Go.Addr.mk 500 0 Option.none)) (m) (cap2)), (Go.Value.slice Option.none 0 0)].toArray)) ∧
 (((Go.Value.agg [(Go.Value.slice Option.none 0 0)].toArray) = (Go.Value.agg [(Go.Value.slice Option.none 0 0)].toArray)) ∧
 True)) ∧
 ((Says C 10 [(D.agg [D.nil])] [(D.agg [(D.sl 0 7 [])])]) ∧
 ((((Go.Value.agg [(Go.Value.slice (Option.some (Go.Addr.mk 500 0 Option.none)) (m) (cap2)), (Go.Value.slice Option.none 0 0)].toArray) = (Go.Value.agg [(Go.Value.slice (Option.some (Go.Addr.mk 500 0 Option.none)) (m) (cap2)), (Go.Value.slice Option.none 0 0)].toArray)) ∧
 True) ∧
 ((((Go.Value.slice Option.none 0 0) = (Go.Value.slice Option.none 0 0)) ∧
 (((Go.Value.pointer (Option.some (Go.Addr.mk 1004 1 Option.none))) = (Go.Value.pointer (Option.some (Go.Addr.mk 1004 1 Option.none)))) ∧
 (((Go.Value.slice (Option.some (Go.Addr.mk 500 0 Option.none)) (m) (cap2)) = (Go.Value.slice (Option.some (Go.Addr.mk 500 0 Option.none)) (m) (cap2))) ∧
 (((Go.Value.pointer (Option.some (Go.Addr.mk 1004 0 Option.none))) = (Go.Value.pointer (Option.some (Go.Addr.mk 1004 0 Option.none)))) ∧
 True)))) ∧
 (bcase (decide (0 + m * 1 ≤ List.length l2))
 ((Says C 20 [(D.sl (m) 1 (List.take (m * 1) (List.drop 0 l2)))] [(D.sl (m) 1 (List.take (m * 1) (List.drop 0 l2)))]) ∧
 ((((Go.Value.slice Option.none 0 0) = (Go.Value.slice Option.none 0 0)) ∧
 (((Go.Value.pointer (Option.some (Go.Addr.mk 1004 1 Option.none))) = (Go.Value.pointer (Option.some (Go.Addr.mk 1004 1 Option.none)))) ∧
 (((Go.Value.pointer (Option.some (Go.Addr.mk 1004 0 Option.none))) = (Go.Value.pointer (Option.some (Go.Addr.mk 1004 0 Option.none)))) ∧
 True))) ∧
 ((Says C 20 [D.nil] [(D.sl 0 1 [])]) ∧
 ((((Go.Value.agg [(Go.Value.slice (Option.some (Go.Addr.mk 1006 0 Option.none)) (m) (m)), (Go.Value.slice (Option.some (Go.Addr.mk 1007 0 Option.none)) 0 0)].toArray) = (Go.Value.agg [(Go.Value.slice (Option.some (Go.Addr.mk 1006 0 Option.none)) (m) (m)), (Go.Value.slice (Option.some (Go.Addr.mk 1007 0 Option.none)) 0 0)].toArray)) ∧
 (((Go.Value.pointer (Option.some (Go.Addr.mk 1004 1 Option.none))) = (Go.Value.pointer (Option.some (Go.Addr.mk 1004 1 Option.none)))) ∧
 (((Go.Value.pointer (Option.some (Go.Addr.mk 1004 0 Option.none))) = (Go.Value.pointer (Option.some (Go.Addr.mk 1004 0 Option.none)))) ∧
 True))) ∧
 (True ∧
 (True ∧
 (bcase (decide (0 + m * 1 ≤ List.length (List.take (m * 1) (List.drop 0 l2))))
 ((∃ n3 : Int,
 ((Says C 11 [(D.agg [(D.sl 0 7 [])]), (D.agg [(D.sl (m) 1 (List.take (m * 1) (List.drop 0 (List.take (m * 1) (List.drop 0 l2))))), (D.sl 0 1 [])])] [D.nil, (D.val (vI n3))]) ∧
 ((((vI n3) = (vI n3)) ∧
 (((Go.Value.slice Option.none 0 0) = (Go.Value.slice Option.none 0 0)) ∧
 (((Go.Value.tuple [(Go.Value.slice Option.none 0 0), (vI n3)].toArray) = (Go.Value.tuple [(Go.Value.slice Option.none 0 0), (vI n3)].toArray)) ∧
 True))) ∧
 ((((vI n3) = (vI n3)) ∧
 True) ∧
 (True ∧
 (∃ n4 : Int,
 (∃ n5 : Int,
 ((Says C 13 [(D.agg [D.nil])] [(D.val (vI n4)), (D.val (vI n5))]) ∧
 (bcase (n2 != n5)
 (k [(D.val (Value.bool false))])
 (bcase (n1 != n4)
 (k [(D.val (Value.bool false))])
 (bcase (n5 == 0)
 (bcase (decide (0 + m * 1 ≤ List.length l2))
 (∃ n6 : Int,
 ((Says C 14 [(D.agg [D.nil]), (D.agg [(D.sl (m) 1 (List.take (m * 1) (List.drop 0 l2))), D.nil])] [(D.val (vI n6))]) ∧
 (bcase (n6 != 0)
 (bcase (n3 == n6)
 (k [(D.val (Value.bool true))])
 (k [(D.val (Value.bool false))]))
 (bcase (n3 == 0)
 (bcase (decide (0 + m * 1 ≤ List.length l2))
 (((Says C 16 [(D.agg [D.nil]), (D.sl (m) 1 (List.take (m * 1) (List.drop 0 l2))), D.nil] [D.nil]) ∧
 (((Says C 15 [D.nil, D.nil] [(D.val (Value.bool true))]) ∧
 (k [(D.val (Value.bool true))])) ∨
 ((Says C 15 [D.nil, D.nil] [(D.val (Value.bool false))]) ∧
 (k [(D.val (Value.bool false))])))) ∨
 (∃ n7 : Nat,
 (∃ cs1 : List Go.Value,
 ((Says C 16 [(D.agg [D.nil]), (D.sl (m) 1 (List.take (m * 1) (List.drop 0 l2))), D.nil] [(D.sl (n7) 1 (cs1))]) ∧
 (bcase (decide (0 + n7 * 1 ≤ List.length cs1))
 (((Says C 15 [D.nil, (D.sl (n7) 1 (List.take (n7 * 1) (List.drop 0 cs1)))] [(D.val (Value.bool true))]) ∧
 (k [(D.val (Value.bool true))])) ∨
 ((Says C 15 [D.nil, (D.sl (n7) 1 (List.take (n7 * 1) (List.drop 0 cs1)))] [(D.val (Value.bool false))]) ∧
 (k [(D.val (Value.bool false))])))
 False)))))
 False)
 (k [(D.val (Value.bool false))])))))
 False)
 (bcase (n5 != 0)
 (bcase (n3 == n5)
 (k [(D.val (Value.bool true))])
 (k [(D.val (Value.bool false))]))
 (bcase (n3 == 0)
 (bcase (decide (0 + m * 1 ≤ List.length l2))
 (((Says C 16 [(D.agg [D.nil]), (D.sl (m) 1 (List.take (m * 1) (List.drop 0 l2))), D.nil] [D.nil]) ∧
 (((Says C 15 [D.nil, D.nil] [(D.val (Value.bool true))]) ∧
 (k [(D.val (Value.bool true))])) ∨
 ((Says C 15 [D.nil, D.nil] [(D.val (Value.bool false))]) ∧
 (k [(D.val (Value.bool false))])))) ∨
 (∃ n6 : Nat,
 (∃ cs1 : List Go.Value,
 ((Says C 16 [(D.agg [D.nil]), (D.sl (m) 1 (List.take (m * 1) (List.drop 0 l2))), D.nil] [(D.sl (n6) 1 (cs1))]) ∧
 (bcase (decide (0 + n6 * 1 ≤ List.length cs1))
 (((Says C 15 [D.nil, (D.sl (n6) 1 (List.take (n6 * 1) (List.drop 0 cs1)))] [(D.val (Value.bool true))]) ∧
 (k [(D.val (Value.bool true))])) ∨
 ((Says C 15 [D.nil, (D.sl (n6) 1 (List.take (n6 * 1) (List.drop 0 cs1)))] [(D.val (Value.bool false))]) ∧
 (k [(D.val (Value.bool false))])))
 False)))))
 False)
 (k [(D.val (Value.bool false))])))))))))))))) ∨
 (∃ n3 : Nat,
 (∃ cs1 : List Go.Value,
 (∃ n4 : Int,
 ((Says C 11 [(D.agg [(D.sl 0 7 [])]), (D.agg [(D.sl (m) 1 (List.take (m * 1) (List.drop 0 (List.take (m * 1) (List.drop 0 l2))))), (D.sl 0 1 [])])] [(D.sl (n3) 1 (cs1)), (D.val (vI n4))]) ∧
 ((((vI n4) = (vI n4)) ∧
 (((Go.Value.slice (Option.some (Go.Addr.mk 1008 0 Option.none)) (n3) (n3)) = (Go.Value.slice (Option.some (Go.Addr.mk 1008 0 Option.none)) (n3) (n3))) ∧
 (((Go.Value.tuple [(Go.Value.slice (Option.some (Go.Addr.mk 1008 0 Option.none)) (n3) (n3)), (vI n4)].toArray) = (Go.Value.tuple [(Go.Value.slice (Option.some (Go.Addr.mk 1008 0 Option.none)) (n3) (n3)), (vI n4)].toArray)) ∧
 True))) ∧
 ((((vI n4) = (vI n4)) ∧
 True) ∧
 (True ∧
 (∃ n5 : Int,
 (∃ n6 : Int,
 ((Says C 13 [(D.agg [D.nil])] [(D.val (vI n5)), (D.val (vI n6))]) ∧
 (bcase (n2 != n6)
 (k [(D.val (Value.bool false))])
 (bcase (n1 != n5)
 (k [(D.val (Value.bool false))])
 (bcase (n6 == 0)
 (bcase (decide (0 + m * 1 ≤ List.length l2))
 (∃ n7 : Int,
 ((Says C 14 [(D.agg [D.nil]), (D.agg [(D.sl (m) 1 (List.take (m * 1) (List.drop 0 l2))), D.nil])] [(D.val (vI n7))]) ∧
 (bcase (n7 != 0)
 (bcase (n4 == n7)
 (bcase ((↑n3 : Int) == 0)
 (k [(D.val (Value.bool true))])
 (k [(D.val (Value.bool false))]))
 (k [(D.val (Value.bool false))]))
 (bcase (n4 == 0)
 (bcase (decide (0 + m * 1 ≤ List.length l2))
 (((Says C 16 [(D.agg [D.nil]), (D.sl (m) 1 (List.take (m * 1) (List.drop 0 l2))), D.nil] [D.nil]) ∧
 (bcase (decide (0 + n3 * 1 ≤ List.length cs1))
 (((Says C 15 [(D.sl (n3) 1 (List.take (n3 * 1) (List.drop 0 cs1))), D.nil] [(D.val (Value.bool true))]) ∧
 (k [(D.val (Value.bool true))])) ∨
 ((Says C 15 [(D.sl (n3) 1 (List.take (n3 * 1) (List.drop 0 cs1))), D.nil] [(D.val (Value.bool false))]) ∧
 (k [(D.val (Value.bool false))])))
 False)) ∨
 (∃ n8 : Nat,
 (∃ cs2 : List Go.Value,
 ((Says C 16 [(D.agg [D.nil]), (D.sl (m) 1 (List.take (m * 1) (List.drop 0 l2))), D.nil] [(D.sl (n8) 1 (cs2))]) ∧
 (bcase (decide (0 + n3 * 1 ≤ List.length cs1))
 (bcase (decide (0 + n8 * 1 ≤ List.length cs2))
 (((Says C 15 [(D.sl (n3) 1 (List.take (n3 * 1) (List.drop 0 cs1))), (D.sl (n8) 1 (List.take (n8 * 1) (List.drop 0 cs2)))] [(D.val (Value.bool true))]) ∧
 (k [(D.val (Value.bool true))])) ∨
 ((Says C 15 [(D.sl (n3) 1 (List.take (n3 * 1) (List.drop 0 cs1))), (D.sl (n8) 1 (List.take (n8 * 1) (List.drop 0 cs2)))] [(D.val (Value.bool false))]) ∧
 (k [(D.val (Value.bool false))])))
 False)
 False)))))
 False)
 (k [(D.val (Value.bool false))])))))
 False)
 (bcase (n6 != 0)
 (bcase (n4 == n6)
 (bcase ((↑n3 : Int) == 0)
 (k [(D.val (Value.bool true))])
 (k [(D.val (Value.bool false))]))
 (k [(D.val (Value.bool false))]))
 (bcase (n4 == 0)
 (bcase (decide (0 + m * 1 ≤ List.length l2))
 (((Says C 16 [(D.agg [D.nil]), (D.sl (m) 1 (List.take (m * 1) (List.drop 0 l2))), D.nil] [D.nil]) ∧
 (bcase (decide (0 + n3 * 1 ≤ List.length cs1))
 (((Says C 15 [(D.sl (n3) 1 (List.take (n3 * 1) (List.drop 0 cs1))), D.nil] [(D.val (Value.bool true))]) ∧
 (k [(D.val (Value.bool true))])) ∨
 ((Says C 15 [(D.sl (n3) 1 (List.take (n3 * 1) (List.drop 0 cs1))), D.nil] [(D.val (Value.bool false))]) ∧
 (k [(D.val (Value.bool false))])))
 False)) ∨
 (∃ n7 : Nat,
 (∃ cs2 : List Go.Value,
 ((Says C 16 [(D.agg [D.nil]), (D.sl (m) 1 (List.take (m * 1) (List.drop 0 l2))), D.nil] [(D.sl (n7) 1 (cs2))]) ∧
 (bcase (decide (0 + n3 * 1 ≤ List.length cs1))
 (bcase (decide (0 + n7 * 1 ≤ List.length cs2))
 (((Says C 15 [(D.sl (n3) 1 (List.take (n3 * 1) (List.drop 0 cs1))), (D.sl (n7) 1 (List.take (n7 * 1) (List.drop 0 cs2)))] [(D.val (Value.bool true))]) ∧
 (k [(D.val (Value.bool true))])) ∨
 ((Says C 15 [(D.sl (n3) 1 (List.take (n3 * 1) (List.drop 0 cs1))), (D.sl (n7) 1 (List.take (n7 * 1) (List.drop 0 cs2)))] [(D.val (Value.bool false))]) ∧
 (k [(D.val (Value.bool false))])))
 False)
 False)))))
 False)
 (k [(D.val (Value.bool false))])))))))))))))))))
 False)))))))
 False))))))))))) ∨
 ((Says C 8 [(D.agg [D.nil])] [(D.val (Value.bool false))]) ∧
 (k [(D.val (Value.bool true))])))) ∨
 ((Says C 7 [] [(D.val (Value.bool false))]) ∧
 (k [(D.val (Value.bool false))]))) := by kernel_rfl
def gLwnns (C : Ct) (L : AtLoop) (o cap3 : Nat) (l3 : List Value) (k : List D → Prop) : Prop := wpFn Try.prog (hB C) L 0 3 #[.agg #[nilS], .agg #[nilS, .slice (some ⟨500, 0, none⟩) o cap3]] (heapOf [(500, .sym l3 false 1)]) (dataK k)
theorem gLwnns_text (C : Ct) (L : AtLoop) (o : Nat) (cap3 : Nat) (l3 : List Go.Value) (k : List D → Prop) : gLwnns C L o cap3 l3 k =
 (((Says C 7 [] [(D.val (Value.bool true))]) ∧
 (((Says C 8 [(D.agg [D.nil])] [(D.val (Value.bool true))]) ∧
 (bcase (decide ((↑o : Int) > 7))
 (k [(D.val (Value.bool true))])
 ((Says C 10 [(D.agg [D.nil])] [(D.agg [(D.sl 0 7 [])])]) ∧
 (∃ n1 : Int,
 (∃ n2 : Int,
 ((Says C 9 [(D.agg [(D.sl 0 7 [])])] [(D.val (vI n1)), (D.val (vI n2))]) ∧
 ((((Go.Value.agg [(Go.Value.slice Option.none 0 0), (Go.Value.slice (Option.some (Go.Addr.mk 500 0 Option.none)) (o) (cap3))].toArray) = (Go.Value.agg [(Go.Value.slice Option.none 0 0), (Go.Value.slice (Option.some (Go.Addr.mk 500 0 Option.none)) (o) (cap3))].toArray)) ∧
 (((Go.Value.agg [(Go.Value.slice Option.none 0 0)].toArray) = (Go.Value.agg [(Go.Value.slice Option.none 0 0)].toArray)) ∧
 True)) ∧
 ((Says C 10 [(D.agg [D.nil])] [(D.agg [(D.sl 0 7 [])])]) ∧
 ((((Go.Value.agg [(Go.Value.slice Option.none 0 0), (Go.Value.slice (Option.some (Go.Addr.mk 500 0 Option.none)) (o) (cap3))].toArray) = (Go.Value.agg [(Go.Value.slice Option.none 0 0), (Go.Value.slice (Option.some (Go.Addr.mk 500 0 Option.none)) (o) (cap3))].toArray)) ∧
 True) ∧
 ((((Go.Value.slice (Option.some (Go.Addr.mk 500 0 Option.none)) (o) (cap3)) = (Go.Value.slice (Option.some (Go.Addr.mk 500 0 Option.none)) (o) (cap3))) ∧
 (((Go.Value.pointer (Option.some (Go.Addr.mk 1004 1 Option.none))) = (Go.Value.pointer (Option.some (Go.Addr.mk 1004 1 Option.none)))) ∧
 (((Go.Value.slice Option.none 0 0) = (Go.Value.slice Option.none 0 0)) ∧
 (((Go.Value.pointer (Option.some (Go.Addr.mk 1004 0 Option.none))) = (Go.Value.pointer (Option.some (Go.Addr.mk 1004 0 Option.none)))) ∧
 True)))) ∧
 ((Says C 20 [D.nil] [(D.sl 0 1 [])]) ∧
 ((((Go.Value.slice (Option.some (Go.Addr.mk 500 0 Option.none)) (o) (cap3)) = (Go.Value.slice (Option.some (Go.Addr.mk 500 0 Option.none)) (o) (cap3))) ∧
 (((Go.Value.pointer (Option.some (Go.Addr.mk 1004 1 Option.none))) = (Go.Value.pointer (Option.some (Go.Addr.mk 1004 1 Option.none)))) ∧
 (((Go.Value.pointer (Option.some (Go.Addr.mk 1004 0 Option.none))) = (Go.Value.pointer (Option.some (Go.Addr.mk 1004 0 Option.none)))) ∧
 True))) ∧
 (bcase (decide (0 + o * 1 ≤ List.length l3))
 ((Says C 20 [(D.sl (o) 1 (List.take (o * 1) (List.drop 0 l3)))] [(D.sl (o) 1 (List.take (o * 1) (List.drop 0 l3)))]) ∧
 ((((Go.Value.agg [(Go.Value.slice (Option.some (Go.Addr.mk 1006 0 Option.none)) 0 0), (Go.Value.slice (Option.some (Go.Addr.mk 1007 0 Option.none)) (o) (o))].toArray) = (Go.Value.agg [(Go.Value.slice (Option.some (Go.Addr.mk 1006 0 Option.none)) 0 0), (Go.Value.slice (Option.some (Go.Addr.mk 1007 0 Option.none)) (o) (o))].toArray)) ∧
 (((Go.Value.pointer (Option.some (Go.Addr.mk 1004 1 Option.none))) = (Go.Value.pointer (Option.some (Go.Addr.mk 1004 1 Option.none)))) ∧
 (((Go.Value.pointer (Option.some (Go.Addr.mk 1004 0 Option.none))) = (Go.Value.pointer (Option.some (Go.Addr.mk 1004 0 Option.none)))) ∧
 True))) ∧
 (True ∧
 (True ∧
 (bcase (decide (0 + o * 1 ≤ List.length (List.take (o * 1) (List.drop 0 l3))))
 ((∃ n3 : Int,
 ((Says C 11 [(D.agg [(D.sl 0 7 [])]), (D.agg [(D.sl 0 1 []), (D.sl (o) 1 (List.take (o * 1) (List.drop 0 (List.take (o * 1) (List.drop 0 l3)))))])] [D.nil, (D.val (vI n3))]) ∧
 ((((vI n3) = (vI n3)) ∧
 (((Go.Value.slice Option.none 0 0) = (Go.Value.slice Option.none 0 0)) ∧
 (((Go.Value.tuple [(Go.Value.slice Option.none 0 0), (vI n3)].toArray) = (Go.Value.tuple [(Go.Value.slice Option.none 0 0), (vI n3)].toArray)) ∧
 True))) ∧
 ((((vI n3) = (vI n3)) ∧
 True) ∧
 (True ∧
 (∃ n4 : Int,
 (∃ n5 : Int,
 ((Says C 13 [(D.agg [D.nil])] [(D.val (vI n4)), (D.val (vI n5))]) ∧
 (bcase (n2 != n5)
 (k [(D.val (Value.bool false))])
 (bcase (n1 != n4)
 (k [(D.val (Value.bool false))])
 (bcase (n5 == 0)
 (bcase (decide (0 + o * 1 ≤ List.length l3))
 (∃ n6 : Int,
 ((Says C 14 [(D.agg [D.nil]), (D.agg [D.nil, (D.sl (o) 1 (List.take (o * 1) (List.drop 0 l3)))])] [(D.val (vI n6))]) ∧
 (bcase (n6 != 0)
 (bcase (n3 == n6)
 (k [(D.val (Value.bool true))])
 (k [(D.val (Value.bool false))]))
 (bcase (n3 == 0)
 (bcase (decide (0 + o * 1 ≤ List.length l3))
 (((Says C 16 [(D.agg [D.nil]), D.nil, (D.sl (o) 1 (List.take (o * 1) (List.drop 0 l3)))] [D.nil]) ∧
 (((Says C 15 [D.nil, D.nil] [(D.val (Value.bool true))]) ∧
 (k [(D.val (Value.bool true))])) ∨
 ((Says C 15 [D.nil, D.nil] [(D.val (Value.bool false))]) ∧
 (k [(D.val (Value.bool false))])))) ∨
 (∃ n7 : Nat,
 (∃ cs1 : List Go.Value,
 ((Says C 16 [(D.agg [D.nil]), D.nil, (D.sl (o) 1 (List.take (o * 1) (List.drop 0 l3)))] [(D.sl (n7) 1 (cs1))]) ∧
 (bcase (decide (0 + n7 * 1 ≤ List.length cs1))
 (((Says C 15 [D.nil, (D.sl (n7) 1 (List.take (n7 * 1) (List.drop 0 cs1)))] [(D.val (Value.bool true))]) ∧
 (k [(D.val (Value.bool true))])) ∨
 ((Says C 15 [D.nil, (D.sl (n7) 1 (List.take (n7 * 1) (List.drop 0 cs1)))] [(D.val (Value.bool false))]) ∧
 (k [(D.val (Value.bool false))])))
 False)))))
 False)
 (k [(D.val (Value.bool false))])))))
 False)
 (bcase (n5 != 0)
 (bcase (n3 == n5)
 (k [(D.val (Value.bool true))])
 (k [(D.val (Value.bool false))]))
 (bcase (n3 == 0)
 (bcase (decide (0 + o * 1 ≤ List.length l3))
 (((Says C 16 [(D.agg [D.nil]), D.nil, (D.sl (o) 1 (List.take (o * 1) (List.drop 0 l3)))] [D.nil]) ∧
 (((Says C 15 [D.nil, D.nil] [(D.val (Value.bool true))]) ∧
 (k [(D.val (Value.bool true))])) ∨
 ((Says C 15 [D.nil, D.nil] [(D.val (Value.bool false))]) ∧
 (k [(D.val (Value.bool false))])))) ∨
 (∃ n6 : Nat,
 (∃ cs1 : List Go.Value,
 ((Says C 16 [(D.agg [D.nil]), D.nil, (D.sl (o) 1 (List.take (o * 1) (List.drop 0 l3)))] [(D.sl (n6) 1 (cs1))]) ∧
 (bcase (decide (0 + n6 * 1 ≤ List.length cs1))
 (((Says C 15 [D.nil, (D.sl (n6) 1 (List.take (n6 * 1) (List.drop 0 cs1)))] [(D.val (Value.bool true))]) ∧
 (k [(D.val (Value.bool true))])) ∨
 ((Says C 15 [D.nil, (D.sl (n6) 1 (List.take (n6 * 1) (List.drop 0 cs1)))] [(D.val (Value.bool false))]) ∧
 (k [(D.val (Value.bool false))])))
 False)))))
 False)
 (k [(D.val (Value.bool false))])))))))))))))) ∨
 (∃ n3 : Nat,
 (∃ cs1 : List Go.Value,
 (∃ n4 : Int,
 ((Says C 11 [(D.agg [(D.sl 0 7 [])]), (D.agg [(D.sl 0 1 []), (D.sl (o) 1 (List.take (o * 1) (List.drop 0 (List.take (o * 1) (List.drop 0 l3)))))])] [(D.sl (n3) 1 (cs1)), (D.val (vI n4))]) ∧
 ((((vI n4) = (vI n4)) ∧
 (((Go.Value.slice (Option.some (Go.Addr.mk 1008 0 Option.none)) (n3) (n3)) = (Go.Value.slice (Option.some (Go.Addr.mk 1008 0 Option.none)) (n3) (n3))) ∧
 (((Go.Value.tuple [(Go.Value.slice (Option.some (Go.Addr.mk 1008 0 Option.none)) (n3) (n3)), (vI n4)].toArray) = (Go.Value.tuple [(Go.Value.slice (Option.some (Go.Addr.mk 1008 0 Option.none)) (n3) (n3)), (vI n4)].toArray)) ∧
 True))) ∧
 ((((vI n4) = (vI n4)) ∧
 True) ∧
 (True ∧
 (∃ n5 : Int,
 (∃ n6 : Int,
 ((Says C 13 [(D.agg [D.nil])] [(D.val (vI n5)), (D.val (vI n6))]) ∧
 (bcase (n2 != n6)
 (k [(D.val (Value.bool false))])
 (bcase (n1 != n5)
 (k [(D.val (Value.bool false))])
 (bcase (n6 == 0)
 (bcase (decide (0 + o * 1 ≤ List.length l3))
 (∃ n7 : Int,
 ((Says C 14 [(D.agg [D.nil]), (D.agg [D.nil, (D.sl (o) 1 (List.take (o * 1) (List.drop 0 l3)))])] [(D.val (vI n7))]) ∧
 (bcase (n7 != 0)
 (bcase (n4 == n7)
 (bcase ((↑n3 : Int) == 0)
 (k [(D.val (Value.bool true))])
 (k [(D.val (Value.bool false))]))
 (k [(D.val (Value.bool false))]))
 (bcase (n4 == 0)
 (bcase (decide (0 + o * 1 ≤ List.length l3))
 (((Says C 16 [(D.agg [D.nil]), D.nil, (D.sl (o) 1 (List.take (o * 1) (List.drop 0 l3)))] [D.nil]) ∧
 (bcase (decide (0 + n3 * 1 ≤ List.length cs1))
 (((Says C 15 [(D.sl (n3) 1 (List.take (n3 * 1) (List.drop 0 cs1))), D.nil] [(D.val (Value.bool true))]) ∧
 (k [(D.val (Value.bool true))])) ∨
 ((Says C 15 [(D.sl (n3) 1 (List.take (n3 * 1) (List.drop 0 cs1))), D.nil] [(D.val (Value.bool false))]) ∧
 (k [(D.val (Value.bool false))])))
 False)) ∨
 (∃ n8 : Nat,
 (∃ cs2 : List Go.Value,
 ((Says C 16 [(D.agg [D.nil]), D.nil, (D.sl (o) 1 (List.take (o * 1) (List.drop 0 l3)))] [(D.sl (n8) 1 (cs2))]) ∧
 (bcase (decide (0 + n3 * 1 ≤ List.length cs1))
 (bcase (decide (0 + n8 * 1 ≤ List.length cs2))
 (((Says C 15 [(D.sl (n3) 1 (List.take (n3 * 1) (List.drop 0 cs1))), (D.sl (n8) 1 (List.take (n8 * 1) (List.drop 0 cs2)))] [(D.val (Value.bool true))]) ∧
 (k [(D.val (Value.bool true))])) ∨
 ((Says C 15 [(D.sl (n3) 1 (List.take (n3 * 1) (List.drop 0 cs1))), (D.sl (n8) 1 (List.take (n8 * 1) (List.drop 0 cs2)))] [(D.val (Value.bool false))]) ∧
 (k [(D.val (Value.bool false))])))
 False)
 False)))))
 False)
 (k [(D.val (Value.bool false))])))))
 False)
 (bcase (n6 != 0)
 (bcase (n4 == n6)
 (bcase ((↑n3 : Int) == 0)
 (k [(D.val (Value.bool true))])
 (k [(D.val (Value.bool false))]))
 (k [(D.val (Value.bool false))]))
 (bcase (n4 == 0)
 (bcase (decide (0 + o * 1 ≤ List.length l3))
 (((Says C 16 [(D.agg [D.nil]), D.nil, (D.sl (o) 1 (List.take (o * 1) (List.drop 0 l3)))] [D.nil]) ∧
 (bcase (decide (0 + n3 * 1 ≤ List.length cs1))
 (((Says C 15 [(D.sl (n3) 1 (List.take (n3 * 1) (List.drop 0 cs1))), D.nil] [(D.val (Value.bool true))]) ∧
 (k [(D.val (Value.bool true))])) ∨
 ((Says C 15 [(D.sl (n3) 1 (List.take (n3 * 1) (List.drop 0 cs1))), D.nil] [(D.val (Value.bool false))]) ∧
 (k [(D.val (Value.bool false))])))
 False)) ∨
 (∃ n7 : Nat,
 (∃ cs2 : List Go.Value,
 ((Says C 16 [(D.agg [D.nil]), D.nil, (D.sl (o) 1 (List.take (o * 1) (List.drop 0 l3)))] [(D.sl (n7) 1 (cs2))]) ∧
 (bcase (decide (0 + n3 * 1 ≤ List.length cs1))
 (bcase (decide (0 + n7 * 1 ≤ List.length cs2))
 (((Says C 15 [(D.sl (n3) 1 (List.take (n3 * 1) (List.drop 0 cs1))), (D.sl (n7) 1 (List.take (n7 * 1) (List.drop 0 cs2)))] [(D.val (Value.bool true))]) ∧
 (k [(D.val (Value.bool true))])) ∨
 ((Says C 15 [(D.sl (n3) 1 (List.take (n3 * 1) (List.drop 0 cs1))), (D.sl (n7) 1 (List.take (n7 * 1) (List.drop 0 cs2)))] [(D.val (Value.bool false))]) ∧
 (k [(D.val (Value.bool false))])))
 False)
 False)))))
 False)
 (k [(D.val (Value.bool false))])))))))))))))))))
 False)))))
 False))))))))))))) ∨
 ((Says C 8 [(D.agg [D.nil])] [(D.val (Value.bool false))]) ∧
 (k [(D.val (Value.bool true))])))) ∨
 ((Says C 7 [] [(D.val (Value.bool false))]) ∧
 (k [(D.val (Value.bool false))]))) := by kernel_rfl
def gLwnnn (C : Ct) (L : AtLoop)  (k : List D → Prop) : Prop := wpFn Try.prog (hB C) L 0 3 #[.agg #[nilS], .agg #[nilS, nilS]] (heapOf []) (dataK k)
theorem gLwnnn_text (C : Ct) (L : AtLoop) (k : List D → Prop) : gLwnnn C L k =
 (((Says C 7 [] [(D.val (Value.bool true))]) ∧
 (((Says C 8 [(D.agg [D.nil])] [(D.val (Value.bool true))]) ∧
 ((Says C 10 [(D.agg [D.nil])] [(D.agg [(D.sl 0 7 [])])]) ∧
 (∃ n1 : Int,
 (∃ n2 : Int,
 ((Says C 9 [(D.agg [(D.sl 0 7 [])])] [(D.val (vI n1)), (D.val (vI n2))]) ∧
 ((((Go.Value.agg [(Go.Value.slice Option.none 0 0), (Go.Value.slice Option.none 0 0)].toArray) = (Go.Value.agg [(Go.Value.slice Option.none 0 0), (Go.Value.slice Option.none 0 0)].toArray)) ∧
 (((Go.Value.agg [(Go.Value.slice Option.none 0 0)].toArray) = (Go.Value.agg [(Go.Value.slice Option.none 0 0)].toArray)) ∧
 True)) ∧
 ((Says C 10 [(D.agg [D.nil])] [(D.agg [(D.sl 0 7 [])])]) ∧
 ((((Go.Value.agg [(Go.Value.slice Option.none 0 0), (Go.Value.slice Option.none 0 0)].toArray) = (Go.Value.agg [(Go.Value.slice Option.none 0 0), (Go.Value.slice Option.none 0 0)].toArray)) ∧
 True) ∧
 ((((Go.Value.slice Option.none 0 0) = (Go.Value.slice Option.none 0 0)) ∧
 (((Go.Value.pointer (Option.some (Go.Addr.mk 1004 1 Option.none))) = (Go.Value.pointer (Option.some (Go.Addr.mk 1004 1 Option.none)))) ∧
 (((Go.Value.slice Option.none 0 0) = (Go.Value.slice Option.none 0 0)) ∧
 (((Go.Value.pointer (Option.some (Go.Addr.mk 1004 0 Option.none))) = (Go.Value.pointer (Option.some (Go.Addr.mk 1004 0 Option.none)))) ∧
 True)))) ∧
 ((Says C 20 [D.nil] [(D.sl 0 1 [])]) ∧
 ((((Go.Value.slice Option.none 0 0) = (Go.Value.slice Option.none 0 0)) ∧
 (((Go.Value.pointer (Option.some (Go.Addr.mk 1004 1 Option.none))) = (Go.Value.pointer (Option.some (Go.Addr.mk 1004 1 Option.none)))) ∧
 (((Go.Value.pointer (Option.some (Go.Addr.mk 1004 0 Option.none))) = (Go.Value.pointer (Option.some (Go.Addr.mk 1004 0 Option.none)))) ∧
 True))) ∧
 ((Says C 20 [D.nil] [(D.sl 0 1 [])]) ∧
 ((((Go.Value.agg [(Go.Value.slice (Option.some (Go.Addr.mk 1006 0 Option.none)) 0 0), (Go.Value.slice (Option.some (Go.Addr.mk 1007 0 Option.none)) 0 0)].toArray) = (Go.Value.agg [(Go.Value.slice (Option.some (Go.Addr.mk 1006 0 Option.none)) 0 0), (Go.Value.slice (Option.some (Go.Addr.mk 1007 0 Option.none)) 0 0)].toArray)) ∧
 (((Go.Value.pointer (Option.some (Go.Addr.mk 1004 1 Option.none))) = (Go.Value.pointer (Option.some (Go.Addr.mk 1004 1 Option.none)))) ∧
 (((Go.Value.pointer (Option.some (Go.Addr.mk 1004 0 Option.none))) = (Go.Value.pointer (Option.some (Go.Addr.mk 1004 0 Option.none)))) ∧
 True))) ∧
 (True ∧
 (True ∧
 ((∃ n3 : Int,
 ((Says C 11 [(D.agg [(D.sl 0 7 [])]), (D.agg [(D.sl 0 1 []), (D.sl 0 1 [])])] [D.nil, (D.val (vI n3))]) ∧
 ((((vI n3) = (vI n3)) ∧
 (((Go.Value.slice Option.none 0 0) = (Go.Value.slice Option.none 0 0)) ∧
 (((Go.Value.tuple [(Go.Value.slice Option.none 0 0), (vI n3)].toArray) = (Go.Value.tuple [(Go.Value.slice Option.none 0 0), (vI n3)].toArray)) ∧
 True))) ∧
 ((((vI n3) = (vI n3)) ∧
 True) ∧
 (True ∧
 (∃ n4 : Int,
 (∃ n5 : Int,
 ((Says C 13 [(D.agg [D.nil])] [(D.val (vI n4)), (D.val (vI n5))]) ∧
 (bcase (n2 != n5)
 (k [(D.val (Value.bool false))])
 (bcase (n1 != n4)
 (k [(D.val (Value.bool false))])
 (bcase (n5 == 0)
 (∃ n6 : Int,
 ((Says C 14 [(D.agg [D.nil]), (D.agg [D.nil, D.nil])] [(D.val (vI n6))]) ∧
 (bcase (n6 != 0)
 (bcase (n3 == n6)
 (k [(D.val (Value.bool true))])
 (k [(D.val (Value.bool false))]))
 (bcase (n3 == 0)
 (((Says C 16 [(D.agg [D.nil]), D.nil, D.nil] [D.nil]) ∧
 (((Says C 15 [D.nil, D.nil] [(D.val (Value.bool true))]) ∧
 (k [(D.val (Value.bool true))])) ∨
 ((Says C 15 [D.nil, D.nil] [(D.val (Value.bool false))]) ∧
 (k [(D.val (Value.bool false))])))) ∨
 (∃ n7 : Nat,
 (∃ cs1 : List Go.Value,
 ((Says C 16 [(D.agg [D.nil]), D.nil, D.nil] [(D.sl (n7) 1 (cs1))]) ∧
 (bcase (decide (0 + n7 * 1 ≤ List.length cs1))
 (((Says C 15 [D.nil, (D.sl (n7) 1 (List.take (n7 * 1) (List.drop 0 cs1)))] [(D.val (Value.bool true))]) ∧
 (k [(D.val (Value.bool true))])) ∨
 ((Says C 15 [D.nil, (D.sl (n7) 1 (List.take (n7 * 1) (List.drop 0 cs1)))] [(D.val (Value.bool false))]) ∧
 (k [(D.val (Value.bool false))])))
 False)))))
 (k [(D.val (Value.bool false))])))))
 (bcase (n5 != 0)
 (bcase (n3 == n5)
 (k [(D.val (Value.bool true))])
 (k [(D.val (Value.bool false))]))
 (bcase (n3 == 0)
 (((Says C 16 [(D.agg [D.nil]), D.nil, D.nil] [D.nil]) ∧
 (((Says C 15 [D.nil, D.nil] [(D.val (Value.bool true))]) ∧
 (k [(D.val (Value.bool true))])) ∨
 ((Says C 15 [D.nil, D.nil] [(D.val (Value.bool false))]) ∧
 (k [(D.val (Value.bool false))])))) ∨
 (∃ n6 : Nat,
 (∃ cs1 : List Go.Value,
 ((Says C 16 [(D.agg [D.nil]), D.nil, D.nil] [(D.sl (n6) 1 (cs1))]) ∧
 (bcase (decide (0 + n6 * 1 ≤ List.length cs1))
 (((Says C 15 [D.nil, (D.sl (n6) 1 (List.take (n6 * 1) (List.drop 0 cs1)))] [(D.val (Value.bool true))]) ∧
 (k [(D.val (Value.bool true))])) ∨
 ((Says C 15 [D.nil, (D.sl (n6) 1 (List.take (n6 * 1) (List.drop 0 cs1)))] [(D.val (Value.bool false))]) ∧
 (k [(D.val (Value.bool false))])))
 False)))))
 (k [(D.val (Value.bool false))])))))))))))))) ∨
 (∃ n3 : Nat,
 (∃ cs1 : List Go.Value,
 (∃ n4 : Int,
 ((Says C 11 [(D.agg [(D.sl 0 7 [])]), (D.agg [(D.sl 0 1 []), (D.sl 0 1 [])])] [(D.sl (n3) 1 (cs1)), (D.val (vI n4))]) ∧
 ((((vI n4) = (vI n4)) ∧
 (((Go.Value.slice (Option.some (Go.Addr.mk 1008 0 Option.none)) (n3) (n3)) = (Go.Value.slice (Option.some (Go.Addr.mk 1008 0 Option.none)) (n3) (n3))) ∧
 (((Go.Value.tuple [(Go.Value.slice (Option.some (Go.Addr.mk 1008 0 Option.none)) (n3) (n3)), (vI n4)].toArray) = (Go.Value.tuple [(Go.Value.slice (Option.some (Go.Addr.mk 1008 0 Option.none)) (n3) (n3)), (vI n4)].toArray)) ∧
 True))) ∧
 ((((vI n4) = (vI n4)) ∧
 True) ∧
 (True ∧
 (∃ n5 : Int,
 (∃ n6 : Int,
 ((Says C 13 [(D.agg [D.nil])] [(D.val (vI n5)), (D.val (vI n6))]) ∧
 (bcase (n2 != n6)
 (k [(D.val (Value.bool false))])
 (bcase (n1 != n5)
 (k [(D.val (Value.bool false))])
 (bcase (n6 == 0)
 (∃ n7 : Int,
 ((Says C 14 [(D.agg [D.nil]), (D.agg [D.nil, D.nil])] [(D.val (vI n7))]) ∧
 (bcase (n7 != 0)
 (bcase (n4 == n7)
 (bcase ((↑n3 : Int) == 0)
 (k [(D.val (Value.bool true))])
 (k [(D.val (Value.bool false))]))
 (k [(D.val (Value.bool false))]))
 (bcase (n4 == 0)
 (((Says C 16 [(D.agg [D.nil]), D.nil, D.nil] [D.nil]) ∧
 (bcase (decide (0 + n3 * 1 ≤ List.length cs1))
 (((Says C 15 [(D.sl (n3) 1 (List.take (n3 * 1) (List.drop 0 cs1))), D.nil] [(D.val (Value.bool true))]) ∧
 (k [(D.val (Value.bool true))])) ∨
 ((Says C 15 [(D.sl (n3) 1 (List.take (n3 * 1) (List.drop 0 cs1))), D.nil] [(D.val (Value.bool false))]) ∧
 (k [(D.val (Value.bool false))])))
 False)) ∨
 (∃ n8 : Nat,
 (∃ cs2 : List Go.Value,
 ((Says C 16 [(D.agg [D.nil]), D.nil, D.nil] [(D.sl (n8) 1 (cs2))]) ∧
 (bcase (decide (0 + n3 * 1 ≤ List.length cs1))
 (bcase (decide (0 + n8 * 1 ≤ List.length cs2))
 (((Says C 15 [(D.sl (n3) 1 (List.take (n3 * 1) (List.drop 0 cs1))), (D.sl (n8) 1 (List.take (n8 * 1) (List.drop 0 cs2)))] [(D.val (Value.bool true))]) ∧
 (k [(D.val (Value.bool true))])) ∨
 ((Says C 15 [(D.sl (n3) 1 (List.take (n3 * 1) (List.drop 0 cs1))), (D.sl (n8) 1 (List.take (n8 * 1) (List.drop 0 cs2)))] [(D.val (Value.bool false))]) ∧
 (k [(D.val (Value.bool false))])))
 False)
 False)))))
 (k [(D.val (Value.bool false))])))))
 (bcase (n6 != 0)
 (bcase (n4 == n6)
 (bcase ((↑n3 : Int) == 0)
 (k [(D.val (Value.bool true))])
 (k [(D.val (Value.bool false))]))
 (k [(D.val (Value.bool false))]))
 (bcase (n4 == 0)
 (((Says C 16 [(D.agg [D.nil]), D.nil, D.nil] [D.nil]) ∧
 (bcase (decide (0 + n3 * 1 ≤ List.length cs1))
 (((Says C 15 [(D.sl (n3) 1 (List.take (n3 * 1) (List.drop 0 cs1))), D.nil] [(D.val (Value.bool true))]) ∧
 (k [(D.val (Value.bool true))])) ∨
 ((Says C 15 [(D.sl (n3) 1 (List.take (n3 * 1) (List.drop 0 cs1))), D.nil] [(D.val (Value.bool false))]) ∧
 (k [(D.val (Value.bool false))])))
 False)) ∨
 (∃ n7 : Nat,
 (∃ cs2 : List Go.Value,
 ((Says C 16 [(D.agg [D.nil]), D.nil, D.nil] [(D.sl (n7) 1 (cs2))]) ∧
 (bcase (decide (0 + n3 * 1 ≤ List.length cs1))
 (bcase (decide (0 + n7 * 1 ≤ List.length cs2))
 (((Says C 15 [(D.sl (n3) 1 (List.take (n3 * 1) (List.drop 0 cs1))), (D.sl (n7) 1 (List.take (n7 * 1) (List.drop 0 cs2)))] [(D.val (Value.bool true))]) ∧
 (k [(D.val (Value.bool true))])) ∨
 ((Says C 15 [(D.sl (n3) 1 (List.take (n3 * 1) (List.drop 0 cs1))), (D.sl (n7) 1 (List.take (n7 * 1) (List.drop 0 cs2)))] [(D.val (Value.bool false))]) ∧
 (k [(D.val (Value.bool false))])))
 False)
 False)))))
 (k [(D.val (Value.bool false))])))))))))))))))))))))))))))))))) ∨
 ((Says C 8 [(D.agg [D.nil])] [(D.val (Value.bool false))]) ∧
 (k [(D.val (Value.bool true))])))) ∨
 ((Says C 7 [] [(D.val (Value.bool false))]) ∧
 (k [(D.val (Value.bool false))]))) := by kernel_rfl
def gCI (C : Ct) (L : AtLoop) (n cap : Nat) (l : List Value) (k : List D → Prop) : Prop := wpFn Try.prog (hE C) L 0 20 #[S500 n cap] (heapOf [Q500 l]) (dataK k)
theorem gCI_text (C : Ct) (L : AtLoop) (n : Nat) (cap : Nat) (l : List Go.Value) (k : List D → Prop) : gCI C L n cap l k =
 (bcase (decide (0 + n * 1 ≤ List.length l))
 (bcase (n == 0)
 (((0 = 0) ∧
 (0 = 0)) ∧
 (k [(D.sl 0 1 [])]))
 (bcase (decide (0 < 0 + n))
 (bcase (decide ((2 * (0 + n) + 768) * 8 ≤ 281474976710656))
 (bcase (decide (0 + n ≤ 1099511627776))
 ((((0 + n) = (0 + n)) ∧
 ((List.length (List.take 0 (List.drop 0 []) ++ List.take (n * 1) (List.drop 0 l))) = ((0 + n) * 1))) ∧
 (k [(D.sl (0 + n) 1 ([] ++ (List.take (n * 1) (List.drop 0 l))))]))
 False)
 False)
 False))
 False) := by kernel_rfl
def gCIn (C : Ct) (L : AtLoop) (k : List D → Prop) : Prop := wpFn Try.prog (hE C) L 0 20 #[.slice none 0 0] (heapOf []) (dataK k)
theorem gCIn_text (C : Ct) (L : AtLoop) (k : List D → Prop) : gCIn C L k =
 (((0 = 0) ∧
 (0 = 0)) ∧
 (k [(D.sl 0 1 [])])) := by kernel_rfl
end Go.Proofs.G5b

/- Chapter 5: lists of numbers compared, in data. -/
namespace Go.Proofs.G5b
open Go Go.Abs Go.Proofs Go.Proofs.G5
set_option maxRecDepth 100000
/-- are two lists equal -/
theorem vi_at2 (l : List Int) (i : Nat) (h : i < l.length) : At (vi l) (0 + i * 1) 1 [vI l[i]] := vi_at l i h
theorem conIn (l m : List Int) (hl : l.length < 1000000000) : C5 15 [.sl l.length 1 (vi l), .sl m.length 1 (vi m)] [.val (.bool (decide (l = m)))] := by
  let inv : Nat × Nat × Nat → Prop := fun x => x.1 ≤ l.length ∧ l.length = m.length ∧ (l = m ↔ l.drop x.1 = m.drop x.1)
  let st : Nat × Nat × Nat → Slots × Blocks := fun x => (sIn l.length x.2.1 m.length x.2.2 x.1, [Q500 (vi l), Q501 (vi m)])
  refine con_of (L := fun _ s b => ∃ x, inv x ∧ st x = (s, b)) hok mixed Try.func15 rfl (by show 2 ≤ 400; omega) rfl (ids := [0]) (by kernel_rfl) rfl (fun caps => ?_) (fun id hid => ?_)
  · show gIn _ _ l.length (caps 500) (vi l) m.length (caps 501) (vi m) _
    rw [gIn_text]
    refine bc_bne (fun h => ?_) (fun h => ?_)
    · show _ = _
      rw [decide_eq_false (fun e => h (by rw [e]))]
    · exact ⟨(0, caps 500, caps 501), ⟨Nat.zero_le _, by show l.length = m.length; omega, Iff.rfl⟩, rfl⟩
  · obtain rfl := List.mem_singleton.1 hid
    refine ⟨Nat × Nat × Nat, st, inv, fun x => l.length - x.1, ⟨fun s b h => h, by kernel_rfl, ?_⟩⟩
    rintro ⟨i, c1, c2⟩ ⟨hi, hlm, hr⟩
    simp only at hi hr
    show rIn _ _ l.length c1 (vi l) m.length c2 (vi m) (i : Int) _ _ _
    rw [rIn_text]
    refine bc_dec (fun h => ?_) (fun h => ?_)
    · have h1 : i < l.length := by omega
      have h2 : i < m.length := by omega
      rw [List.drop_eq_getElem_cons h1, List.drop_eq_getElem_cons h2] at hr
      simp only [bc_t h, bc_t (show (i : Int) < (m.length : Int) by omega), bc_t (show (0 : Int) ≤ (i : Int) by omega), Int.toNat_natCast, at1 (vi_at l i h1), at1 (vi_at m i h2), eq_self, true_and, and_true]
      refine bc_bne (fun hc => ?_) (fun hc => ?_)
      · rw [bc_n hc]
        refine ⟨trivial, ?_⟩
        show _ = _
        rw [decide_eq_false (fun e => hc (List.cons.inj (hr.1 e)).1)]
      · refine ⟨bc_bne (fun h' => absurd hc h') (fun _ => trivial), ⟨i + 1, c1, c2⟩, ⟨by show i + 1 ≤ l.length; omega, hlm, ?_⟩, by show l.length - (i + 1) < l.length - i; omega, ?_⟩
        · show l = m ↔ l.drop (i + 1) = m.drop (i + 1)
          refine hr.trans ?_
          rw [hc]
          exact ⟨fun e => (List.cons.inj e).2, fun e => by rw [e]⟩
        · rw [w64 (by omega) (by omega)]; rfl
    · show (if 0 = 0 then _ else _)
      rw [if_pos rfl]
      show nIn _ _ _
      rw [nIn_text]
      show _ = _
      have e : l = m := hr.2 (by rw [List.drop_eq_nil_of_le (by omega), List.drop_eq_nil_of_le (by omega)])
      rw [decide_eq_true e]
theorem conInN : C5 15 [.nil, .nil] [.val (.bool true)] := by
  refine con_of (L := fun _ s b' => (sInN 0, []) = (s, b')) hok mixed Try.func15 rfl (by show 0 ≤ 400; omega) rfl (ids := [0]) (by kernel_rfl) rfl (fun caps => ?_) (fun id hid => ?_)
  · show gInN _ _ _
    rw [gInN_text]
    rfl
  · obtain rfl := List.mem_singleton.1 hid
    refine ⟨Unit, fun _ => (sInN 0, []), fun _ => True, fun _ => 0, ⟨fun s b h => ⟨(), trivial, h⟩, by kernel_rfl, ?_⟩⟩
    rintro _ _
    show rInN _ _ 0 _ _ _
    rw [rInN_text, bc_f (by omega)]
    show (if 0 = 0 then _ else _)
    rw [if_pos rfl]
    show nIn _ _ _
    rw [nIn_text]
end Go.Proofs.G5b

/- Chapter 5: corrections, heights after a tick, ticks of a chain, in data. -/
namespace Go.Proofs.G5b
open Go Go.Abs Go.Proofs Go.Proofs.G5
set_option maxRecDepth 100000
theorem conCo {p : Sv} (hp : LpV p) {h : Int} (hh : hgt h) : C5 43 [dS p, dI h] [dI (corr p h)] := by
  refine con_flat hokB mixed Try.func43 rfl (by show 0 ≤ 400; omega) rfl (by kernel_rfl) (fun caps => ?_)
  show gCo _ _ p.a p.b p.c p.d p.e p.f p.g h _
  have ha := hp.a; have hc := hp.c0; have hb := prod_bd hp hh; have hr := corr_bd hp hh
  unfold corr at hr
  rw [gCo_text, bc_n (show p.c ≠ 0 by omega), w64 (z := h - p.a) (by omega) (by omega), w64 (z := p.b * (h - p.a)) (by omega) (by omega), w64 (by omega) (by omega)]
  rfl
theorem conCA {ps : List Sv} {hs : List Int} (hv : ∀ p ∈ ps, LpV p) (hh : ∀ h ∈ hs, hgt h) (hl : hs.length = ps.length) (hn : ps.length ≤ 1000) {i : Nat} (hi : i ≤ ps.length) : C5 67 [.sl ps.length 7 (vs7 ps), dI i, .sl hs.length 1 (vi hs)] [dI (cA ps hs i)] := by
  refine con_flat hokB mixed Try.func67 rfl (by show 2 ≤ 400; omega) rfl (by kernel_rfl) (fun caps => ?_)
  show gCA _ _ ps.length (caps 500) (vs7 ps) i hs.length (caps 501) (vi hs) _
  rw [gCA_text]
  refine bc_beq (fun h => ?_) (fun h => ?_)
  · have : i = ps.length := by omega
    show _ = _
    rw [cA, if_pos this]
  · have h1 : i < ps.length := by omega
    have h2 : i < hs.length := by omega
    have hp := hv _ (List.getElem_mem h1)
    have hg := hh _ (List.getElem_mem h2)
    have ha := hp.a; have hc := hp.c0; have hb := prod_bd hp hg; have hr := corr_bd hp hg
    unfold corr at hr
    have e1 : At (vs7 ps) (Addr.off ⟨500, 0 + i * 7, none⟩ + 1) 1 [vI ps[i].b] := vs7_one ps i h1 1 _ rfl
    have e2 : At (vs7 ps) (Addr.off ⟨500, 0 + i * 7, none⟩ + 2) 1 [vI ps[i].c] := vs7_one ps i h1 2 _ rfl
    have e0 : At (vs7 ps) (0 + i * 7) 1 [vI ps[i].a] := vs7_one ps i h1 0 _ rfl
    simp only [bc_t (show (0 : Int) ≤ (i : Int) by omega), bc_t (show (i : Int) < (ps.length : Int) by omega), bc_t (show (i : Int) < (hs.length : Int) by omega), Int.toNat_natCast, at1 e0, at1 e1, at1 e2, at1 (vi_at hs i h2), bc_n (show ps[i].c ≠ 0 by omega), eq_self, true_and, and_true]
    rw [w64 (z := hs[i] - ps[i].a) (by omega) (by omega), w64 (z := ps[i].b * (hs[i] - ps[i].a)) (by omega) (by omega), w64 (by omega) (by omega)]
    show _ = _
    rw [cA, if_neg (by omega), gd_at h1, gd_at h2]
    rfl
abbrev aeS (ps : List Sv) (hs ds : List Int) (c1 c2 c3 : Nat) : Nat → Slots × Blocks
  | 0 => (sAe ps.length c1 hs.length c2 nilS 0, [L500 (vs7 ps), oMv 1000 hs.length c2 ds.length c3, Q501 (vi hs), Q502 (vi ds)])
  | i + 1 => (sAe ps.length c1 hs.length c2 (S1001 (i + 1)) ((i + 1 : Nat) : Int), [L500 (vs7 ps), oMv 1000 hs.length c2 ds.length c3, Q1001 (vi ((List.range (i + 1)).map (aftV ps hs ds))), Q501 (vi hs), Q502 (vi ds)])
theorem conAe {ps : List Sv} {hs ds : List Int} (hv : ∀ p ∈ ps, LpV p) (hh : ∀ h ∈ hs, hgt h) (hd : ∀ d ∈ ds, hgt d) (h0 : 0 < ps.length) (hl : hs.length = ps.length) (hm : ds.length = ps.length) (hn : ps.length ≤ 1000) :
    C5 41 [.sl ps.length 7 (vs7 ps), .agg [.sl hs.length 1 (vi hs), .sl ds.length 1 (vi ds)]] [.sl ps.length 1 (vi (aft ps hs ds))] := by
  let inv : Nat × Nat × Nat × Nat → Prop := fun y => y.1 ≤ ps.length
  let st : Nat × Nat × Nat × Nat → Slots × Blocks := fun y => aeS ps hs ds y.2.1 y.2.2.1 y.2.2.2 y.1
  refine con_of (L := fun _ s b => ∃ x, inv x ∧ st x = (s, b)) hokB mixed Try.func41 rfl (by show 3 ≤ 400; omega) rfl (ids := [0]) (by kernel_rfl) rfl (fun caps => ?_) (fun id hid => ?_)
  · show gAe _ _ ps.length (caps 500) (vs7 ps) hs.length (caps 501) (vi hs) ds.length (caps 502) (vi ds) _
    rw [gAe_text]
    exact ⟨(0, caps 500, caps 501, caps 502), Nat.zero_le _, rfl⟩
  · obtain rfl := List.mem_singleton.1 hid
    refine ⟨Nat × Nat × Nat × Nat, st, inv, fun y => ps.length - y.1, ⟨fun s b h => h, by kernel_rfl, ?_⟩⟩
    rintro ⟨i, c1, c2, c3⟩ hi
    have hi : i ≤ ps.length := hi
    have step : ∀ (h : i < ps.length), IntKind.wrap .i64 (IntKind.wrap .i64 (IntKind.wrap .i64 (hs[i]'(by omega) - cA ps hs i) + cA ps hs (i + 1)) + ds[i]'(by omega)) = aftV ps hs ds i := by
      intro h
      have b1 := cA_bd hv hh hl (i := i) (by omega)
      have b2 := cA_bd hv hh hl (i := i + 1) (by omega)
      have b3 := hh _ (List.getElem_mem (show i < hs.length by omega))
      have b4 := hd _ (List.getElem_mem (show i < ds.length by omega))
      rw [w64 (z := hs[i]'(by omega) - cA ps hs i) (by omega) (by omega), w64 (z := hs[i]'(by omega) - cA ps hs i + cA ps hs (i + 1)) (by omega) (by omega), w64 (by omega) (by omega), aftV, gd_at (show i < hs.length by omega), gd_at (show i < ds.length by omega)]
    have wi : i < ps.length → IntKind.wrap .i64 ((i : Int) + 1) = ((i + 1 : Nat) : Int) := fun h => by rw [w64 (by omega) (by omega)]; rfl
    cases i with
    | zero =>
      show rAe0 _ _ ps.length c1 (vs7 ps) hs.length c2 (vi hs) ds.length c3 (vi ds) ((0 : Nat) : Int) _ _ _
      rw [rAe0_text]
      simp only [bc_t (show ((0 : Nat) : Int) < (hs.length : Int) by omega), bc_t (show ((0 : Nat) : Int) < (ds.length : Int) by omega), bc_t (show (0 : Int) ≤ ((0 : Nat) : Int) by omega), Int.toNat_natCast, at1 (vi_at hs 0 (by omega)), at1 (vi_at ds 0 (by omega)), bc_t (v7le ps), bc_t (v1le hs), vs7_whole, vi_whole, wi h0, eq_self, true_and, and_true]
      refine ⟨_, ⟨conCA hv hh hl hn (i := 0) (by omega)⟩, _, ⟨conCA hv hh hl hn (i := 1) (by omega)⟩, ?_⟩
      refine ⟨(1, c1, c2, c3), h0, by show ps.length - 1 < ps.length - 0; omega, ?_⟩
      have := step h0
      rw [this]
      rfl
    | succ i =>
      show rAe1 _ _ ps.length c1 (vs7 ps) hs.length c2 (vi hs) ds.length c3 (vi ds) (i + 1) (vi ((List.range (i + 1)).map (aftV ps hs ds))) ((i + 1 : Nat) : Int) _ _ _
      rw [rAe1_text]
      refine bc_dec (fun h => ?_) (fun h => ?_)
      · have h1 : i + 1 < ps.length := by omega
        simp only [bc_t h, bc_t (show ((i + 1 : Nat) : Int) < (ds.length : Int) by omega), bc_t (show (0 : Int) ≤ ((i + 1 : Nat) : Int) by omega), Int.toNat_natCast, at1 (vi_at hs (i + 1) (by omega)), at1 (vi_at ds (i + 1) (by omega)), bc_t (v7le ps), bc_t (v1le hs), vs7_whole, vi_whole, wi h1, rg_take, eq_self, true_and, and_true]
        refine ⟨_, ⟨conCA hv hh hl hn (i := i + 1) (by omega)⟩, _, ⟨conCA hv hh hl hn (i := i + 2) (by omega)⟩, ?_⟩
        refine bc_yes (by omega) (bc_yes (by omega) (bc_yes (by omega) (bc_yes (by simp) (bc_yes (by simp) ⟨(i + 2, c1, c2, c3), h1, by show ps.length - (i + 2) < ps.length - (i + 1); omega, ?_⟩))))
        have := step h1
        rw [this]
        have e := rg_snoc (aftV ps hs ds) (i + 1)
        show (_, [L500 (vs7 ps), oMv 1000 hs.length c2 ds.length c3, (1001, AObj.sym (vi ((List.range (i + 1 + 1)).map (aftV ps hs ds))) true 1), Q501 (vi hs), Q502 (vi ds)]) = _
        rw [← e]; rfl
      · show (if 0 = 0 then _ else _)
        rw [if_pos rfl]
        show nAe1 _ _ (i + 1) (vi ((List.range (i + 1)).map (aftV ps hs ds))) _
        rw [nAe1_text]
        refine ⟨by simp, ?_⟩
        have : i + 1 = ps.length := by omega
        show _ = _
        rw [aft, ← this]
abbrev afS (ps : List Sv) (hs ds : List Int) (c1 c2 c3 : Nat) : Nat → Slots × Blocks
  | 0 => (sAf hs.length c2 ds.length c3 nilS 0, [Q501 (vi hs), Q502 (vi ds), oCh 1000 ps.length c1, L500 (vs7 ps)])
  | i + 1 => (sAf hs.length c2 ds.length c3 (S1001 (i + 1)) ((i + 1 : Nat) : Int), [Q501 (vi hs), Q502 (vi ds), oCh 1000 ps.length c1, Q1001 (vi ((List.range (i + 1)).map (aftV ps hs ds))), L500 (vs7 ps)])
theorem conRAf {ps : List Sv} {hs ds : List Int} (hv : ∀ p ∈ ps, LpV p) (hh : ∀ h ∈ hs, hgt h) (hd : ∀ d ∈ ds, hgt d) (h0 : 0 < ps.length) (hl : hs.length = ps.length) (hm : ds.length = ps.length) (hn : ps.length ≤ 1000) :
    C5 16 [.agg [.sl ps.length 7 (vs7 ps)], .sl hs.length 1 (vi hs), .sl ds.length 1 (vi ds)] [.sl ps.length 1 (vi (aft ps hs ds))] := by
  let inv : Nat × Nat × Nat × Nat → Prop := fun y => y.1 ≤ ps.length
  let st : Nat × Nat × Nat × Nat → Slots × Blocks := fun y => afS ps hs ds y.2.1 y.2.2.1 y.2.2.2 y.1
  refine con_of (L := fun _ s b => ∃ x, inv x ∧ st x = (s, b)) hokB mixed Try.func16 rfl (by show 3 ≤ 400; omega) rfl (ids := [0]) (by kernel_rfl) rfl (fun caps => ?_) (fun id hid => ?_)
  · show gRAe _ _ ps.length (caps 500) (vs7 ps) hs.length (caps 501) (vi hs) ds.length (caps 502) (vi ds) _
    rw [gRAe_text]
    exact ⟨(0, caps 500, caps 501, caps 502), Nat.zero_le _, rfl⟩
  · obtain rfl := List.mem_singleton.1 hid
    refine ⟨Nat × Nat × Nat × Nat, st, inv, fun y => ps.length - y.1, ⟨fun s b h => h, by kernel_rfl, ?_⟩⟩
    rintro ⟨i, c1, c2, c3⟩ hi
    have hi : i ≤ ps.length := hi
    have step1 : ∀ (h : i + 1 < ps.length), IntKind.wrap .i64 (IntKind.wrap .i64 (IntKind.wrap .i64 (hs[i]'(by omega) - corr (ps[i]'(by omega)) (hs[i]'(by omega))) + ds[i]'(by omega)) + corr (ps[i + 1]'(by omega)) (hs[i + 1]'(by omega))) = aftV ps hs ds i := by
      intro h
      have b1 := corr_bd (hv _ (List.getElem_mem (show i < ps.length by omega))) (hh _ (List.getElem_mem (show i < hs.length by omega)))
      have b2 := corr_bd (hv _ (List.getElem_mem (show i + 1 < ps.length by omega))) (hh _ (List.getElem_mem (show i + 1 < hs.length by omega)))
      have b3 := hh _ (List.getElem_mem (show i < hs.length by omega))
      have b4 := hd _ (List.getElem_mem (show i < ds.length by omega))
      rw [w64 (z := hs[i]'(by omega) - _) (by omega) (by omega), w64 (z := _ + ds[i]'(by omega)) (by omega) (by omega), w64 (by omega) (by omega), aftV, cA, cA, if_neg (by omega), if_neg (by omega), gd_at (show i < hs.length by omega), gd_at (show i < ds.length by omega), gd_at (show i < ps.length by omega), gd_at (show i + 1 < ps.length by omega), gd_at (show i + 1 < hs.length by omega)]
      omega
    have step2 : ∀ (h : i + 1 = ps.length), IntKind.wrap .i64 (IntKind.wrap .i64 (hs[i]'(by omega) - corr (ps[i]'(by omega)) (hs[i]'(by omega))) + ds[i]'(by omega)) = aftV ps hs ds i := by
      intro h
      have b1 := corr_bd (hv _ (List.getElem_mem (show i < ps.length by omega))) (hh _ (List.getElem_mem (show i < hs.length by omega)))
      have b3 := hh _ (List.getElem_mem (show i < hs.length by omega))
      have b4 := hd _ (List.getElem_mem (show i < ds.length by omega))
      rw [w64 (z := hs[i]'(by omega) - _) (by omega) (by omega), w64 (by omega) (by omega), aftV, cA, cA, if_neg (by omega), if_pos (by omega), gd_at (show i < hs.length by omega), gd_at (show i < ds.length by omega), gd_at (show i < ps.length by omega)]
      omega
    have wi : i < ps.length → IntKind.wrap .i64 ((i : Int) + 1) = ((i + 1 : Nat) : Int) := fun h => by rw [w64 (by omega) (by omega)]; rfl
    cases i with
    | zero =>
      show rAf0 _ _ ps.length c1 (vs7 ps) hs.length c2 (vi hs) ds.length c3 (vi ds) ((0 : Nat) : Int) _ _ _
      rw [rAf0_text]
      simp only [bc_t (show ((0 : Nat) : Int) < (ps.length : Int) by omega), bc_t (show ((0 : Nat) : Int) < (hs.length : Int) by omega), bc_t (show ((0 : Nat) : Int) < (ds.length : Int) by omega), bc_t (show (0 : Int) ≤ ((0 : Nat) : Int) by omega), Int.toNat_natCast, at1 (vi_at hs 0 (by omega)), at1 (vi_at ds 0 (by omega)), at7 (vs7_all ps 0 h0), wi h0, eq_self, true_and, and_true]
      refine ⟨_, ⟨conCo (hv _ (List.getElem_mem h0)) (hh _ (List.getElem_mem (show 0 < hs.length by omega)))⟩, bc_dec (fun h => ?_) (fun h => ?_)⟩
      · have h1 : 0 + 1 < ps.length := by omega
        simp only [bc_t h, bc_t (show (0 : Int) ≤ ((0 + 1 : Nat) : Int) by omega), bc_t (show ((0 + 1 : Nat) : Int) < (hs.length : Int) by omega), Int.toNat_natCast, at1 (vi_at hs (0 + 1) (by omega)), at7 (vs7_all ps (0 + 1) h1), eq_self, true_and, and_true]
        refine ⟨_, ⟨conCo (hv _ (List.getElem_mem h1)) (hh _ (List.getElem_mem (show 0 + 1 < hs.length by omega)))⟩, ?_⟩
        refine ⟨(1, c1, c2, c3), h0, by show ps.length - 1 < ps.length - 0; omega, ?_⟩
        have := step1 h1
        rw [this]
        rfl
      · refine ⟨(1, c1, c2, c3), h0, by show ps.length - 1 < ps.length - 0; omega, ?_⟩
        have := step2 (by omega)
        rw [this]
        rfl
    | succ i =>
      show rAf1 _ _ ps.length c1 (vs7 ps) hs.length c2 (vi hs) ds.length c3 (vi ds) (i + 1) (vi ((List.range (i + 1)).map (aftV ps hs ds))) ((i + 1 : Nat) : Int) _ _ _
      rw [rAf1_text]
      refine bc_dec (fun h => ?_) (fun h => ?_)
      · have h1 : i + 1 < ps.length := by omega
        simp only [bc_t h, bc_t (show ((i + 1 : Nat) : Int) < (hs.length : Int) by omega), bc_t (show ((i + 1 : Nat) : Int) < (ds.length : Int) by omega), bc_t (show (0 : Int) ≤ ((i + 1 : Nat) : Int) by omega), Int.toNat_natCast, at1 (vi_at hs (i + 1) (by omega)), at1 (vi_at ds (i + 1) (by omega)), at7 (vs7_all ps (i + 1) h1), wi h1, rg_take, eq_self, true_and, and_true]
        refine ⟨_, ⟨conCo (hv _ (List.getElem_mem h1)) (hh _ (List.getElem_mem (show i + 1 < hs.length by omega)))⟩, bc_dec (fun h => ?_) (fun h => ?_)⟩
        · have h2 : i + 1 + 1 < ps.length := by omega
          simp only [bc_t h, bc_t (show (0 : Int) ≤ ((i + 1 + 1 : Nat) : Int) by omega), bc_t (show ((i + 1 + 1 : Nat) : Int) < (hs.length : Int) by omega), Int.toNat_natCast, at1 (vi_at hs (i + 1 + 1) (by omega)), at7 (vs7_all ps (i + 1 + 1) h2), eq_self, true_and, and_true]
          refine ⟨_, ⟨conCo (hv _ (List.getElem_mem h2)) (hh _ (List.getElem_mem (show i + 1 + 1 < hs.length by omega)))⟩, ?_⟩
          refine bc_yes (by omega) (bc_yes (by omega) (bc_yes (by omega) (bc_yes (by simp) (bc_yes (by simp) ⟨(i + 2, c1, c2, c3), h1, by show ps.length - (i + 2) < ps.length - (i + 1); omega, ?_⟩))))
          have := step1 h2
          rw [this]
          have e := rg_snoc (aftV ps hs ds) (i + 1)
          show (_, [Q501 (vi hs), Q502 (vi ds), oCh 1000 ps.length c1, (1001, AObj.sym (vi ((List.range (i + 1 + 1)).map (aftV ps hs ds))) true 1), L500 (vs7 ps)]) = _
          rw [← e]; rfl
        · refine bc_yes (by omega) (bc_yes (by omega) (bc_yes (by omega) (bc_yes (by simp) (bc_yes (by simp) ⟨(i + 2, c1, c2, c3), h1, by show ps.length - (i + 2) < ps.length - (i + 1); omega, ?_⟩))))
          have := step2 (by omega)
          rw [this]
          have e := rg_snoc (aftV ps hs ds) (i + 1)
          show (_, [Q501 (vi hs), Q502 (vi ds), oCh 1000 ps.length c1, (1001, AObj.sym (vi ((List.range (i + 1 + 1)).map (aftV ps hs ds))) true 1), L500 (vs7 ps)]) = _
          rw [← e]; rfl
      · show (if 0 = 0 then _ else _)
        rw [if_pos rfl]
        show nAf1 _ _ (i + 1) (vi ((List.range (i + 1)).map (aftV ps hs ds))) _
        rw [nAf1_text]
        refine ⟨by simp, ?_⟩
        have : i + 1 = ps.length := by omega
        show _ = _
        rw [aft, ← this]
end Go.Proofs.G5b

/- Chapter 5: a tick of a chain, with its errors, in data. -/
namespace Go.Proofs.G5b
open Go Go.Abs Go.Proofs Go.Proofs.G5
set_option maxRecDepth 100000
theorem mvGo_at {ps : List Sv} {hs ds : List Int} {i : Nat} (h1 : i < ps.length) (h2 : i < hs.length) (h3 : i < ds.length) :
    mvGo (ps.drop i) (hs.drop i) (ds.drop i) = if ps[i].f ≤ hs[i] ∧ hs[i] ≤ ps[i].g then (if ps[i].d ≤ ds[i] ∧ ds[i] ≤ ps[i].e then mvGo (ps.drop (i + 1)) (hs.drop (i + 1)) (ds.drop (i + 1)) else 2) else 22 := by
  rw [List.drop_eq_getElem_cons h1, List.drop_eq_getElem_cons h2, List.drop_eq_getElem_cons h3]; rfl
theorem mvGo_end {ps : List Sv} {hs ds : List Int} {i : Nat} (h : ps.length ≤ i) : mvGo (ps.drop i) (hs.drop i) (ds.drop i) = 0 := by
  rw [List.drop_eq_nil_of_le h]; simp [mvGo]
def stD (ps : List Sv) (hs ds : List Int) : List D :=
  if (chE ps).2 ≠ 0 then [.nil, dI (chE ps).2] else if mvE ps hs ds ≠ 0 then [.nil, dI (mvE ps hs ds)] else [.sl ps.length 1 (vi (aft ps hs ds)), dI 0]
theorem sameE2 (a b c : Int) : sameE a [b, c] = if b ≠ a ∨ c ≠ a then 10 else 0 := by
  simp only [sameE]
  repeat' split
  all_goals first | rfl | omega
theorem conSt (ps : List Sv) (hs ds : List Int) (hn : ps.length ≤ 1000) : C5 11 [.agg [.sl ps.length 7 (vs7 ps)], .agg [.sl hs.length 1 (vi hs), .sl ds.length 1 (vi ds)]] (stD ps hs ds) := by
  let inv : Nat × Nat × Nat × Nat → Prop := fun y => y.1 ≤ ps.length ∧ (chE ps).2 = 0 ∧ hs.length = ps.length ∧ ds.length = ps.length ∧ mvE ps hs ds = mvGo (ps.drop y.1) (hs.drop y.1) (ds.drop y.1)
  let st : Nat × Nat × Nat × Nat → Slots × Blocks := fun y => (sSt ps.length y.2.1 y.1, [oMv 1000 hs.length y.2.2.1 ds.length y.2.2.2, L500 (vs7 ps), Q501 (vi hs), Q502 (vi ds)])
  refine con_of (L := fun _ s b => ∃ x, inv x ∧ st x = (s, b)) hokB mixed Try.func11 rfl (by show 3 ≤ 400; omega) rfl (ids := [0]) (by kernel_rfl) rfl (fun caps => ?_) (fun id hid => ?_)
  · show gSt _ _ ps.length (caps 500) (vs7 ps) hs.length (caps 501) (vi hs) ds.length (caps 502) (vi ds) _
    rw [gSt_text]
    simp only [bc_t (v7le ps), vs7_whole, eq_self, true_and, and_true]
    refine ⟨_, _, ⟨conC9 ps (by omega)⟩, bc_bne (fun h => ?_) (fun h => ?_)⟩
    · refine ⟨_, ⟨conCS 0 [(hs.length : Int), (ds.length : Int)] (by simp)⟩, _, ⟨conFE [(chE ps).2, sameE 0 [(hs.length : Int), (ds.length : Int)]] (by simp)⟩, ?_⟩
      rw [fst0_two, if_neg h]
      refine bc_bne (fun _ => ?_) (fun h' => absurd h' h)
      show _ = _
      rw [stD, if_pos h]
    · refine ⟨_, ⟨conCS (ps.length : Int) [(hs.length : Int), (ds.length : Int)] (by simp)⟩, _, ⟨conFE [0, sameE (ps.length : Int) [(hs.length : Int), (ds.length : Int)]] (by simp)⟩, ?_⟩
      rw [fst0_two, if_pos rfl, sameE2]
      by_cases hl : hs.length ≠ ps.length ∨ ds.length ≠ ps.length
      · rw [if_pos (show (hs.length : Int) ≠ (ps.length : Int) ∨ (ds.length : Int) ≠ (ps.length : Int) by omega)]
        refine bc_bne (fun _ => ?_) (fun h' => absurd h' (by decide))
        have hm : mvE ps hs ds = 10 := if_pos hl
        show _ = _
        rw [stD, if_neg (fun x => x h), hm, if_pos (by decide)]
      · rw [if_neg (show ¬ ((hs.length : Int) ≠ (ps.length : Int) ∨ (ds.length : Int) ≠ (ps.length : Int)) by omega)]
        refine bc_bne (fun h' => absurd rfl h') (fun _ => ?_)
        exact ⟨(0, caps 500, caps 501, caps 502), ⟨Nat.zero_le _, h, by omega, by omega, if_neg hl⟩, rfl⟩
  · obtain rfl := List.mem_singleton.1 hid
    refine ⟨Nat × Nat × Nat × Nat, st, inv, fun y => ps.length - y.1, ⟨fun s b h => h, by kernel_rfl, ?_⟩⟩
    rintro ⟨i, c1, c2, c3⟩ ⟨hi, hc, hl, hm, hr⟩
    simp only at hi hr
    show rSt _ _ ps.length c1 (vs7 ps) hs.length c2 (vi hs) ds.length c3 (vi ds) (i : Int) _ _ _
    rw [rSt_text]
    refine bc_dec (fun h => ?_) (fun h => ?_)
    · have h1 : i < ps.length := by omega
      rw [mvGo_at h1 (by omega) (by omega)] at hr
      simp only [bc_t h, bc_t (show (0 : Int) ≤ (i : Int) by omega), bc_t (show (i : Int) < (hs.length : Int) by omega), bc_t (show (i : Int) < (ds.length : Int) by omega), Int.toNat_natCast, at1 (vi_at hs i (by omega)), at1 (vi_at ds i (by omega)), at7 (vs7_all ps i h1), eq_self, true_and, and_true]
      refine ⟨_, wit_rng, _, wit_rng, _, ⟨conFE [rngE ps[i].f ps[i].g 22 hs[i], rngE ps[i].d ps[i].e 2 ds[i]] (by simp)⟩, ?_⟩
      have he : fst0 [rngE ps[i].f ps[i].g 22 hs[i], rngE ps[i].d ps[i].e 2 ds[i]] = if ps[i].f ≤ hs[i] ∧ hs[i] ≤ ps[i].g then (if ps[i].d ≤ ds[i] ∧ ds[i] ≤ ps[i].e then 0 else 2) else 22 := by
        rw [fst0_rng (by decide), fst0_rng (by decide)]; rfl
      rw [he]
      by_cases q1 : ps[i].f ≤ hs[i] ∧ hs[i] ≤ ps[i].g
      · rw [if_pos q1] at hr ⊢
        by_cases q2 : ps[i].d ≤ ds[i] ∧ ds[i] ≤ ps[i].e
        · rw [if_pos q2] at hr ⊢
          refine bc_bne (fun h' => absurd rfl h') (fun _ => ?_)
          refine ⟨(i + 1, c1, c2, c3), ⟨h1, hc, hl, hm, hr⟩, by show ps.length - (i + 1) < ps.length - i; omega, ?_⟩
          rw [w64 (by omega) (by omega)]; rfl
        · rw [if_neg q2] at hr ⊢
          refine bc_bne (fun _ => ?_) (fun h' => absurd h' (by decide))
          show _ = _
          rw [stD, if_neg (fun x => x hc), hr, if_pos (by decide)]
      · rw [if_neg q1] at hr ⊢
        refine bc_bne (fun _ => ?_) (fun h' => absurd h' (by decide))
        show _ = _
        rw [stD, if_neg (fun x => x hc), hr, if_pos (by decide)]
    · show (if 0 = 0 then _ else _)
      rw [if_pos rfl]
      show nSt _ _ ps.length c1 (vs7 ps) hs.length c2 (vi hs) ds.length c3 (vi ds) _
      rw [nSt_text]
      rw [mvGo_end (by omega)] at hr
      have hok := chE_ok hc
      have hmv : mvGo ps hs ds = 0 := by
        unfold mvE at hr
        rwa [if_neg (by omega)] at hr
      have hb := mvGo_ok hl hm hmv hok.2.2
      simp only [bc_t (v7le ps), bc_t (v1le hs), bc_t (v1le ds), vs7_whole, vi_whole, eq_self, true_and, and_true]
      refine .inr ⟨_, _, ⟨conAe hok.2.2 hb.1 hb.2 hok.1 hl hm hn⟩, by simp [aft_length], ?_⟩
      show _ = _
      rw [stD, if_neg (fun x => x hc), hr, if_neg (by decide)]
theorem conMv (ps : List Sv) (hs ds : List Int) (hn : ps.length ≤ 1000) : C5 14 [.agg [.sl ps.length 7 (vs7 ps)], .agg [.sl hs.length 1 (vi hs), .sl ds.length 1 (vi ds)]] [dI (mvE ps hs ds)] := by
  let inv : Nat × Nat × Nat × Nat → Prop := fun y => y.1 ≤ ps.length ∧ hs.length = ps.length ∧ ds.length = ps.length ∧ mvE ps hs ds = mvGo (ps.drop y.1) (hs.drop y.1) (ds.drop y.1)
  let st : Nat × Nat × Nat × Nat → Slots × Blocks := fun y => (sMv y.1, [oCh 1000 ps.length y.2.1, oMv 1001 hs.length y.2.2.1 ds.length y.2.2.2, L500 (vs7 ps), Q501 (vi hs), Q502 (vi ds)])
  refine con_of (L := fun _ s b => ∃ x, inv x ∧ st x = (s, b)) hokB mixed Try.func14 rfl (by show 3 ≤ 400; omega) rfl (ids := [0]) (by kernel_rfl) rfl (fun caps => ?_) (fun id hid => ?_)
  · show gMv _ _ ps.length (caps 500) (vs7 ps) hs.length (caps 501) (vi hs) ds.length (caps 502) (vi ds) _
    rw [gMv_text]
    refine bc_bne (fun h => ?_) (fun h => bc_bne (fun h2 => ?_) (fun h2 => ?_))
    · show _ = _; rw [mvE, if_pos (.inl (by omega))]
    · show _ = _; rw [mvE, if_pos (.inr (by omega))]
    · exact ⟨(0, caps 500, caps 501, caps 502), ⟨Nat.zero_le _, by omega, by omega, by rw [mvE, if_neg (by omega)]; rfl⟩, rfl⟩
  · obtain rfl := List.mem_singleton.1 hid
    refine ⟨Nat × Nat × Nat × Nat, st, inv, fun y => ps.length - y.1, ⟨fun s b h => h, by kernel_rfl, ?_⟩⟩
    rintro ⟨i, c1, c2, c3⟩ ⟨hi, hl, hm, hr⟩
    simp only at hi hr
    show rMv _ _ ps.length c1 (vs7 ps) hs.length c2 (vi hs) ds.length c3 (vi ds) (i : Int) _ _ _
    rw [rMv_text]
    refine bc_dec (fun h => ?_) (fun h => ?_)
    · have h1 : i < ps.length := by omega
      rw [mvGo_at h1 (by omega) (by omega)] at hr
      simp only [bc_t h, bc_t (show (0 : Int) ≤ (i : Int) by omega), bc_t (show (i : Int) < (hs.length : Int) by omega), bc_t (show (i : Int) < (ds.length : Int) by omega), Int.toNat_natCast, at1 (vi_at hs i (by omega)), at1 (vi_at ds i (by omega)), at7 (vs7_all ps i h1), eq_self, true_and, and_true]
      by_cases q1 : ps[i].f ≤ hs[i] ∧ hs[i] ≤ ps[i].g
      · rw [if_pos q1] at hr
        refine .inl ⟨sayWt q1, ?_⟩
        by_cases q2 : ps[i].d ≤ ds[i] ∧ ds[i] ≤ ps[i].e
        · rw [if_pos q2] at hr
          refine .inl ⟨sayWt q2, ?_⟩
          refine ⟨(i + 1, c1, c2, c3), ⟨h1, hl, hm, hr⟩, by show ps.length - (i + 1) < ps.length - i; omega, ?_⟩
          rw [w64 (by omega) (by omega)]; rfl
        · rw [if_neg q2] at hr
          refine .inr ⟨sayWf q2, ?_⟩
          show _ = _
          rw [hr]
      · rw [if_neg q1] at hr
        refine .inr ⟨sayWf q1, ?_⟩
        show _ = _
        rw [hr]
    · show (if 0 = 0 then _ else _)
      rw [if_pos rfl]
      show nMv _ _ _
      rw [nMv_text]
      rw [mvGo_end (by omega)] at hr
      show _ = _
      rw [hr]
end Go.Proofs.G5b

/- GaugeChains in data. -/
namespace Go.Proofs.G5b
open Go Go.Abs Go.Proofs Go.Proofs.G5
set_option maxRecDepth 100000
theorem hokE' : HandlerOK Try.prog (hE C5) := handlerX_ok mixed (fun g h he => by cases he) (by decide) 6
theorem conCpC (l : List Sv) (hl : l.length ≤ 1000000) : C5 10 [.agg [.sl l.length 7 (vs7 l)]] [.agg [.sl l.length 7 (vs7 l)]] := by
  refine con_flat hokE' mixed Try.func10 rfl (by show 1 ≤ 400; omega) rfl (by kernel_rfl) (fun caps => ?_)
  show gCpC _ _ l.length (caps 500) (vs7 l) _
  rw [gCpC_text]
  refine bc_yes (by simp) (bc_beq (fun h0 => ⟨⟨rfl, rfl⟩, ?_⟩) (fun h0 => bc_yes (by omega) (bc_yes (by omega) (bc_yes (by omega) ⟨⟨rfl, by simp⟩, ?_⟩))))
  · obtain rfl : l = [] := List.length_eq_zero_iff.1 h0
    rfl
  · rw [vs7_whole, Nat.zero_add, List.nil_append]
theorem conCpCn : C5 10 [.agg [.nil]] [.agg [.sl 0 7 []]] := by
  refine con_flat hokE' mixed Try.func10 rfl (by show 0 ≤ 400; omega) rfl (by kernel_rfl) (fun caps => ?_)
  show gCpCn _ _ _
  rw [gCpCn_text]
  exact ⟨⟨rfl, rfl⟩, rfl⟩
theorem conSm (l : List Sv) : C5 8 [.agg [.sl l.length 7 (vs7 l)]] [.val (.bool (decide (l.length ≤ 7)))] := by
  refine con_flat hokE' mixed Try.func8 rfl (by show 1 ≤ 400; omega) rfl (by kernel_rfl) (fun caps => ?_)
  show gSm _ _ l.length (caps 500) (vs7 l) _
  rw [gSm_text]
  refine bc_dec (fun h => ?_) (fun h => ?_)
  · show _ = _; rw [decide_eq_true (by omega)]
  · show _ = _; rw [decide_eq_false (by omega)]
theorem conSmn : C5 8 [.agg [.nil]] [.val (.bool true)] := by
  refine con_flat hokE' mixed Try.func8 rfl (by show 0 ≤ 400; omega) rfl (by kernel_rfl) (fun caps => ?_)
  show gSmn _ _ _
  rw [gSmn_text]
theorem conR9n : C5 13 [.agg [.nil]] [dI 0, dI 10] := by
  refine con_of (L := fun _ _ _ => False) hokB mixed Try.func13 rfl (by show 0 ≤ 400; omega) rfl (ids := [0]) (by kernel_rfl) rfl (fun caps => ?_) (fun id hid => ?_)
  · show gR9n _ _ _
    rw [gR9n_text]
  · obtain rfl := List.mem_singleton.1 hid
    exact ⟨Unit, fun _ => ([], []), fun _ => False, fun _ => 0, ⟨fun s b h => h.elim, by kernel_rfl, fun _ h => h.elim⟩⟩
theorem conCIx (l : List Int) (hl : l.length ≤ 1000000) : C5 20 [.sl l.length 1 (vi l)] [.sl l.length 1 (vi l)] := by
  refine con_flat hokE' mixed Try.func20 rfl (by show 1 ≤ 400; omega) rfl (by kernel_rfl) (fun caps => ?_)
  show gCI _ _ l.length (caps 500) (vi l) _
  rw [gCI_text]
  refine bc_yes (by simp) (bc_beq (fun h0 => ⟨⟨rfl, rfl⟩, ?_⟩) (fun h0 => bc_yes (by omega) (bc_yes (by omega) (bc_yes (by omega) ⟨⟨rfl, by simp⟩, ?_⟩))))
  · obtain rfl : l = [] := List.length_eq_zero_iff.1 h0
    rfl
  · rw [vi_whole, Nat.zero_add, List.nil_append]
theorem conCIxn : C5 20 [.nil] [.sl 0 1 []] := by
  refine con_flat hokE' mixed Try.func20 rfl (by show 0 ≤ 400; omega) rfl (by kernel_rfl) (fun caps => ?_)
  show gCIn _ _ _
  rw [gCIn_text]
  exact ⟨⟨rfl, rfl⟩, rfl⟩
theorem chE_nil : chE [] = (0, 10) := rfl
theorem conIIx (r : List Int) (h : r.length < 1000000000) : C5 15 [.sl r.length 1 (vi r), .sl r.length 1 (vi r)] [.val (.bool true)] := by
  have := conIn r r h
  rwa [decide_eq_true rfl] at this
theorem conMvsn (ps : List Sv) (hs : List Int) (h0 : 0 < ps.length) : C5 14 [.agg [.sl ps.length 7 (vs7 ps)], .agg [.sl hs.length 1 (vi hs), .nil]] [dI 10] := by
  refine con_of (L := fun _ _ _ => False) hokB mixed Try.func14 rfl (by show 2 ≤ 400; omega) rfl (ids := [0]) (by kernel_rfl) rfl (fun caps => ?_) (fun id hid => ?_)
  · show gMvsn _ _ ps.length (caps 500) (vs7 ps) hs.length (caps 501) (vi hs) _
    rw [gMvsn_text]
    exact bc_bne (fun _ => rfl) (fun _ => bc_bne (fun _ => rfl) (fun h2 => absurd h2 (by omega)))
  · obtain rfl := List.mem_singleton.1 hid
    exact ⟨Unit, fun _ => ([], []), fun _ => False, fun _ => 0, ⟨fun s b h => h.elim, by kernel_rfl, fun _ h => h.elim⟩⟩
theorem conMvns (ps : List Sv) (ds : List Int) (h0 : 0 < ps.length) : C5 14 [.agg [.sl ps.length 7 (vs7 ps)], .agg [.nil, .sl ds.length 1 (vi ds)]] [dI 10] := by
  refine con_of (L := fun _ _ _ => False) hokB mixed Try.func14 rfl (by show 2 ≤ 400; omega) rfl (ids := [0]) (by kernel_rfl) rfl (fun caps => ?_) (fun id hid => ?_)
  · show gMvns _ _ ps.length (caps 500) (vs7 ps) ds.length (caps 501) (vi ds) _
    rw [gMvns_text]
    exact bc_bne (fun _ => rfl) (fun h2 => absurd h2 (by omega))
  · obtain rfl := List.mem_singleton.1 hid
    exact ⟨Unit, fun _ => ([], []), fun _ => False, fun _ => 0, ⟨fun s b h => h.elim, by kernel_rfl, fun _ h => h.elim⟩⟩
theorem conMvnn (ps : List Sv) (h0 : 0 < ps.length) : C5 14 [.agg [.sl ps.length 7 (vs7 ps)], .agg [.nil, .nil]] [dI 10] := by
  refine con_of (L := fun _ _ _ => False) hokB mixed Try.func14 rfl (by show 1 ≤ 400; omega) rfl (ids := [0]) (by kernel_rfl) rfl (fun caps => ?_) (fun id hid => ?_)
  · show gMvnn _ _ ps.length (caps 500) (vs7 ps) _
    rw [gMvnn_text]
    exact bc_bne (fun _ => rfl) (fun h2 => absurd h2 (by omega))
  · obtain rfl := List.mem_singleton.1 hid
    exact ⟨Unit, fun _ => ([], []), fun _ => False, fun _ => 0, ⟨fun s b h => h.elim, by kernel_rfl, fun _ h => h.elim⟩⟩
theorem conLsss (ps : List Sv) (hs : List Int) (ds : List Int) : C5 3 [.agg [.sl ps.length 7 (vs7 ps)], .agg [.sl hs.length 1 (vi hs), .sl ds.length 1 (vi ds)]] [.val (.bool true)] := by
  refine con_flat hokB mixed Try.func3 rfl (by show 3 ≤ 400; omega) rfl (by kernel_rfl) (fun caps => ?_)
  show gLw _ _ ps.length (caps 500) (vs7 ps) hs.length (caps 501) (vi hs) ds.length (caps 502) (vi ds) _
  rw [gLw_text]
  try simp only [bc_t (v7le ps), vs7_whole, bc_t (v1le hs), vi_whole, bc_t (v1le ds), eq_self, true_and, and_true]
  refine .inl ⟨⟨con6⟩, ?_⟩
  by_cases h7 : ps.length ≤ 7
  case neg =>
    refine .inr ⟨?_⟩
    have := conSm ps
    rwa [decide_eq_false h7] at this
  have cSm := conSm ps
  rw [decide_eq_true h7] at cSm
  refine .inl ⟨⟨cSm⟩, ?_⟩
  refine bc_dec (fun _ => trivial) (fun hb => ?_)
  refine bc_dec (fun _ => trivial) (fun hc => ?_)
  have c11 := conSt ps hs ds (by omega)
  refine ⟨⟨conCpC ps (by omega)⟩, _, _, ⟨conC9 ps (by omega)⟩, ⟨conCpC ps (by omega)⟩, ⟨conCIx hs (by omega)⟩, ⟨conCIx ds (by omega)⟩, ?_⟩
  by_cases he : (chE ps).2 = 0
  case neg =>
    rw [stD, if_pos he] at c11
    exact .inl ⟨_, ⟨c11⟩, _, _, ⟨conR9 ps (by omega)⟩, bc_bne (fun h => absurd rfl h) (fun _ => bc_bne (fun h => absurd rfl h) (fun _ => bc_beq (fun h => absurd h he) (fun _ => bc_bne (fun _ => bc_beq (fun _ => trivial) (fun h => absurd rfl h)) (fun h => absurd h he))))⟩
  have hok := chE_ok he
  by_cases hm : mvE ps hs ds = 0
  case neg =>
    rw [stD, if_neg (fun x => x he), if_pos hm] at c11
    exact .inl ⟨_, ⟨c11⟩, _, _, ⟨conR9 ps (by omega)⟩, bc_bne (fun h => absurd rfl h) (fun _ => bc_bne (fun h => absurd rfl h) (fun _ => bc_beq (fun _ => ⟨_, ⟨conMv ps hs ds (by omega)⟩, bc_bne (fun _ => bc_beq (fun _ => trivial) (fun h => absurd rfl h)) (fun h => absurd h hm)⟩) (fun h => absurd he h)))⟩
  rw [stD, if_neg (fun x => x he), if_neg (fun x => x hm)] at c11
  have hl : hs.length = ps.length ∧ ds.length = ps.length ∧ mvGo ps hs ds = 0 := by
    unfold mvE at hm
    split at hm
    · omega
    · exact ⟨by omega, by omega, hm⟩
  have hbd := mvGo_ok hl.1 hl.2.1 hl.2.2 hok.2.2
  refine .inr ⟨_, _, _, ⟨c11⟩, _, _, ⟨conR9 ps (by omega)⟩, bc_bne (fun h => absurd rfl h) (fun _ => bc_bne (fun h => absurd rfl h) (fun _ => bc_beq (fun _ => ⟨_, ⟨conMv ps hs ds (by omega)⟩, bc_bne (fun h => absurd hm h) (fun _ => bc_beq (fun _ => ?_) (fun h => absurd rfl h))⟩) (fun h => absurd he h)))⟩
  refine .inr ⟨_, _, ⟨conRAf hok.2.2 hbd.1 hbd.2 hok.1 hl.1 hl.2.1 (by omega)⟩, ?_⟩
  have hw : List.take (ps.length * 1) (List.drop 0 (vi (aft ps hs ds))) = vi (aft ps hs ds) := rg_take _ _
  rw [bc_t (show 0 + ps.length * 1 ≤ (vi (aft ps hs ds)).length by simp [aft_length])]
  try rw [bc_t (show 0 + ps.length * 1 ≤ (vi (aft ps hs ds)).length by simp [aft_length])]
  rw [hw]
  have c15 := conIIx (aft ps hs ds) (by rw [aft_length]; omega)
  rw [aft_length] at c15
  exact .inl ⟨c15⟩
theorem conLssn (ps : List Sv) (hs : List Int) : C5 3 [.agg [.sl ps.length 7 (vs7 ps)], .agg [.sl hs.length 1 (vi hs), .nil]] [.val (.bool true)] := by
  refine con_flat hokB mixed Try.func3 rfl (by show 2 ≤ 400; omega) rfl (by kernel_rfl) (fun caps => ?_)
  show gLwssn _ _ ps.length (caps 500) (vs7 ps) hs.length (caps 501) (vi hs) _
  rw [gLwssn_text]
  try simp only [bc_t (v7le ps), vs7_whole, bc_t (v1le hs), vi_whole, eq_self, true_and, and_true]
  refine .inl ⟨⟨con6⟩, ?_⟩
  by_cases h7 : ps.length ≤ 7
  case neg =>
    refine .inr ⟨?_⟩
    have := conSm ps
    rwa [decide_eq_false h7] at this
  have cSm := conSm ps
  rw [decide_eq_true h7] at cSm
  refine .inl ⟨⟨cSm⟩, ?_⟩
  refine bc_dec (fun _ => trivial) (fun hb => ?_)
  have c11 := conSt ps hs [] (by omega)
  refine ⟨⟨conCpC ps (by omega)⟩, _, _, ⟨conC9 ps (by omega)⟩, ⟨conCpC ps (by omega)⟩, ⟨conCIx hs (by omega)⟩, ⟨conCIxn⟩, ?_⟩
  by_cases he : (chE ps).2 = 0
  case neg =>
    rw [stD, if_pos he] at c11
    exact .inl ⟨_, ⟨c11⟩, _, _, ⟨conR9 ps (by omega)⟩, bc_bne (fun h => absurd rfl h) (fun _ => bc_bne (fun h => absurd rfl h) (fun _ => bc_beq (fun h => absurd h he) (fun _ => bc_bne (fun _ => bc_beq (fun _ => trivial) (fun h => absurd rfl h)) (fun h => absurd h he))))⟩
  have hok := chE_ok he
  have hm : mvE ps hs [] = 10 := by
    refine if_pos ?_
    first | exact .inl (by simp only [List.length_nil]; omega) | exact .inr (by simp only [List.length_nil]; omega)
  rw [stD, if_neg (fun x => x he), hm, if_pos (by decide)] at c11
  exact .inl ⟨_, ⟨c11⟩, _, _, ⟨conR9 ps (by omega)⟩, bc_bne (fun h => absurd rfl h) (fun _ => bc_bne (fun h => absurd rfl h) (fun _ => bc_beq (fun _ => ⟨_, ⟨conMvsn ps hs hok.1⟩, bc_bne (fun _ => bc_beq (fun _ => trivial) (fun h => absurd rfl h)) (fun h => absurd h (by decide))⟩) (fun h => absurd he h)))⟩
theorem conLsns (ps : List Sv) (ds : List Int) : C5 3 [.agg [.sl ps.length 7 (vs7 ps)], .agg [.nil, .sl ds.length 1 (vi ds)]] [.val (.bool true)] := by
  refine con_flat hokB mixed Try.func3 rfl (by show 2 ≤ 400; omega) rfl (by kernel_rfl) (fun caps => ?_)
  show gLwsns _ _ ps.length (caps 500) (vs7 ps) ds.length (caps 501) (vi ds) _
  rw [gLwsns_text]
  try simp only [bc_t (v7le ps), vs7_whole, bc_t (v1le ds), vi_whole, eq_self, true_and, and_true]
  refine .inl ⟨⟨con6⟩, ?_⟩
  by_cases h7 : ps.length ≤ 7
  case neg =>
    refine .inr ⟨?_⟩
    have := conSm ps
    rwa [decide_eq_false h7] at this
  have cSm := conSm ps
  rw [decide_eq_true h7] at cSm
  refine .inl ⟨⟨cSm⟩, ?_⟩
  refine bc_dec (fun _ => trivial) (fun hc => ?_)
  have c11 := conSt ps [] ds (by omega)
  refine ⟨⟨conCpC ps (by omega)⟩, _, _, ⟨conC9 ps (by omega)⟩, ⟨conCpC ps (by omega)⟩, ⟨conCIxn⟩, ⟨conCIx ds (by omega)⟩, ?_⟩
  by_cases he : (chE ps).2 = 0
  case neg =>
    rw [stD, if_pos he] at c11
    exact .inl ⟨_, ⟨c11⟩, _, _, ⟨conR9 ps (by omega)⟩, bc_bne (fun h => absurd rfl h) (fun _ => bc_bne (fun h => absurd rfl h) (fun _ => bc_beq (fun h => absurd h he) (fun _ => bc_bne (fun _ => bc_beq (fun _ => trivial) (fun h => absurd rfl h)) (fun h => absurd h he))))⟩
  have hok := chE_ok he
  have hm : mvE ps [] ds = 10 := by
    refine if_pos ?_
    first | exact .inl (by simp only [List.length_nil]; omega) | exact .inr (by simp only [List.length_nil]; omega)
  rw [stD, if_neg (fun x => x he), hm, if_pos (by decide)] at c11
  exact .inl ⟨_, ⟨c11⟩, _, _, ⟨conR9 ps (by omega)⟩, bc_bne (fun h => absurd rfl h) (fun _ => bc_bne (fun h => absurd rfl h) (fun _ => bc_beq (fun _ => ⟨_, ⟨conMvns ps ds hok.1⟩, bc_bne (fun _ => bc_beq (fun _ => trivial) (fun h => absurd rfl h)) (fun h => absurd h (by decide))⟩) (fun h => absurd he h)))⟩
theorem conLsnn (ps : List Sv) : C5 3 [.agg [.sl ps.length 7 (vs7 ps)], .agg [.nil, .nil]] [.val (.bool true)] := by
  refine con_flat hokB mixed Try.func3 rfl (by show 1 ≤ 400; omega) rfl (by kernel_rfl) (fun caps => ?_)
  show gLwsnn _ _ ps.length (caps 500) (vs7 ps) _
  rw [gLwsnn_text]
  try simp only [bc_t (v7le ps), vs7_whole, eq_self, true_and, and_true]
  refine .inl ⟨⟨con6⟩, ?_⟩
  by_cases h7 : ps.length ≤ 7
  case neg =>
    refine .inr ⟨?_⟩
    have := conSm ps
    rwa [decide_eq_false h7] at this
  have cSm := conSm ps
  rw [decide_eq_true h7] at cSm
  refine .inl ⟨⟨cSm⟩, ?_⟩
  have c11 := conSt ps [] [] (by omega)
  refine ⟨⟨conCpC ps (by omega)⟩, _, _, ⟨conC9 ps (by omega)⟩, ⟨conCpC ps (by omega)⟩, ⟨conCIxn⟩, ⟨conCIxn⟩, ?_⟩
  by_cases he : (chE ps).2 = 0
  case neg =>
    rw [stD, if_pos he] at c11
    exact .inl ⟨_, ⟨c11⟩, _, _, ⟨conR9 ps (by omega)⟩, bc_bne (fun h => absurd rfl h) (fun _ => bc_bne (fun h => absurd rfl h) (fun _ => bc_beq (fun h => absurd h he) (fun _ => bc_bne (fun _ => bc_beq (fun _ => trivial) (fun h => absurd rfl h)) (fun h => absurd h he))))⟩
  have hok := chE_ok he
  have hm : mvE ps [] [] = 10 := by
    refine if_pos ?_
    first | exact .inl (by simp only [List.length_nil]; omega) | exact .inr (by simp only [List.length_nil]; omega)
  rw [stD, if_neg (fun x => x he), hm, if_pos (by decide)] at c11
  exact .inl ⟨_, ⟨c11⟩, _, _, ⟨conR9 ps (by omega)⟩, bc_bne (fun h => absurd rfl h) (fun _ => bc_bne (fun h => absurd rfl h) (fun _ => bc_beq (fun _ => ⟨_, ⟨conMvnn ps hok.1⟩, bc_bne (fun _ => bc_beq (fun _ => trivial) (fun h => absurd rfl h)) (fun h => absurd h (by decide))⟩) (fun h => absurd he h)))⟩
theorem conLnss  (hs : List Int) (ds : List Int) : C5 3 [.agg [.nil], .agg [.sl hs.length 1 (vi hs), .sl ds.length 1 (vi ds)]] [.val (.bool true)] := by
  refine con_flat hokB mixed Try.func3 rfl (by show 2 ≤ 400; omega) rfl (by kernel_rfl) (fun caps => ?_)
  show gLwnss _ _ hs.length (caps 500) (vi hs) ds.length (caps 501) (vi ds) _
  rw [gLwnss_text]
  try simp only [bc_t (v1le hs), vi_whole, bc_t (v1le ds), eq_self, true_and, and_true]
  refine .inl ⟨⟨con6⟩, ?_⟩
  refine .inl ⟨⟨conSmn⟩, ?_⟩
  refine bc_dec (fun _ => trivial) (fun hb => ?_)
  refine bc_dec (fun _ => trivial) (fun hc => ?_)
  have c11 := conSt [] hs ds (by simp)
  refine ⟨⟨conCpCn⟩, _, _, ⟨conC9 [] (by simp)⟩, ⟨conCpCn⟩, ⟨conCIx hs (by omega)⟩, ⟨conCIx ds (by omega)⟩, ?_⟩
  exact .inl ⟨_, ⟨c11⟩, _, _, ⟨conR9n⟩, bc_bne (fun h => absurd rfl h) (fun _ => bc_bne (fun h => absurd rfl h) (fun _ => bc_beq (fun h => absurd h (by decide)) (fun _ => bc_bne (fun _ => bc_beq (fun _ => trivial) (fun h => absurd rfl h)) (fun h => absurd h (by decide)))))⟩
theorem conLnsn  (hs : List Int) : C5 3 [.agg [.nil], .agg [.sl hs.length 1 (vi hs), .nil]] [.val (.bool true)] := by
  refine con_flat hokB mixed Try.func3 rfl (by show 1 ≤ 400; omega) rfl (by kernel_rfl) (fun caps => ?_)
  show gLwnsn _ _ hs.length (caps 500) (vi hs) _
  rw [gLwnsn_text]
  try simp only [bc_t (v1le hs), vi_whole, eq_self, true_and, and_true]
  refine .inl ⟨⟨con6⟩, ?_⟩
  refine .inl ⟨⟨conSmn⟩, ?_⟩
  refine bc_dec (fun _ => trivial) (fun hb => ?_)
  have c11 := conSt [] hs [] (by simp)
  refine ⟨⟨conCpCn⟩, _, _, ⟨conC9 [] (by simp)⟩, ⟨conCpCn⟩, ⟨conCIx hs (by omega)⟩, ⟨conCIxn⟩, ?_⟩
  exact .inl ⟨_, ⟨c11⟩, _, _, ⟨conR9n⟩, bc_bne (fun h => absurd rfl h) (fun _ => bc_bne (fun h => absurd rfl h) (fun _ => bc_beq (fun h => absurd h (by decide)) (fun _ => bc_bne (fun _ => bc_beq (fun _ => trivial) (fun h => absurd rfl h)) (fun h => absurd h (by decide)))))⟩
theorem conLnns  (ds : List Int) : C5 3 [.agg [.nil], .agg [.nil, .sl ds.length 1 (vi ds)]] [.val (.bool true)] := by
  refine con_flat hokB mixed Try.func3 rfl (by show 1 ≤ 400; omega) rfl (by kernel_rfl) (fun caps => ?_)
  show gLwnns _ _ ds.length (caps 500) (vi ds) _
  rw [gLwnns_text]
  try simp only [bc_t (v1le ds), vi_whole, eq_self, true_and, and_true]
  refine .inl ⟨⟨con6⟩, ?_⟩
  refine .inl ⟨⟨conSmn⟩, ?_⟩
  refine bc_dec (fun _ => trivial) (fun hc => ?_)
  have c11 := conSt [] [] ds (by simp)
  refine ⟨⟨conCpCn⟩, _, _, ⟨conC9 [] (by simp)⟩, ⟨conCpCn⟩, ⟨conCIxn⟩, ⟨conCIx ds (by omega)⟩, ?_⟩
  exact .inl ⟨_, ⟨c11⟩, _, _, ⟨conR9n⟩, bc_bne (fun h => absurd rfl h) (fun _ => bc_bne (fun h => absurd rfl h) (fun _ => bc_beq (fun h => absurd h (by decide)) (fun _ => bc_bne (fun _ => bc_beq (fun _ => trivial) (fun h => absurd rfl h)) (fun h => absurd h (by decide)))))⟩
theorem conLnnn  : C5 3 [.agg [.nil], .agg [.nil, .nil]] [.val (.bool true)] := by
  refine con_flat hokB mixed Try.func3 rfl (by show 0 ≤ 400; omega) rfl (by kernel_rfl) (fun caps => ?_)
  show gLwnnn _ _ _
  rw [gLwnnn_text]
  try simp only [eq_self, true_and, and_true]
  refine .inl ⟨⟨con6⟩, ?_⟩
  refine .inl ⟨⟨conSmn⟩, ?_⟩
  have c11 := conSt [] [] [] (by simp)
  refine ⟨⟨conCpCn⟩, _, _, ⟨conC9 [] (by simp)⟩, ⟨conCpCn⟩, ⟨conCIxn⟩, ⟨conCIxn⟩, ?_⟩
  exact .inl ⟨_, ⟨c11⟩, _, _, ⟨conR9n⟩, bc_bne (fun h => absurd rfl h) (fun _ => bc_bne (fun h => absurd rfl h) (fun _ => bc_beq (fun h => absurd h (by decide)) (fun _ => bc_bne (fun _ => bc_beq (fun _ => trivial) (fun h => absurd rfl h)) (fun h => absurd h (by decide)))))⟩
end Go.Proofs.G5b
