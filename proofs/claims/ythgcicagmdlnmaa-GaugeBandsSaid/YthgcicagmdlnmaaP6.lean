/- Texts of the proof, put together: GaT4, GaT5, AbsInsD, GaT6. -/
import Derived.Test.YthgcicagmdlnmaaP5
import Derived.Test.YthgcicagmdlnmaaP3
/- What is left to show of each function, written out; the kernel reckons it. -/
namespace Go.Proofs.G5a
open Go Go.Abs Go.Proofs
set_option maxRecDepth 100000
set_option linter.unusedVariables false
abbrev B1 (vs : List Value) : Nat × AObj := (1001, .sym vs true 1)
abbrev B2 (vs : List Value) : Nat × AObj := (1002, .sym vs true 1)
abbrev Sl (b n : Nat) : Value := .slice (some ⟨b, 0, none⟩) n n
def sR2 (x : Int) (m n : Nat) (i : Int) : Slots := [(1, vI x), (2, P1 1000 0), (6, Sl 1001 m), (8, Sl 1002 n), (10, vI i)]
def rR2 (C : Ct) (L : AtLoop) (a b c d x : Int) (m : Nat) (vs : List Value) (n : Nat) (us : List Value) (i : Int) (B : Bx) (X : Xx) (k : List D → Prop) : Prop := wpRound Try.prog (hG C) L 16 2 (sR2 x m n i) [oN a b c d, B1 vs, B2 us] B X (dataK k)
theorem rR2_text (C : Ct) (L : AtLoop) (a : Int) (b : Int) (c : Int) (d : Int) (x : Int) (m : Nat) (vs : List Go.Value) (n : Nat) (us : List Go.Value) (i : Int) (B : Bx) (X : Xx) (k : List D → Prop) : rR2 C L a b c d x m vs n us i B X k =
 (bcase (decide (i > 0))
 (bcase (decide (0 ≤ Go.IntKind.wrap Go.IntKind.i64 (i - 1)))
 (bcase (decide (Go.IntKind.wrap Go.IntKind.i64 (i - 1) < (↑n : Int)))
 (∃ n1 : Int,
 ((At (us) (0 + Int.toNat (Go.IntKind.wrap Go.IntKind.i64 (i - 1)) * 1) 1 [(Go.Value.int Go.IntKind.i64 (n1))]) ∧
 (bcase (decide (0 ≤ i))
 (bcase (decide (i < (↑n : Int)))
 (∃ n2 : Int,
 ((At (us) (0 + Int.toNat i * 1) 1 [(Go.Value.int Go.IntKind.i64 (n2))]) ∧
 (bcase (n1 == n2)
 ((((Go.Value.bool true) = (Go.Value.bool true)) ∧
 ((bcase (n1 == n2)
 ((Go.Value.bool true) = (Go.Value.bool true))
 ((Go.Value.bool false) = (Go.Value.bool true))) ∧
 ((∃ n3 : Int,
 ((At (us) (0 + Int.toNat i * 1) 1 [(Go.Value.int Go.IntKind.i64 (n3))]) ∧
 ((Go.Value.int Go.IntKind.i64 (n3)) = (Go.Value.int Go.IntKind.i64 (n2))))) ∧
 ((bcase (decide (0 ≤ i))
 (bcase (decide (i < (↑n : Int)))
 ((Go.Value.pointer (Option.some (Go.Addr.mk 1002 (0 + Int.toNat i * 1) Option.none))) = (Go.Value.pointer (Option.some (Go.Addr.mk 1002 (0 + Int.toNat i * 1) Option.none))))
 False)
 False) ∧
 (((Go.Value.int Go.IntKind.i64 (i)) = (Go.Value.int Go.IntKind.i64 (i))) ∧
 (((Go.Value.slice (Option.some (Go.Addr.mk 1002 0 Option.none)) (n) (n)) = (Go.Value.slice (Option.some (Go.Addr.mk 1002 0 Option.none)) (n) (n))) ∧
 ((∃ n3 : Int,
 ((At (us) (0 + Int.toNat (Go.IntKind.wrap Go.IntKind.i64 (i - 1)) * 1) 1 [(Go.Value.int Go.IntKind.i64 (n3))]) ∧
 ((Go.Value.int Go.IntKind.i64 (n3)) = (Go.Value.int Go.IntKind.i64 (n1))))) ∧
 ((bcase (decide (0 ≤ Go.IntKind.wrap Go.IntKind.i64 (i - 1)))
 (bcase (decide (Go.IntKind.wrap Go.IntKind.i64 (i - 1) < (↑n : Int)))
 ((Go.Value.pointer (Option.some (Go.Addr.mk 1002 (0 + Int.toNat (Go.IntKind.wrap Go.IntKind.i64 (i - 1)) * 1) Option.none))) = (Go.Value.pointer (Option.some (Go.Addr.mk 1002 (0 + Int.toNat (Go.IntKind.wrap Go.IntKind.i64 (i - 1)) * 1) Option.none))))
 False)
 False) ∧
 (((Go.Value.int Go.IntKind.i64 (Go.IntKind.wrap Go.IntKind.i64 (i - 1))) = (Go.Value.int Go.IntKind.i64 (Go.IntKind.wrap Go.IntKind.i64 (i - 1)))) ∧
 (((Go.Value.int Go.IntKind.i64 (i)) = (Go.Value.int Go.IntKind.i64 (i))) ∧
 (((Go.Value.slice (Option.some (Go.Addr.mk 1002 0 Option.none)) (n) (n)) = (Go.Value.slice (Option.some (Go.Addr.mk 1002 0 Option.none)) (n) (n))) ∧
 (((Go.Value.bool true) = (Go.Value.bool true)) ∧
 ((bcase (decide (i > 0))
 ((Go.Value.bool true) = (Go.Value.bool true))
 ((Go.Value.bool false) = (Go.Value.bool true))) ∧
 (((Go.Value.int Go.IntKind.i64 (i)) = (Go.Value.int Go.IntKind.i64 (i))) ∧
 True)))))))))))))) ∧
 (B [(Prod.mk 1 (Go.Value.int Go.IntKind.i64 (x))), (Prod.mk 2 (Go.Value.pointer (Option.some (Go.Addr.mk 1000 0 Option.none)))), (Prod.mk 6 (Go.Value.slice (Option.some (Go.Addr.mk 1001 0 Option.none)) (m) (m))), (Prod.mk 8 (Go.Value.slice (Option.some (Go.Addr.mk 1002 0 Option.none)) (n) (n))), (Prod.mk 10 (Go.Value.int Go.IntKind.i64 (Go.IntKind.wrap Go.IntKind.i64 (i - 1))))] [(Prod.mk 1000 (AObj.cells [(Go.Value.int Go.IntKind.i64 (a)), (Go.Value.int Go.IntKind.i64 (b)), (Go.Value.int Go.IntKind.i64 (c)), (Go.Value.int Go.IntKind.i64 (d))] 32 false 1)), (Prod.mk 1001 (AObj.sym (vs) true 1)), (Prod.mk 1002 (AObj.sym (us) true 1))]))
 ((((Go.Value.bool false) = (Go.Value.bool false)) ∧
 ((bcase (n1 == n2)
 ((Go.Value.bool true) = (Go.Value.bool false))
 ((Go.Value.bool false) = (Go.Value.bool false))) ∧
 ((∃ n3 : Int,
 ((At (us) (0 + Int.toNat i * 1) 1 [(Go.Value.int Go.IntKind.i64 (n3))]) ∧
 ((Go.Value.int Go.IntKind.i64 (n3)) = (Go.Value.int Go.IntKind.i64 (n2))))) ∧
 ((bcase (decide (0 ≤ i))
 (bcase (decide (i < (↑n : Int)))
 ((Go.Value.pointer (Option.some (Go.Addr.mk 1002 (0 + Int.toNat i * 1) Option.none))) = (Go.Value.pointer (Option.some (Go.Addr.mk 1002 (0 + Int.toNat i * 1) Option.none))))
 False)
 False) ∧
 (((Go.Value.int Go.IntKind.i64 (i)) = (Go.Value.int Go.IntKind.i64 (i))) ∧
 (((Go.Value.slice (Option.some (Go.Addr.mk 1002 0 Option.none)) (n) (n)) = (Go.Value.slice (Option.some (Go.Addr.mk 1002 0 Option.none)) (n) (n))) ∧
 ((∃ n3 : Int,
 ((At (us) (0 + Int.toNat (Go.IntKind.wrap Go.IntKind.i64 (i - 1)) * 1) 1 [(Go.Value.int Go.IntKind.i64 (n3))]) ∧
 ((Go.Value.int Go.IntKind.i64 (n3)) = (Go.Value.int Go.IntKind.i64 (n1))))) ∧
 ((bcase (decide (0 ≤ Go.IntKind.wrap Go.IntKind.i64 (i - 1)))
 (bcase (decide (Go.IntKind.wrap Go.IntKind.i64 (i - 1) < (↑n : Int)))
 ((Go.Value.pointer (Option.some (Go.Addr.mk 1002 (0 + Int.toNat (Go.IntKind.wrap Go.IntKind.i64 (i - 1)) * 1) Option.none))) = (Go.Value.pointer (Option.some (Go.Addr.mk 1002 (0 + Int.toNat (Go.IntKind.wrap Go.IntKind.i64 (i - 1)) * 1) Option.none))))
 False)
 False) ∧
 (((Go.Value.int Go.IntKind.i64 (Go.IntKind.wrap Go.IntKind.i64 (i - 1))) = (Go.Value.int Go.IntKind.i64 (Go.IntKind.wrap Go.IntKind.i64 (i - 1)))) ∧
 (((Go.Value.int Go.IntKind.i64 (i)) = (Go.Value.int Go.IntKind.i64 (i))) ∧
 (((Go.Value.slice (Option.some (Go.Addr.mk 1002 0 Option.none)) (n) (n)) = (Go.Value.slice (Option.some (Go.Addr.mk 1002 0 Option.none)) (n) (n))) ∧
 (((Go.Value.bool true) = (Go.Value.bool true)) ∧
 ((bcase (decide (i > 0))
 ((Go.Value.bool true) = (Go.Value.bool true))
 ((Go.Value.bool false) = (Go.Value.bool true))) ∧
 (((Go.Value.int Go.IntKind.i64 (i)) = (Go.Value.int Go.IntKind.i64 (i))) ∧
 True)))))))))))))) ∧
 (X 2 [(Prod.mk 1 (Go.Value.int Go.IntKind.i64 (x))), (Prod.mk 2 (Go.Value.pointer (Option.some (Go.Addr.mk 1000 0 Option.none)))), (Prod.mk 6 (Go.Value.slice (Option.some (Go.Addr.mk 1001 0 Option.none)) (m) (m))), (Prod.mk 8 (Go.Value.slice (Option.some (Go.Addr.mk 1002 0 Option.none)) (n) (n))), (Prod.mk 10 (Go.Value.int Go.IntKind.i64 (i)))] [(Prod.mk 1000 (AObj.cells [(Go.Value.int Go.IntKind.i64 (a)), (Go.Value.int Go.IntKind.i64 (b)), (Go.Value.int Go.IntKind.i64 (c)), (Go.Value.int Go.IntKind.i64 (d))] 32 false 1)), (Prod.mk 1001 (AObj.sym (vs) true 1)), (Prod.mk 1002 (AObj.sym (us) true 1))])))))
 False)
 False)))
 False)
 False)
 ((((Go.Value.bool false) = (Go.Value.bool false)) ∧
 (((Go.Value.tuple [].toArray) = (Go.Value.tuple [].toArray)) ∧
 (((Go.Value.tuple [].toArray) = (Go.Value.tuple [].toArray)) ∧
 (((Go.Value.tuple [].toArray) = (Go.Value.tuple [].toArray)) ∧
 (((Go.Value.tuple [].toArray) = (Go.Value.tuple [].toArray)) ∧
 (((Go.Value.tuple [].toArray) = (Go.Value.tuple [].toArray)) ∧
 (((Go.Value.tuple [].toArray) = (Go.Value.tuple [].toArray)) ∧
 (((Go.Value.tuple [].toArray) = (Go.Value.tuple [].toArray)) ∧
 (((Go.Value.tuple [].toArray) = (Go.Value.tuple [].toArray)) ∧
 (((Go.Value.tuple [].toArray) = (Go.Value.tuple [].toArray)) ∧
 (((Go.Value.tuple [].toArray) = (Go.Value.tuple [].toArray)) ∧
 (((Go.Value.bool false) = (Go.Value.bool false)) ∧
 ((bcase (decide (i > 0))
 ((Go.Value.bool true) = (Go.Value.bool false))
 ((Go.Value.bool false) = (Go.Value.bool false))) ∧
 (((Go.Value.int Go.IntKind.i64 (i)) = (Go.Value.int Go.IntKind.i64 (i))) ∧
 True)))))))))))))) ∧
 (X 2 [(Prod.mk 1 (Go.Value.int Go.IntKind.i64 (x))), (Prod.mk 2 (Go.Value.pointer (Option.some (Go.Addr.mk 1000 0 Option.none)))), (Prod.mk 6 (Go.Value.slice (Option.some (Go.Addr.mk 1001 0 Option.none)) (m) (m))), (Prod.mk 8 (Go.Value.slice (Option.some (Go.Addr.mk 1002 0 Option.none)) (n) (n))), (Prod.mk 10 (Go.Value.int Go.IntKind.i64 (i)))] [(Prod.mk 1000 (AObj.cells [(Go.Value.int Go.IntKind.i64 (a)), (Go.Value.int Go.IntKind.i64 (b)), (Go.Value.int Go.IntKind.i64 (c)), (Go.Value.int Go.IntKind.i64 (d))] 32 false 1)), (Prod.mk 1001 (AObj.sym (vs) true 1)), (Prod.mk 1002 (AObj.sym (us) true 1))]))) := by kernel_rfl
def nR2 (C : Ct) (L : AtLoop) (a b c d x : Int) (m : Nat) (vs : List Value) (n : Nat) (us : List Value) (i : Int) (k : List D → Prop) : Prop := wpNext Try.prog (hG C) L 16 2 .normal (sR2 x m n i) [oN a b c d, B1 vs, B2 us] (dataK k)
theorem nR2_text (C : Ct) (L : AtLoop) (a : Int) (b : Int) (c : Int) (d : Int) (x : Int) (m : Nat) (vs : List Go.Value) (n : Nat) (us : List Go.Value) (i : Int) (k : List D → Prop) : nR2 C L a b c d x m vs n us i k =
 (L 4 [(Prod.mk 1 (Go.Value.int Go.IntKind.i64 (x))), (Prod.mk 2 (Go.Value.pointer (Option.some (Go.Addr.mk 1000 0 Option.none)))), (Prod.mk 6 (Go.Value.slice (Option.some (Go.Addr.mk 1001 0 Option.none)) (m) (m))), (Prod.mk 8 (Go.Value.slice (Option.some (Go.Addr.mk 1002 0 Option.none)) (n) (n))), (Prod.mk 10 (Go.Value.int Go.IntKind.i64 (i))), (Prod.mk 11 (Go.Value.int Go.IntKind.i64 ((↑n : Int))))] [(Prod.mk 1000 (AObj.cells [(Go.Value.int Go.IntKind.i64 (a)), (Go.Value.int Go.IntKind.i64 (b)), (Go.Value.int Go.IntKind.i64 (c)), (Go.Value.int Go.IntKind.i64 (d))] 32 false 1)), (Prod.mk 1001 (AObj.sym (vs) true 1)), (Prod.mk 1002 (AObj.sym (us) true 1))]) := by kernel_rfl
def fRe3 (C : Ct) (cap : Nat) (x : Int) (k : List D → Prop) : Prop := wpFn Try.prog (hE C) (fun _ _ _ => False) 12 35 #[S500 1 cap, vI 5] (heapOf [Q500 [vI x]]) (dataK k)
theorem fRe3_text (C : Ct) (cap : Nat) (x : Int) (k : List D → Prop) : fRe3 C cap x k =
 ((((Go.Value.slice (Option.some (Go.Addr.mk 1000 0 Option.none)) 1 5) = (Go.Value.slice (Option.some (Go.Addr.mk 1000 0 Option.none)) 1 5)) ∧
 (((Go.Value.int Go.IntKind.i64 (1 : Int)) = (Go.Value.int Go.IntKind.i64 (1 : Int))) ∧
 (((Go.Value.slice (Option.some (Go.Addr.mk 1000 0 Option.none)) 5 5) = (Go.Value.slice (Option.some (Go.Addr.mk 1000 0 Option.none)) 5 5)) ∧
 (((Go.Value.slice (Option.some (Go.Addr.mk 1000 1 Option.none)) 4 4) = (Go.Value.slice (Option.some (Go.Addr.mk 1000 1 Option.none)) 4 4)) ∧
 (((Go.Value.int Go.IntKind.i64 (1 : Int)) = (Go.Value.int Go.IntKind.i64 (1 : Int))) ∧
 (((Go.Value.slice (Option.some (Go.Addr.mk 1000 0 Option.none)) 5 5) = (Go.Value.slice (Option.some (Go.Addr.mk 1000 0 Option.none)) 5 5)) ∧
 (((Go.Value.int Go.IntKind.i64 (1 : Int)) = (Go.Value.int Go.IntKind.i64 (1 : Int))) ∧
 True))))))) ∧
 ((((Go.Value.int Go.IntKind.i64 (2 : Int)) = (Go.Value.int Go.IntKind.i64 (2 : Int))) ∧
 (((Go.Value.int Go.IntKind.i64 (1 : Int)) = (Go.Value.int Go.IntKind.i64 (1 : Int))) ∧
 (((Go.Value.slice (Option.some (Go.Addr.mk 1000 0 Option.none)) 5 5) = (Go.Value.slice (Option.some (Go.Addr.mk 1000 0 Option.none)) 5 5)) ∧
 (((Go.Value.int Go.IntKind.i64 (1 : Int)) = (Go.Value.int Go.IntKind.i64 (1 : Int))) ∧
 (((Go.Value.slice (Option.some (Go.Addr.mk 1000 0 Option.none)) 5 5) = (Go.Value.slice (Option.some (Go.Addr.mk 1000 0 Option.none)) 5 5)) ∧
 (((Go.Value.int Go.IntKind.i64 (1 : Int)) = (Go.Value.int Go.IntKind.i64 (1 : Int))) ∧
 True)))))) ∧
 (True ∧
 ((((Go.Value.slice (Option.some (Go.Addr.mk 1000 0 Option.none)) 2 5) = (Go.Value.slice (Option.some (Go.Addr.mk 1000 0 Option.none)) 2 5)) ∧
 (((Go.Value.int Go.IntKind.i64 (2 : Int)) = (Go.Value.int Go.IntKind.i64 (2 : Int))) ∧
 (((Go.Value.slice (Option.some (Go.Addr.mk 1000 0 Option.none)) 5 5) = (Go.Value.slice (Option.some (Go.Addr.mk 1000 0 Option.none)) 5 5)) ∧
 (((Go.Value.slice (Option.some (Go.Addr.mk 1000 2 Option.none)) 3 3) = (Go.Value.slice (Option.some (Go.Addr.mk 1000 2 Option.none)) 3 3)) ∧
 (((Go.Value.int Go.IntKind.i64 (2 : Int)) = (Go.Value.int Go.IntKind.i64 (2 : Int))) ∧
 (((Go.Value.slice (Option.some (Go.Addr.mk 1000 0 Option.none)) 5 5) = (Go.Value.slice (Option.some (Go.Addr.mk 1000 0 Option.none)) 5 5)) ∧
 (((Go.Value.int Go.IntKind.i64 (2 : Int)) = (Go.Value.int Go.IntKind.i64 (2 : Int))) ∧
 True))))))) ∧
 ((((Go.Value.int Go.IntKind.i64 (4 : Int)) = (Go.Value.int Go.IntKind.i64 (4 : Int))) ∧
 (((Go.Value.int Go.IntKind.i64 (2 : Int)) = (Go.Value.int Go.IntKind.i64 (2 : Int))) ∧
 (((Go.Value.slice (Option.some (Go.Addr.mk 1000 0 Option.none)) 5 5) = (Go.Value.slice (Option.some (Go.Addr.mk 1000 0 Option.none)) 5 5)) ∧
 (((Go.Value.int Go.IntKind.i64 (2 : Int)) = (Go.Value.int Go.IntKind.i64 (2 : Int))) ∧
 (((Go.Value.slice (Option.some (Go.Addr.mk 1000 0 Option.none)) 5 5) = (Go.Value.slice (Option.some (Go.Addr.mk 1000 0 Option.none)) 5 5)) ∧
 (((Go.Value.int Go.IntKind.i64 (2 : Int)) = (Go.Value.int Go.IntKind.i64 (2 : Int))) ∧
 True)))))) ∧
 (True ∧
 ((((Go.Value.slice (Option.some (Go.Addr.mk 1000 0 Option.none)) 4 5) = (Go.Value.slice (Option.some (Go.Addr.mk 1000 0 Option.none)) 4 5)) ∧
 (((Go.Value.int Go.IntKind.i64 (4 : Int)) = (Go.Value.int Go.IntKind.i64 (4 : Int))) ∧
 (((Go.Value.slice (Option.some (Go.Addr.mk 1000 0 Option.none)) 5 5) = (Go.Value.slice (Option.some (Go.Addr.mk 1000 0 Option.none)) 5 5)) ∧
 (((Go.Value.slice (Option.some (Go.Addr.mk 1000 4 Option.none)) 1 1) = (Go.Value.slice (Option.some (Go.Addr.mk 1000 4 Option.none)) 1 1)) ∧
 (((Go.Value.int Go.IntKind.i64 (4 : Int)) = (Go.Value.int Go.IntKind.i64 (4 : Int))) ∧
 (((Go.Value.slice (Option.some (Go.Addr.mk 1000 0 Option.none)) 5 5) = (Go.Value.slice (Option.some (Go.Addr.mk 1000 0 Option.none)) 5 5)) ∧
 (((Go.Value.int Go.IntKind.i64 (4 : Int)) = (Go.Value.int Go.IntKind.i64 (4 : Int))) ∧
 True))))))) ∧
 ((((Go.Value.int Go.IntKind.i64 (5 : Int)) = (Go.Value.int Go.IntKind.i64 (5 : Int))) ∧
 (((Go.Value.int Go.IntKind.i64 (4 : Int)) = (Go.Value.int Go.IntKind.i64 (4 : Int))) ∧
 (((Go.Value.slice (Option.some (Go.Addr.mk 1000 0 Option.none)) 5 5) = (Go.Value.slice (Option.some (Go.Addr.mk 1000 0 Option.none)) 5 5)) ∧
 (((Go.Value.int Go.IntKind.i64 (4 : Int)) = (Go.Value.int Go.IntKind.i64 (4 : Int))) ∧
 (((Go.Value.slice (Option.some (Go.Addr.mk 1000 0 Option.none)) 5 5) = (Go.Value.slice (Option.some (Go.Addr.mk 1000 0 Option.none)) 5 5)) ∧
 (((Go.Value.int Go.IntKind.i64 (4 : Int)) = (Go.Value.int Go.IntKind.i64 (4 : Int))) ∧
 True)))))) ∧
 (True ∧
 (((5 = 5) ∧
 (5 = 5)) ∧
 (k [(D.sl 5 1 [(Go.Value.int Go.IntKind.i64 (x)), (Go.Value.int Go.IntKind.i64 (x)), (Go.Value.int Go.IntKind.i64 (x)), (Go.Value.int Go.IntKind.i64 (x)), (Go.Value.int Go.IntKind.i64 (x))])]))))))))))) := by kernel_rfl
theorem fRe_text (C : Ct) (cap : Nat) (x : Int) (k : List D → Prop) : fRe C cap x k =
(( (((Go.Value.slice (Option.some (Go.Addr.mk 1000 0 Option.none)) 1 501) = (Go.Value.slice (Option.some (Go.Addr.mk 1000 0 Option.none)) 1 501)) ∧
 (((Go.Value.int Go.IntKind.i64 (1 : Int)) = (Go.Value.int Go.IntKind.i64 (1 : Int))) ∧
 (((Go.Value.slice (Option.some (Go.Addr.mk 1000 0 Option.none)) 501 501) = (Go.Value.slice (Option.some (Go.Addr.mk 1000 0 Option.none)) 501 501)) ∧
 (((Go.Value.slice (Option.some (Go.Addr.mk 1000 1 Option.none)) 500 500) = (Go.Value.slice (Option.some (Go.Addr.mk 1000 1 Option.none)) 500 500)) ∧
 (((Go.Value.int Go.IntKind.i64 (1 : Int)) = (Go.Value.int Go.IntKind.i64 (1 : Int))) ∧
 (((Go.Value.slice (Option.some (Go.Addr.mk 1000 0 Option.none)) 501 501) = (Go.Value.slice (Option.some (Go.Addr.mk 1000 0 Option.none)) 501 501)) ∧
 (((Go.Value.int Go.IntKind.i64 (1 : Int)) = (Go.Value.int Go.IntKind.i64 (1 : Int))) ∧
 True)))))))) ∧
 (( (((Go.Value.int Go.IntKind.i64 (2 : Int)) = (Go.Value.int Go.IntKind.i64 (2 : Int))) ∧
 (((Go.Value.int Go.IntKind.i64 (1 : Int)) = (Go.Value.int Go.IntKind.i64 (1 : Int))) ∧
 (((Go.Value.slice (Option.some (Go.Addr.mk 1000 0 Option.none)) 501 501) = (Go.Value.slice (Option.some (Go.Addr.mk 1000 0 Option.none)) 501 501)) ∧
 (((Go.Value.int Go.IntKind.i64 (1 : Int)) = (Go.Value.int Go.IntKind.i64 (1 : Int))) ∧
 (((Go.Value.slice (Option.some (Go.Addr.mk 1000 0 Option.none)) 501 501) = (Go.Value.slice (Option.some (Go.Addr.mk 1000 0 Option.none)) 501 501)) ∧
 (((Go.Value.int Go.IntKind.i64 (1 : Int)) = (Go.Value.int Go.IntKind.i64 (1 : Int))) ∧
 True))))))) ∧
 (True ∧
 (( (((Go.Value.slice (Option.some (Go.Addr.mk 1000 0 Option.none)) 2 501) = (Go.Value.slice (Option.some (Go.Addr.mk 1000 0 Option.none)) 2 501)) ∧
 (((Go.Value.int Go.IntKind.i64 (2 : Int)) = (Go.Value.int Go.IntKind.i64 (2 : Int))) ∧
 (((Go.Value.slice (Option.some (Go.Addr.mk 1000 0 Option.none)) 501 501) = (Go.Value.slice (Option.some (Go.Addr.mk 1000 0 Option.none)) 501 501)) ∧
 (((Go.Value.slice (Option.some (Go.Addr.mk 1000 2 Option.none)) 499 499) = (Go.Value.slice (Option.some (Go.Addr.mk 1000 2 Option.none)) 499 499)) ∧
 (((Go.Value.int Go.IntKind.i64 (2 : Int)) = (Go.Value.int Go.IntKind.i64 (2 : Int))) ∧
 (((Go.Value.slice (Option.some (Go.Addr.mk 1000 0 Option.none)) 501 501) = (Go.Value.slice (Option.some (Go.Addr.mk 1000 0 Option.none)) 501 501)) ∧
 (((Go.Value.int Go.IntKind.i64 (2 : Int)) = (Go.Value.int Go.IntKind.i64 (2 : Int))) ∧
 True)))))))) ∧
 (( (((Go.Value.int Go.IntKind.i64 (4 : Int)) = (Go.Value.int Go.IntKind.i64 (4 : Int))) ∧
 (((Go.Value.int Go.IntKind.i64 (2 : Int)) = (Go.Value.int Go.IntKind.i64 (2 : Int))) ∧
 (((Go.Value.slice (Option.some (Go.Addr.mk 1000 0 Option.none)) 501 501) = (Go.Value.slice (Option.some (Go.Addr.mk 1000 0 Option.none)) 501 501)) ∧
 (((Go.Value.int Go.IntKind.i64 (2 : Int)) = (Go.Value.int Go.IntKind.i64 (2 : Int))) ∧
 (((Go.Value.slice (Option.some (Go.Addr.mk 1000 0 Option.none)) 501 501) = (Go.Value.slice (Option.some (Go.Addr.mk 1000 0 Option.none)) 501 501)) ∧
 (((Go.Value.int Go.IntKind.i64 (2 : Int)) = (Go.Value.int Go.IntKind.i64 (2 : Int))) ∧
 True))))))) ∧
 (True ∧
 (( (((Go.Value.slice (Option.some (Go.Addr.mk 1000 0 Option.none)) 4 501) = (Go.Value.slice (Option.some (Go.Addr.mk 1000 0 Option.none)) 4 501)) ∧
 (((Go.Value.int Go.IntKind.i64 (4 : Int)) = (Go.Value.int Go.IntKind.i64 (4 : Int))) ∧
 (((Go.Value.slice (Option.some (Go.Addr.mk 1000 0 Option.none)) 501 501) = (Go.Value.slice (Option.some (Go.Addr.mk 1000 0 Option.none)) 501 501)) ∧
 (((Go.Value.slice (Option.some (Go.Addr.mk 1000 4 Option.none)) 497 497) = (Go.Value.slice (Option.some (Go.Addr.mk 1000 4 Option.none)) 497 497)) ∧
 (((Go.Value.int Go.IntKind.i64 (4 : Int)) = (Go.Value.int Go.IntKind.i64 (4 : Int))) ∧
 (((Go.Value.slice (Option.some (Go.Addr.mk 1000 0 Option.none)) 501 501) = (Go.Value.slice (Option.some (Go.Addr.mk 1000 0 Option.none)) 501 501)) ∧
 (((Go.Value.int Go.IntKind.i64 (4 : Int)) = (Go.Value.int Go.IntKind.i64 (4 : Int))) ∧
 True)))))))) ∧
 (( (((Go.Value.int Go.IntKind.i64 (8 : Int)) = (Go.Value.int Go.IntKind.i64 (8 : Int))) ∧
 (((Go.Value.int Go.IntKind.i64 (4 : Int)) = (Go.Value.int Go.IntKind.i64 (4 : Int))) ∧
 (((Go.Value.slice (Option.some (Go.Addr.mk 1000 0 Option.none)) 501 501) = (Go.Value.slice (Option.some (Go.Addr.mk 1000 0 Option.none)) 501 501)) ∧
 (((Go.Value.int Go.IntKind.i64 (4 : Int)) = (Go.Value.int Go.IntKind.i64 (4 : Int))) ∧
 (((Go.Value.slice (Option.some (Go.Addr.mk 1000 0 Option.none)) 501 501) = (Go.Value.slice (Option.some (Go.Addr.mk 1000 0 Option.none)) 501 501)) ∧
 (((Go.Value.int Go.IntKind.i64 (4 : Int)) = (Go.Value.int Go.IntKind.i64 (4 : Int))) ∧
 True))))))) ∧
 (True ∧
 (( (((Go.Value.slice (Option.some (Go.Addr.mk 1000 0 Option.none)) 8 501) = (Go.Value.slice (Option.some (Go.Addr.mk 1000 0 Option.none)) 8 501)) ∧
 (((Go.Value.int Go.IntKind.i64 (8 : Int)) = (Go.Value.int Go.IntKind.i64 (8 : Int))) ∧
 (((Go.Value.slice (Option.some (Go.Addr.mk 1000 0 Option.none)) 501 501) = (Go.Value.slice (Option.some (Go.Addr.mk 1000 0 Option.none)) 501 501)) ∧
 (((Go.Value.slice (Option.some (Go.Addr.mk 1000 8 Option.none)) 493 493) = (Go.Value.slice (Option.some (Go.Addr.mk 1000 8 Option.none)) 493 493)) ∧
 (((Go.Value.int Go.IntKind.i64 (8 : Int)) = (Go.Value.int Go.IntKind.i64 (8 : Int))) ∧
 (((Go.Value.slice (Option.some (Go.Addr.mk 1000 0 Option.none)) 501 501) = (Go.Value.slice (Option.some (Go.Addr.mk 1000 0 Option.none)) 501 501)) ∧
 (((Go.Value.int Go.IntKind.i64 (8 : Int)) = (Go.Value.int Go.IntKind.i64 (8 : Int))) ∧
 True)))))))) ∧
 (( (((Go.Value.int Go.IntKind.i64 (16 : Int)) = (Go.Value.int Go.IntKind.i64 (16 : Int))) ∧
 (((Go.Value.int Go.IntKind.i64 (8 : Int)) = (Go.Value.int Go.IntKind.i64 (8 : Int))) ∧
 (((Go.Value.slice (Option.some (Go.Addr.mk 1000 0 Option.none)) 501 501) = (Go.Value.slice (Option.some (Go.Addr.mk 1000 0 Option.none)) 501 501)) ∧
 (((Go.Value.int Go.IntKind.i64 (8 : Int)) = (Go.Value.int Go.IntKind.i64 (8 : Int))) ∧
 (((Go.Value.slice (Option.some (Go.Addr.mk 1000 0 Option.none)) 501 501) = (Go.Value.slice (Option.some (Go.Addr.mk 1000 0 Option.none)) 501 501)) ∧
 (((Go.Value.int Go.IntKind.i64 (8 : Int)) = (Go.Value.int Go.IntKind.i64 (8 : Int))) ∧
 True))))))) ∧
 (True ∧
 (( (((Go.Value.slice (Option.some (Go.Addr.mk 1000 0 Option.none)) 16 501) = (Go.Value.slice (Option.some (Go.Addr.mk 1000 0 Option.none)) 16 501)) ∧
 (((Go.Value.int Go.IntKind.i64 (16 : Int)) = (Go.Value.int Go.IntKind.i64 (16 : Int))) ∧
 (((Go.Value.slice (Option.some (Go.Addr.mk 1000 0 Option.none)) 501 501) = (Go.Value.slice (Option.some (Go.Addr.mk 1000 0 Option.none)) 501 501)) ∧
 (((Go.Value.slice (Option.some (Go.Addr.mk 1000 16 Option.none)) 485 485) = (Go.Value.slice (Option.some (Go.Addr.mk 1000 16 Option.none)) 485 485)) ∧
 (((Go.Value.int Go.IntKind.i64 (16 : Int)) = (Go.Value.int Go.IntKind.i64 (16 : Int))) ∧
 (((Go.Value.slice (Option.some (Go.Addr.mk 1000 0 Option.none)) 501 501) = (Go.Value.slice (Option.some (Go.Addr.mk 1000 0 Option.none)) 501 501)) ∧
 (((Go.Value.int Go.IntKind.i64 (16 : Int)) = (Go.Value.int Go.IntKind.i64 (16 : Int))) ∧
 True)))))))) ∧
 (( (((Go.Value.int Go.IntKind.i64 (32 : Int)) = (Go.Value.int Go.IntKind.i64 (32 : Int))) ∧
 (((Go.Value.int Go.IntKind.i64 (16 : Int)) = (Go.Value.int Go.IntKind.i64 (16 : Int))) ∧
 (((Go.Value.slice (Option.some (Go.Addr.mk 1000 0 Option.none)) 501 501) = (Go.Value.slice (Option.some (Go.Addr.mk 1000 0 Option.none)) 501 501)) ∧
 (((Go.Value.int Go.IntKind.i64 (16 : Int)) = (Go.Value.int Go.IntKind.i64 (16 : Int))) ∧
 (((Go.Value.slice (Option.some (Go.Addr.mk 1000 0 Option.none)) 501 501) = (Go.Value.slice (Option.some (Go.Addr.mk 1000 0 Option.none)) 501 501)) ∧
 (((Go.Value.int Go.IntKind.i64 (16 : Int)) = (Go.Value.int Go.IntKind.i64 (16 : Int))) ∧
 True))))))) ∧
 (True ∧
 (( (((Go.Value.slice (Option.some (Go.Addr.mk 1000 0 Option.none)) 32 501) = (Go.Value.slice (Option.some (Go.Addr.mk 1000 0 Option.none)) 32 501)) ∧
 (((Go.Value.int Go.IntKind.i64 (32 : Int)) = (Go.Value.int Go.IntKind.i64 (32 : Int))) ∧
 (((Go.Value.slice (Option.some (Go.Addr.mk 1000 0 Option.none)) 501 501) = (Go.Value.slice (Option.some (Go.Addr.mk 1000 0 Option.none)) 501 501)) ∧
 (((Go.Value.slice (Option.some (Go.Addr.mk 1000 32 Option.none)) 469 469) = (Go.Value.slice (Option.some (Go.Addr.mk 1000 32 Option.none)) 469 469)) ∧
 (((Go.Value.int Go.IntKind.i64 (32 : Int)) = (Go.Value.int Go.IntKind.i64 (32 : Int))) ∧
 (((Go.Value.slice (Option.some (Go.Addr.mk 1000 0 Option.none)) 501 501) = (Go.Value.slice (Option.some (Go.Addr.mk 1000 0 Option.none)) 501 501)) ∧
 (((Go.Value.int Go.IntKind.i64 (32 : Int)) = (Go.Value.int Go.IntKind.i64 (32 : Int))) ∧
 True)))))))) ∧
 (( (((Go.Value.int Go.IntKind.i64 (64 : Int)) = (Go.Value.int Go.IntKind.i64 (64 : Int))) ∧
 (((Go.Value.int Go.IntKind.i64 (32 : Int)) = (Go.Value.int Go.IntKind.i64 (32 : Int))) ∧
 (((Go.Value.slice (Option.some (Go.Addr.mk 1000 0 Option.none)) 501 501) = (Go.Value.slice (Option.some (Go.Addr.mk 1000 0 Option.none)) 501 501)) ∧
 (((Go.Value.int Go.IntKind.i64 (32 : Int)) = (Go.Value.int Go.IntKind.i64 (32 : Int))) ∧
 (((Go.Value.slice (Option.some (Go.Addr.mk 1000 0 Option.none)) 501 501) = (Go.Value.slice (Option.some (Go.Addr.mk 1000 0 Option.none)) 501 501)) ∧
 (((Go.Value.int Go.IntKind.i64 (32 : Int)) = (Go.Value.int Go.IntKind.i64 (32 : Int))) ∧
 True))))))) ∧
 (True ∧
 (( (((Go.Value.slice (Option.some (Go.Addr.mk 1000 0 Option.none)) 64 501) = (Go.Value.slice (Option.some (Go.Addr.mk 1000 0 Option.none)) 64 501)) ∧
 (((Go.Value.int Go.IntKind.i64 (64 : Int)) = (Go.Value.int Go.IntKind.i64 (64 : Int))) ∧
 (((Go.Value.slice (Option.some (Go.Addr.mk 1000 0 Option.none)) 501 501) = (Go.Value.slice (Option.some (Go.Addr.mk 1000 0 Option.none)) 501 501)) ∧
 (((Go.Value.slice (Option.some (Go.Addr.mk 1000 64 Option.none)) 437 437) = (Go.Value.slice (Option.some (Go.Addr.mk 1000 64 Option.none)) 437 437)) ∧
 (((Go.Value.int Go.IntKind.i64 (64 : Int)) = (Go.Value.int Go.IntKind.i64 (64 : Int))) ∧
 (((Go.Value.slice (Option.some (Go.Addr.mk 1000 0 Option.none)) 501 501) = (Go.Value.slice (Option.some (Go.Addr.mk 1000 0 Option.none)) 501 501)) ∧
 (((Go.Value.int Go.IntKind.i64 (64 : Int)) = (Go.Value.int Go.IntKind.i64 (64 : Int))) ∧
 True)))))))) ∧
 (( (((Go.Value.int Go.IntKind.i64 (128 : Int)) = (Go.Value.int Go.IntKind.i64 (128 : Int))) ∧
 (((Go.Value.int Go.IntKind.i64 (64 : Int)) = (Go.Value.int Go.IntKind.i64 (64 : Int))) ∧
 (((Go.Value.slice (Option.some (Go.Addr.mk 1000 0 Option.none)) 501 501) = (Go.Value.slice (Option.some (Go.Addr.mk 1000 0 Option.none)) 501 501)) ∧
 (((Go.Value.int Go.IntKind.i64 (64 : Int)) = (Go.Value.int Go.IntKind.i64 (64 : Int))) ∧
 (((Go.Value.slice (Option.some (Go.Addr.mk 1000 0 Option.none)) 501 501) = (Go.Value.slice (Option.some (Go.Addr.mk 1000 0 Option.none)) 501 501)) ∧
 (((Go.Value.int Go.IntKind.i64 (64 : Int)) = (Go.Value.int Go.IntKind.i64 (64 : Int))) ∧
 True))))))) ∧
 (True ∧
 (( (((Go.Value.slice (Option.some (Go.Addr.mk 1000 0 Option.none)) 128 501) = (Go.Value.slice (Option.some (Go.Addr.mk 1000 0 Option.none)) 128 501)) ∧
 (((Go.Value.int Go.IntKind.i64 (128 : Int)) = (Go.Value.int Go.IntKind.i64 (128 : Int))) ∧
 (((Go.Value.slice (Option.some (Go.Addr.mk 1000 0 Option.none)) 501 501) = (Go.Value.slice (Option.some (Go.Addr.mk 1000 0 Option.none)) 501 501)) ∧
 (((Go.Value.slice (Option.some (Go.Addr.mk 1000 128 Option.none)) 373 373) = (Go.Value.slice (Option.some (Go.Addr.mk 1000 128 Option.none)) 373 373)) ∧
 (((Go.Value.int Go.IntKind.i64 (128 : Int)) = (Go.Value.int Go.IntKind.i64 (128 : Int))) ∧
 (((Go.Value.slice (Option.some (Go.Addr.mk 1000 0 Option.none)) 501 501) = (Go.Value.slice (Option.some (Go.Addr.mk 1000 0 Option.none)) 501 501)) ∧
 (((Go.Value.int Go.IntKind.i64 (128 : Int)) = (Go.Value.int Go.IntKind.i64 (128 : Int))) ∧
 True)))))))) ∧
 (( (((Go.Value.int Go.IntKind.i64 (256 : Int)) = (Go.Value.int Go.IntKind.i64 (256 : Int))) ∧
 (((Go.Value.int Go.IntKind.i64 (128 : Int)) = (Go.Value.int Go.IntKind.i64 (128 : Int))) ∧
 (((Go.Value.slice (Option.some (Go.Addr.mk 1000 0 Option.none)) 501 501) = (Go.Value.slice (Option.some (Go.Addr.mk 1000 0 Option.none)) 501 501)) ∧
 (((Go.Value.int Go.IntKind.i64 (128 : Int)) = (Go.Value.int Go.IntKind.i64 (128 : Int))) ∧
 (((Go.Value.slice (Option.some (Go.Addr.mk 1000 0 Option.none)) 501 501) = (Go.Value.slice (Option.some (Go.Addr.mk 1000 0 Option.none)) 501 501)) ∧
 (((Go.Value.int Go.IntKind.i64 (128 : Int)) = (Go.Value.int Go.IntKind.i64 (128 : Int))) ∧
 True))))))) ∧
 (True ∧
 (( (((Go.Value.slice (Option.some (Go.Addr.mk 1000 0 Option.none)) 256 501) = (Go.Value.slice (Option.some (Go.Addr.mk 1000 0 Option.none)) 256 501)) ∧
 (((Go.Value.int Go.IntKind.i64 (256 : Int)) = (Go.Value.int Go.IntKind.i64 (256 : Int))) ∧
 (((Go.Value.slice (Option.some (Go.Addr.mk 1000 0 Option.none)) 501 501) = (Go.Value.slice (Option.some (Go.Addr.mk 1000 0 Option.none)) 501 501)) ∧
 (((Go.Value.slice (Option.some (Go.Addr.mk 1000 256 Option.none)) 245 245) = (Go.Value.slice (Option.some (Go.Addr.mk 1000 256 Option.none)) 245 245)) ∧
 (((Go.Value.int Go.IntKind.i64 (256 : Int)) = (Go.Value.int Go.IntKind.i64 (256 : Int))) ∧
 (((Go.Value.slice (Option.some (Go.Addr.mk 1000 0 Option.none)) 501 501) = (Go.Value.slice (Option.some (Go.Addr.mk 1000 0 Option.none)) 501 501)) ∧
 (((Go.Value.int Go.IntKind.i64 (256 : Int)) = (Go.Value.int Go.IntKind.i64 (256 : Int))) ∧
 True)))))))) ∧
 (( (((Go.Value.int Go.IntKind.i64 (501 : Int)) = (Go.Value.int Go.IntKind.i64 (501 : Int))) ∧
 (((Go.Value.int Go.IntKind.i64 (256 : Int)) = (Go.Value.int Go.IntKind.i64 (256 : Int))) ∧
 (((Go.Value.slice (Option.some (Go.Addr.mk 1000 0 Option.none)) 501 501) = (Go.Value.slice (Option.some (Go.Addr.mk 1000 0 Option.none)) 501 501)) ∧
 (((Go.Value.int Go.IntKind.i64 (256 : Int)) = (Go.Value.int Go.IntKind.i64 (256 : Int))) ∧
 (((Go.Value.slice (Option.some (Go.Addr.mk 1000 0 Option.none)) 501 501) = (Go.Value.slice (Option.some (Go.Addr.mk 1000 0 Option.none)) 501 501)) ∧
 (((Go.Value.int Go.IntKind.i64 (256 : Int)) = (Go.Value.int Go.IntKind.i64 (256 : Int))) ∧
 True))))))) ∧
 (True ∧
 (((501 = 501) ∧
 (501 = 501)) ∧
 (k [(D.sl 501 1 (List.replicate 501 (Go.Value.int Go.IntKind.i64 (x))))]))))))))))))))))))))))))))))) := by kernel_rfl
abbrev B3 (vs : List Value) : Nat × AObj := (1003, .sym vs true 1)
def sR4 (x : Int) (m n : Nat) (i t : Int) : Slots := [(1, vI x), (2, P1 1000 0), (6, Sl 1001 m), (8, Sl 1002 n), (10, vI i), (11, vI t)]
def rR4 (C : Ct) (L : AtLoop) (a b c d x : Int) (m : Nat) (vs : List Value) (n : Nat) (us : List Value) (i t : Int) (B : Bx) (X : Xx) (k : List D → Prop) : Prop := wpRound Try.prog (hG C) L 16 4 (sR4 x m n i t) [oN a b c d, B1 vs, B2 us] B X (dataK k)
theorem rR4_text (C : Ct) (L : AtLoop) (a : Int) (b : Int) (c : Int) (d : Int) (x : Int) (m : Nat) (vs : List Go.Value) (n : Nat) (us : List Go.Value) (i : Int) (t : Int) (B : Bx) (X : Xx) (k : List D → Prop) : rR4 C L a b c d x m vs n us i t B X k =
 (bcase (decide (t ≤ Go.IntKind.wrap Go.IntKind.i64 ((↑n : Int) + a)))
 (bcase (decide (m < m + 1))
 (bcase (decide ((2 * (m + 1) + 768) * 8 ≤ 281474976710656))
 (bcase (decide (m + 1 ≤ 1099511627776))
 (bcase (decide (0 + m * 1 ≤ List.length vs))
 (bcase (decide (0 + m * 1 = List.length vs))
 (B [(Prod.mk 1 (Go.Value.int Go.IntKind.i64 (x))), (Prod.mk 2 (Go.Value.pointer (Option.some (Go.Addr.mk 1000 0 Option.none)))), (Prod.mk 6 (Go.Value.slice (Option.some (Go.Addr.mk 1001 0 Option.none)) (m + 1) (m + 1))), (Prod.mk 8 (Go.Value.slice (Option.some (Go.Addr.mk 1002 0 Option.none)) (n) (n))), (Prod.mk 10 (Go.Value.int Go.IntKind.i64 (i))), (Prod.mk 11 (Go.Value.int Go.IntKind.i64 (Go.IntKind.wrap Go.IntKind.i64 (t + 1))))] [(Prod.mk 1000 (AObj.cells [(Go.Value.int Go.IntKind.i64 (a)), (Go.Value.int Go.IntKind.i64 (b)), (Go.Value.int Go.IntKind.i64 (c)), (Go.Value.int Go.IntKind.i64 (d))] 32 false 1)), (Prod.mk 1001 (AObj.sym ((List.take (m * 1) (List.drop 0 vs)) ++ [(Go.Value.int Go.IntKind.i64 (x))]) true 1)), (Prod.mk 1002 (AObj.sym (us) true 1))])
 False)
 False)
 False)
 False)
 False)
 (X 4 [(Prod.mk 2 (Go.Value.pointer (Option.some (Go.Addr.mk 1000 0 Option.none)))), (Prod.mk 6 (Go.Value.slice (Option.some (Go.Addr.mk 1001 0 Option.none)) (m) (m))), (Prod.mk 8 (Go.Value.slice (Option.some (Go.Addr.mk 1002 0 Option.none)) (n) (n))), (Prod.mk 10 (Go.Value.int Go.IntKind.i64 (i)))] [(Prod.mk 1000 (AObj.cells [(Go.Value.int Go.IntKind.i64 (a)), (Go.Value.int Go.IntKind.i64 (b)), (Go.Value.int Go.IntKind.i64 (c)), (Go.Value.int Go.IntKind.i64 (d))] 32 false 1)), (Prod.mk 1001 (AObj.sym (vs) true 1)), (Prod.mk 1002 (AObj.sym (us) true 1))])) := by kernel_rfl
def sN4 (m n : Nat) (i : Int) : Slots := [(2, P1 1000 0), (6, Sl 1001 m), (8, Sl 1002 n), (10, vI i)]
def nR4 (C : Ct) (L : AtLoop) (a b c d : Int) (m : Nat) (vs : List Value) (n : Nat) (us : List Value) (i : Int) (k : List D → Prop) : Prop := wpNext Try.prog (hG C) L 16 4 .normal (sN4 m n i) [oN a b c d, B1 vs, B2 us] (dataK k)
theorem nR4_text (C : Ct) (L : AtLoop) (a : Int) (b : Int) (c : Int) (d : Int) (m : Nat) (vs : List Go.Value) (n : Nat) (us : List Go.Value) (i : Int) (k : List D → Prop) : nR4 C L a b c d m vs n us i k =
 (bcase (decide (0 + m * 1 ≤ List.length vs))
 ((((Says C 37 [(D.agg [(D.val (Go.Value.int Go.IntKind.i64 (a))), (D.val (Go.Value.int Go.IntKind.i64 (b))), (D.val (Go.Value.int Go.IntKind.i64 (c))), (D.val (Go.Value.int Go.IntKind.i64 (d)))]), (D.sl (m) 1 (List.take (m * 1) (List.drop 0 vs)))] [D.nil, (D.val (Go.Value.bool true))]) ∧
 (L 6 [(Prod.mk 8 (Go.Value.slice (Option.some (Go.Addr.mk 1000 0 Option.none)) (n) (n))), (Prod.mk 10 (Go.Value.int Go.IntKind.i64 (i))), (Prod.mk 12 (Go.Value.slice Option.none 0 0)), (Prod.mk 13 (Go.Value.int Go.IntKind.i64 (i)))] [(Prod.mk 1000 (AObj.sym (us) true 1))])) ∨
 ((Says C 37 [(D.agg [(D.val (Go.Value.int Go.IntKind.i64 (a))), (D.val (Go.Value.int Go.IntKind.i64 (b))), (D.val (Go.Value.int Go.IntKind.i64 (c))), (D.val (Go.Value.int Go.IntKind.i64 (d)))]), (D.sl (m) 1 (List.take (m * 1) (List.drop 0 vs)))] [D.nil, (D.val (Go.Value.bool false))]) ∧
 (k [(D.val (Go.Value.int Go.IntKind.i64 (0 : Int))), (D.val (Go.Value.int Go.IntKind.i64 (21 : Int)))]))) ∨
 (∃ n1 : Nat,
 (∃ cs1 : List Go.Value,
 (((Says C 37 [(D.agg [(D.val (Go.Value.int Go.IntKind.i64 (a))), (D.val (Go.Value.int Go.IntKind.i64 (b))), (D.val (Go.Value.int Go.IntKind.i64 (c))), (D.val (Go.Value.int Go.IntKind.i64 (d)))]), (D.sl (m) 1 (List.take (m * 1) (List.drop 0 vs)))] [(D.sl (n1) 1 (cs1)), (D.val (Go.Value.bool true))]) ∧
 (L 6 [(Prod.mk 8 (Go.Value.slice (Option.some (Go.Addr.mk 1000 0 Option.none)) (n) (n))), (Prod.mk 10 (Go.Value.int Go.IntKind.i64 (i))), (Prod.mk 12 (Go.Value.slice (Option.some (Go.Addr.mk 1001 0 Option.none)) (n1) (n1))), (Prod.mk 13 (Go.Value.int Go.IntKind.i64 (i)))] [(Prod.mk 1000 (AObj.sym (us) true 1)), (Prod.mk 1001 (AObj.sym (cs1) true 1))])) ∨
 ((Says C 37 [(D.agg [(D.val (Go.Value.int Go.IntKind.i64 (a))), (D.val (Go.Value.int Go.IntKind.i64 (b))), (D.val (Go.Value.int Go.IntKind.i64 (c))), (D.val (Go.Value.int Go.IntKind.i64 (d)))]), (D.sl (m) 1 (List.take (m * 1) (List.drop 0 vs)))] [(D.sl (n1) 1 (cs1)), (D.val (Go.Value.bool false))]) ∧
 (k [(D.val (Go.Value.int Go.IntKind.i64 (0 : Int))), (D.val (Go.Value.int Go.IntKind.i64 (21 : Int)))]))))))
 False) := by kernel_rfl
def sR6 (n m : Nat) (i t : Int) : Slots := [(8, Sl 1000 n), (10, vI i), (12, Sl 1001 m), (13, vI t)]
def bR6 (us vs : List Value) : Blocks := [(1000, .sym us true 1), (1001, .sym vs true 1)]
def rR6 (C : Ct) (L : AtLoop) (n : Nat) (us : List Value) (m : Nat) (vs : List Value) (i t : Int) (B : Bx) (X : Xx) (k : List D → Prop) : Prop := wpRound Try.prog (hG C) L 16 6 (sR6 n m i t) (bR6 us vs) B X (dataK k)
theorem rR6_text (C : Ct) (L : AtLoop) (n : Nat) (us : List Go.Value) (m : Nat) (vs : List Go.Value) (i : Int) (t : Int) (B : Bx) (X : Xx) (k : List D → Prop) : rR6 C L n us m vs i t B X k =
 (bcase (decide (t < (↑m : Int)))
 (bcase (decide (0 ≤ t))
 (bcase (decide (t < (↑m : Int)))
 (∃ n1 : Int,
 ((At (vs) (0 + Int.toNat t * 1) 1 [(Go.Value.int Go.IntKind.i64 (n1))]) ∧
 (bcase (decide (0 ≤ i))
 (bcase (decide (i < (↑n : Int)))
 (∃ n2 : Int,
 ((At (us) (0 + Int.toNat i * 1) 1 [(Go.Value.int Go.IntKind.i64 (n2))]) ∧
 (bcase (n1 != n2)
 (((bcase (n1 != n2)
 ((Go.Value.bool true) = (Go.Value.bool true))
 ((Go.Value.bool false) = (Go.Value.bool true))) ∧
 ((∃ n3 : Int,
 ((At (us) (0 + Int.toNat i * 1) 1 [(Go.Value.int Go.IntKind.i64 (n3))]) ∧
 ((Go.Value.int Go.IntKind.i64 (n3)) = (Go.Value.int Go.IntKind.i64 (n2))))) ∧
 ((bcase (decide (0 ≤ i))
 (bcase (decide (i < (↑n : Int)))
 ((Go.Value.pointer (Option.some (Go.Addr.mk 1000 (0 + Int.toNat i * 1) Option.none))) = (Go.Value.pointer (Option.some (Go.Addr.mk 1000 (0 + Int.toNat i * 1) Option.none))))
 False)
 False) ∧
 (((Go.Value.int Go.IntKind.i64 (i)) = (Go.Value.int Go.IntKind.i64 (i))) ∧
 (((Go.Value.slice (Option.some (Go.Addr.mk 1000 0 Option.none)) (n) (n)) = (Go.Value.slice (Option.some (Go.Addr.mk 1000 0 Option.none)) (n) (n))) ∧
 ((∃ n3 : Int,
 ((At (vs) (0 + Int.toNat t * 1) 1 [(Go.Value.int Go.IntKind.i64 (n3))]) ∧
 ((Go.Value.int Go.IntKind.i64 (n3)) = (Go.Value.int Go.IntKind.i64 (n1))))) ∧
 ((bcase (decide (0 ≤ t))
 (bcase (decide (t < (↑m : Int)))
 ((Go.Value.pointer (Option.some (Go.Addr.mk 1001 (0 + Int.toNat t * 1) Option.none))) = (Go.Value.pointer (Option.some (Go.Addr.mk 1001 (0 + Int.toNat t * 1) Option.none))))
 False)
 False) ∧
 (((Go.Value.int Go.IntKind.i64 (t)) = (Go.Value.int Go.IntKind.i64 (t))) ∧
 (((Go.Value.slice (Option.some (Go.Addr.mk 1001 0 Option.none)) (m) (m)) = (Go.Value.slice (Option.some (Go.Addr.mk 1001 0 Option.none)) (m) (m))) ∧
 True))))))))) ∧
 (k [(D.val (Go.Value.int Go.IntKind.i64 (0 : Int))), (D.val (Go.Value.int Go.IntKind.i64 (21 : Int)))]))
 (((bcase (n1 != n2)
 ((Go.Value.bool true) = (Go.Value.bool false))
 ((Go.Value.bool false) = (Go.Value.bool false))) ∧
 ((∃ n3 : Int,
 ((At (us) (0 + Int.toNat i * 1) 1 [(Go.Value.int Go.IntKind.i64 (n3))]) ∧
 ((Go.Value.int Go.IntKind.i64 (n3)) = (Go.Value.int Go.IntKind.i64 (n2))))) ∧
 ((bcase (decide (0 ≤ i))
 (bcase (decide (i < (↑n : Int)))
 ((Go.Value.pointer (Option.some (Go.Addr.mk 1000 (0 + Int.toNat i * 1) Option.none))) = (Go.Value.pointer (Option.some (Go.Addr.mk 1000 (0 + Int.toNat i * 1) Option.none))))
 False)
 False) ∧
 (((Go.Value.int Go.IntKind.i64 (i)) = (Go.Value.int Go.IntKind.i64 (i))) ∧
 (((Go.Value.slice (Option.some (Go.Addr.mk 1000 0 Option.none)) (n) (n)) = (Go.Value.slice (Option.some (Go.Addr.mk 1000 0 Option.none)) (n) (n))) ∧
 ((∃ n3 : Int,
 ((At (vs) (0 + Int.toNat t * 1) 1 [(Go.Value.int Go.IntKind.i64 (n3))]) ∧
 ((Go.Value.int Go.IntKind.i64 (n3)) = (Go.Value.int Go.IntKind.i64 (n1))))) ∧
 ((bcase (decide (0 ≤ t))
 (bcase (decide (t < (↑m : Int)))
 ((Go.Value.pointer (Option.some (Go.Addr.mk 1001 (0 + Int.toNat t * 1) Option.none))) = (Go.Value.pointer (Option.some (Go.Addr.mk 1001 (0 + Int.toNat t * 1) Option.none))))
 False)
 False) ∧
 (((Go.Value.int Go.IntKind.i64 (t)) = (Go.Value.int Go.IntKind.i64 (t))) ∧
 (((Go.Value.slice (Option.some (Go.Addr.mk 1001 0 Option.none)) (m) (m)) = (Go.Value.slice (Option.some (Go.Addr.mk 1001 0 Option.none)) (m) (m))) ∧
 True))))))))) ∧
 (B [(Prod.mk 8 (Go.Value.slice (Option.some (Go.Addr.mk 1000 0 Option.none)) (n) (n))), (Prod.mk 10 (Go.Value.int Go.IntKind.i64 (i))), (Prod.mk 12 (Go.Value.slice (Option.some (Go.Addr.mk 1001 0 Option.none)) (m) (m))), (Prod.mk 13 (Go.Value.int Go.IntKind.i64 (Go.IntKind.wrap Go.IntKind.i64 (t + 1))))] [(Prod.mk 1000 (AObj.sym (us) true 1)), (Prod.mk 1001 (AObj.sym (vs) true 1))])))))
 False)
 False)))
 False)
 False)
 (X 6 [(Prod.mk 10 (Go.Value.int Go.IntKind.i64 (i)))] [])) := by kernel_rfl
def nR6 (C : Ct) (L : AtLoop) (i : Int) (k : List D → Prop) : Prop := wpNext Try.prog (hG C) L 16 6 .normal [(10, vI i)] [] (dataK k)
theorem nR6_text (C : Ct) (L : AtLoop) (i : Int) (k : List D → Prop) : nR6 C L i k =
 (k [(D.val (Go.Value.int Go.IntKind.i64 (i))), (D.val (Go.Value.int Go.IntKind.i64 (0 : Int)))]) := by kernel_rfl
def g4 (C : Ct) (L : AtLoop) (a b c d : Int) (n cap : Nat) (l : List Value) (x : Int) (k : List D → Prop) : Prop := wpFn Try.prog (hG C) L 0 4 #[vA a b c d, S500 n cap, vI x] (heapOf [Q500 l]) (dataK k)
theorem g4_text (C : Ct) (L : AtLoop) (a : Int) (b : Int) (c : Int) (d : Int) (n : Nat) (cap : Nat) (l : List Go.Value) (x : Int) (k : List D → Prop) : g4 C L a b c d n cap l x k =
 (((Says C 6 [] [(D.val (Go.Value.bool true))]) ∧
 (bcase (decide ((↑n : Int) > 60))
 (bcase (decide ((↑n : Int) ≤ 500))
 (k [(D.val (Go.Value.bool true))])
 (bcase (decide ((↑n : Int) > 502))
 (k [(D.val (Go.Value.bool true))])
 ((((Go.Value.slice (Option.some (Go.Addr.mk 500 0 Option.none)) (n) (cap)) = (Go.Value.slice (Option.some (Go.Addr.mk 500 0 Option.none)) (n) (cap))) ∧
 (((Go.Value.agg [(Go.Value.int Go.IntKind.i64 (a)), (Go.Value.int Go.IntKind.i64 (b)), (Go.Value.int Go.IntKind.i64 (c)), (Go.Value.int Go.IntKind.i64 (d))].toArray) = (Go.Value.agg [(Go.Value.int Go.IntKind.i64 (a)), (Go.Value.int Go.IntKind.i64 (b)), (Go.Value.int Go.IntKind.i64 (c)), (Go.Value.int Go.IntKind.i64 (d))].toArray)) ∧
 True)) ∧
 (bcase (decide (0 + n * 1 ≤ List.length l))
 ((Says C 8 [(D.sl (n) 1 (List.take (n * 1) (List.drop 0 l)))] [(D.sl (n) 1 (List.take (n * 1) (List.drop 0 l)))]) ∧
 ((((Go.Value.agg [(Go.Value.int Go.IntKind.i64 (a)), (Go.Value.int Go.IntKind.i64 (b)), (Go.Value.int Go.IntKind.i64 (c)), (Go.Value.int Go.IntKind.i64 (d))].toArray) = (Go.Value.agg [(Go.Value.int Go.IntKind.i64 (a)), (Go.Value.int Go.IntKind.i64 (b)), (Go.Value.int Go.IntKind.i64 (c)), (Go.Value.int Go.IntKind.i64 (d))].toArray)) ∧
 True) ∧
 (bcase (decide (0 + n * 1 ≤ List.length (List.take (n * 1) (List.drop 0 l))))
 ((∃ n1 : Int,
 ((Says C 11 [(D.agg [(D.val (Go.Value.int Go.IntKind.i64 (a))), (D.val (Go.Value.int Go.IntKind.i64 (b))), (D.val (Go.Value.int Go.IntKind.i64 (c))), (D.val (Go.Value.int Go.IntKind.i64 (d)))]), (D.sl (n) 1 (List.take (n * 1) (List.drop 0 (List.take (n * 1) (List.drop 0 l)))))] [D.nil, (D.val (Go.Value.int Go.IntKind.i64 (n1)))]) ∧
 ((((Go.Value.int Go.IntKind.i64 (n1)) = (Go.Value.int Go.IntKind.i64 (n1))) ∧
 (((Go.Value.slice Option.none 0 0) = (Go.Value.slice Option.none 0 0)) ∧
 (((Go.Value.tuple [(Go.Value.slice Option.none 0 0), (Go.Value.int Go.IntKind.i64 (n1))].toArray) = (Go.Value.tuple [(Go.Value.slice Option.none 0 0), (Go.Value.int Go.IntKind.i64 (n1))].toArray)) ∧
 True))) ∧
 ((((Go.Value.int Go.IntKind.i64 (n1)) = (Go.Value.int Go.IntKind.i64 (n1))) ∧
 True) ∧
 (True ∧
 (∃ n2 : Int,
 (∃ n3 : Int,
 ((Says C 12 [(D.agg [(D.val (Go.Value.int Go.IntKind.i64 (a))), (D.val (Go.Value.int Go.IntKind.i64 (b))), (D.val (Go.Value.int Go.IntKind.i64 (c))), (D.val (Go.Value.int Go.IntKind.i64 (d)))]), (D.val (Go.Value.int Go.IntKind.i64 (x)))] [(D.val (Go.Value.int Go.IntKind.i64 (n2))), (D.val (Go.Value.int Go.IntKind.i64 (n3)))]) ∧
 (∃ n4 : Int,
 ((Says C 13 [(D.agg [(D.val (Go.Value.int Go.IntKind.i64 (a))), (D.val (Go.Value.int Go.IntKind.i64 (b))), (D.val (Go.Value.int Go.IntKind.i64 (c))), (D.val (Go.Value.int Go.IntKind.i64 (d)))])] [(D.val (Go.Value.int Go.IntKind.i64 (n4)))]) ∧
 (∃ n5 : Int,
 ((Says C 14 [(D.agg [(D.val (Go.Value.int Go.IntKind.i64 (a))), (D.val (Go.Value.int Go.IntKind.i64 (b))), (D.val (Go.Value.int Go.IntKind.i64 (c))), (D.val (Go.Value.int Go.IntKind.i64 (d)))])] [(D.val (Go.Value.int Go.IntKind.i64 (n5)))]) ∧
 (bcase (n5 != n4)
 (k [(D.val (Go.Value.bool false))])
 (bcase (n4 != 0)
 (bcase (n1 == n4)
 (bcase (n3 == n4)
 (bcase (n2 == 0)
 (k [(D.val (Go.Value.bool true))])
 (k [(D.val (Go.Value.bool false))]))
 (k [(D.val (Go.Value.bool false))]))
 (k [(D.val (Go.Value.bool false))]))
 (bcase (decide (0 + n * 1 ≤ List.length l))
 ((∃ n6 : Int,
 ((Says C 15 [(D.agg [(D.val (Go.Value.int Go.IntKind.i64 (a))), (D.val (Go.Value.int Go.IntKind.i64 (b))), (D.val (Go.Value.int Go.IntKind.i64 (c))), (D.val (Go.Value.int Go.IntKind.i64 (d)))]), (D.sl (n) 1 (List.take (n * 1) (List.drop 0 l)))] [D.nil, (D.val (Go.Value.int Go.IntKind.i64 (n6)))]) ∧
 (∃ n7 : Int,
 (∃ n8 : Int,
 ((Says C 16 [(D.agg [(D.val (Go.Value.int Go.IntKind.i64 (a))), (D.val (Go.Value.int Go.IntKind.i64 (b))), (D.val (Go.Value.int Go.IntKind.i64 (c))), (D.val (Go.Value.int Go.IntKind.i64 (d)))]), (D.val (Go.Value.int Go.IntKind.i64 (x)))] [(D.val (Go.Value.int Go.IntKind.i64 (n7))), (D.val (Go.Value.int Go.IntKind.i64 (n8)))]) ∧
 (bcase (n1 == n6)
 (((Says C 10 [D.nil, D.nil] [(D.val (Go.Value.bool true))]) ∧
 (bcase (n3 == n8)
 (bcase (n2 == n7)
 (k [(D.val (Go.Value.bool true))])
 (k [(D.val (Go.Value.bool false))]))
 (k [(D.val (Go.Value.bool false))]))) ∨
 ((Says C 10 [D.nil, D.nil] [(D.val (Go.Value.bool false))]) ∧
 (k [(D.val (Go.Value.bool false))])))
 (k [(D.val (Go.Value.bool false))]))))))) ∨
 (∃ n6 : Nat,
 (∃ cs1 : List Go.Value,
 (∃ n7 : Int,
 ((Says C 15 [(D.agg [(D.val (Go.Value.int Go.IntKind.i64 (a))), (D.val (Go.Value.int Go.IntKind.i64 (b))), (D.val (Go.Value.int Go.IntKind.i64 (c))), (D.val (Go.Value.int Go.IntKind.i64 (d)))]), (D.sl (n) 1 (List.take (n * 1) (List.drop 0 l)))] [(D.sl (n6) 1 (cs1)), (D.val (Go.Value.int Go.IntKind.i64 (n7)))]) ∧
 (∃ n8 : Int,
 (∃ n9 : Int,
 ((Says C 16 [(D.agg [(D.val (Go.Value.int Go.IntKind.i64 (a))), (D.val (Go.Value.int Go.IntKind.i64 (b))), (D.val (Go.Value.int Go.IntKind.i64 (c))), (D.val (Go.Value.int Go.IntKind.i64 (d)))]), (D.val (Go.Value.int Go.IntKind.i64 (x)))] [(D.val (Go.Value.int Go.IntKind.i64 (n8))), (D.val (Go.Value.int Go.IntKind.i64 (n9)))]) ∧
 (bcase (n1 == n7)
 (bcase (decide (0 + n6 * 1 ≤ List.length cs1))
 (((Says C 10 [D.nil, (D.sl (n6) 1 (List.take (n6 * 1) (List.drop 0 cs1)))] [(D.val (Go.Value.bool true))]) ∧
 (bcase (n3 == n9)
 (bcase (n2 == n8)
 (k [(D.val (Go.Value.bool true))])
 (k [(D.val (Go.Value.bool false))]))
 (k [(D.val (Go.Value.bool false))]))) ∨
 ((Says C 10 [D.nil, (D.sl (n6) 1 (List.take (n6 * 1) (List.drop 0 cs1)))] [(D.val (Go.Value.bool false))]) ∧
 (k [(D.val (Go.Value.bool false))])))
 False)
 (k [(D.val (Go.Value.bool false))]))))))))))
 False))))))))))))))) ∨
 (∃ n1 : Nat,
 (∃ cs1 : List Go.Value,
 (∃ n2 : Int,
 ((Says C 11 [(D.agg [(D.val (Go.Value.int Go.IntKind.i64 (a))), (D.val (Go.Value.int Go.IntKind.i64 (b))), (D.val (Go.Value.int Go.IntKind.i64 (c))), (D.val (Go.Value.int Go.IntKind.i64 (d)))]), (D.sl (n) 1 (List.take (n * 1) (List.drop 0 (List.take (n * 1) (List.drop 0 l)))))] [(D.sl (n1) 1 (cs1)), (D.val (Go.Value.int Go.IntKind.i64 (n2)))]) ∧
 ((((Go.Value.int Go.IntKind.i64 (n2)) = (Go.Value.int Go.IntKind.i64 (n2))) ∧
 (((Go.Value.slice (Option.some (Go.Addr.mk 1002 0 Option.none)) (n1) (n1)) = (Go.Value.slice (Option.some (Go.Addr.mk 1002 0 Option.none)) (n1) (n1))) ∧
 (((Go.Value.tuple [(Go.Value.slice (Option.some (Go.Addr.mk 1002 0 Option.none)) (n1) (n1)), (Go.Value.int Go.IntKind.i64 (n2))].toArray) = (Go.Value.tuple [(Go.Value.slice (Option.some (Go.Addr.mk 1002 0 Option.none)) (n1) (n1)), (Go.Value.int Go.IntKind.i64 (n2))].toArray)) ∧
 True))) ∧
 ((((Go.Value.int Go.IntKind.i64 (n2)) = (Go.Value.int Go.IntKind.i64 (n2))) ∧
 True) ∧
 (True ∧
 (∃ n3 : Int,
 (∃ n4 : Int,
 ((Says C 12 [(D.agg [(D.val (Go.Value.int Go.IntKind.i64 (a))), (D.val (Go.Value.int Go.IntKind.i64 (b))), (D.val (Go.Value.int Go.IntKind.i64 (c))), (D.val (Go.Value.int Go.IntKind.i64 (d)))]), (D.val (Go.Value.int Go.IntKind.i64 (x)))] [(D.val (Go.Value.int Go.IntKind.i64 (n3))), (D.val (Go.Value.int Go.IntKind.i64 (n4)))]) ∧
 (∃ n5 : Int,
 ((Says C 13 [(D.agg [(D.val (Go.Value.int Go.IntKind.i64 (a))), (D.val (Go.Value.int Go.IntKind.i64 (b))), (D.val (Go.Value.int Go.IntKind.i64 (c))), (D.val (Go.Value.int Go.IntKind.i64 (d)))])] [(D.val (Go.Value.int Go.IntKind.i64 (n5)))]) ∧
 (∃ n6 : Int,
 ((Says C 14 [(D.agg [(D.val (Go.Value.int Go.IntKind.i64 (a))), (D.val (Go.Value.int Go.IntKind.i64 (b))), (D.val (Go.Value.int Go.IntKind.i64 (c))), (D.val (Go.Value.int Go.IntKind.i64 (d)))])] [(D.val (Go.Value.int Go.IntKind.i64 (n6)))]) ∧
 (bcase (n6 != n5)
 (k [(D.val (Go.Value.bool false))])
 (bcase (n5 != 0)
 (bcase (n2 == n5)
 (bcase (n4 == n5)
 (bcase ((↑n1 : Int) == 0)
 (bcase (n3 == 0)
 (k [(D.val (Go.Value.bool true))])
 (k [(D.val (Go.Value.bool false))]))
 (k [(D.val (Go.Value.bool false))]))
 (k [(D.val (Go.Value.bool false))]))
 (k [(D.val (Go.Value.bool false))]))
 (bcase (decide (0 + n * 1 ≤ List.length l))
 ((∃ n7 : Int,
 ((Says C 15 [(D.agg [(D.val (Go.Value.int Go.IntKind.i64 (a))), (D.val (Go.Value.int Go.IntKind.i64 (b))), (D.val (Go.Value.int Go.IntKind.i64 (c))), (D.val (Go.Value.int Go.IntKind.i64 (d)))]), (D.sl (n) 1 (List.take (n * 1) (List.drop 0 l)))] [D.nil, (D.val (Go.Value.int Go.IntKind.i64 (n7)))]) ∧
 (∃ n8 : Int,
 (∃ n9 : Int,
 ((Says C 16 [(D.agg [(D.val (Go.Value.int Go.IntKind.i64 (a))), (D.val (Go.Value.int Go.IntKind.i64 (b))), (D.val (Go.Value.int Go.IntKind.i64 (c))), (D.val (Go.Value.int Go.IntKind.i64 (d)))]), (D.val (Go.Value.int Go.IntKind.i64 (x)))] [(D.val (Go.Value.int Go.IntKind.i64 (n8))), (D.val (Go.Value.int Go.IntKind.i64 (n9)))]) ∧
 (bcase (n2 == n7)
 (bcase (decide (0 + n1 * 1 ≤ List.length cs1))
 (((Says C 10 [(D.sl (n1) 1 (List.take (n1 * 1) (List.drop 0 cs1))), D.nil] [(D.val (Go.Value.bool true))]) ∧
 (bcase (n4 == n9)
 (bcase (n3 == n8)
 (k [(D.val (Go.Value.bool true))])
 (k [(D.val (Go.Value.bool false))]))
 (k [(D.val (Go.Value.bool false))]))) ∨
 ((Says C 10 [(D.sl (n1) 1 (List.take (n1 * 1) (List.drop 0 cs1))), D.nil] [(D.val (Go.Value.bool false))]) ∧
 (k [(D.val (Go.Value.bool false))])))
 False)
 (k [(D.val (Go.Value.bool false))]))))))) ∨
 (∃ n7 : Nat,
 (∃ cs2 : List Go.Value,
 (∃ n8 : Int,
 ((Says C 15 [(D.agg [(D.val (Go.Value.int Go.IntKind.i64 (a))), (D.val (Go.Value.int Go.IntKind.i64 (b))), (D.val (Go.Value.int Go.IntKind.i64 (c))), (D.val (Go.Value.int Go.IntKind.i64 (d)))]), (D.sl (n) 1 (List.take (n * 1) (List.drop 0 l)))] [(D.sl (n7) 1 (cs2)), (D.val (Go.Value.int Go.IntKind.i64 (n8)))]) ∧
 (∃ n9 : Int,
 (∃ n10 : Int,
 ((Says C 16 [(D.agg [(D.val (Go.Value.int Go.IntKind.i64 (a))), (D.val (Go.Value.int Go.IntKind.i64 (b))), (D.val (Go.Value.int Go.IntKind.i64 (c))), (D.val (Go.Value.int Go.IntKind.i64 (d)))]), (D.val (Go.Value.int Go.IntKind.i64 (x)))] [(D.val (Go.Value.int Go.IntKind.i64 (n9))), (D.val (Go.Value.int Go.IntKind.i64 (n10)))]) ∧
 (bcase (n2 == n8)
 (bcase (decide (0 + n1 * 1 ≤ List.length cs1))
 (bcase (decide (0 + n7 * 1 ≤ List.length cs2))
 (((Says C 10 [(D.sl (n1) 1 (List.take (n1 * 1) (List.drop 0 cs1))), (D.sl (n7) 1 (List.take (n7 * 1) (List.drop 0 cs2)))] [(D.val (Go.Value.bool true))]) ∧
 (bcase (n4 == n10)
 (bcase (n3 == n9)
 (k [(D.val (Go.Value.bool true))])
 (k [(D.val (Go.Value.bool false))]))
 (k [(D.val (Go.Value.bool false))]))) ∨
 ((Says C 10 [(D.sl (n1) 1 (List.take (n1 * 1) (List.drop 0 cs1))), (D.sl (n7) 1 (List.take (n7 * 1) (List.drop 0 cs2)))] [(D.val (Go.Value.bool false))]) ∧
 (k [(D.val (Go.Value.bool false))])))
 False)
 False)
 (k [(D.val (Go.Value.bool false))]))))))))))
 False))))))))))))))))))
 False)))
 False))))
 (bcase (decide ((↑n : Int) > 502))
 (k [(D.val (Go.Value.bool true))])
 ((((Go.Value.slice (Option.some (Go.Addr.mk 500 0 Option.none)) (n) (cap)) = (Go.Value.slice (Option.some (Go.Addr.mk 500 0 Option.none)) (n) (cap))) ∧
 (((Go.Value.agg [(Go.Value.int Go.IntKind.i64 (a)), (Go.Value.int Go.IntKind.i64 (b)), (Go.Value.int Go.IntKind.i64 (c)), (Go.Value.int Go.IntKind.i64 (d))].toArray) = (Go.Value.agg [(Go.Value.int Go.IntKind.i64 (a)), (Go.Value.int Go.IntKind.i64 (b)), (Go.Value.int Go.IntKind.i64 (c)), (Go.Value.int Go.IntKind.i64 (d))].toArray)) ∧
 True)) ∧
 (bcase (decide (0 + n * 1 ≤ List.length l))
 ((Says C 8 [(D.sl (n) 1 (List.take (n * 1) (List.drop 0 l)))] [(D.sl (n) 1 (List.take (n * 1) (List.drop 0 l)))]) ∧
 ((((Go.Value.agg [(Go.Value.int Go.IntKind.i64 (a)), (Go.Value.int Go.IntKind.i64 (b)), (Go.Value.int Go.IntKind.i64 (c)), (Go.Value.int Go.IntKind.i64 (d))].toArray) = (Go.Value.agg [(Go.Value.int Go.IntKind.i64 (a)), (Go.Value.int Go.IntKind.i64 (b)), (Go.Value.int Go.IntKind.i64 (c)), (Go.Value.int Go.IntKind.i64 (d))].toArray)) ∧
 True) ∧
 (bcase (decide (0 + n * 1 ≤ List.length (List.take (n * 1) (List.drop 0 l))))
 ((∃ n1 : Int,
 ((Says C 11 [(D.agg [(D.val (Go.Value.int Go.IntKind.i64 (a))), (D.val (Go.Value.int Go.IntKind.i64 (b))), (D.val (Go.Value.int Go.IntKind.i64 (c))), (D.val (Go.Value.int Go.IntKind.i64 (d)))]), (D.sl (n) 1 (List.take (n * 1) (List.drop 0 (List.take (n * 1) (List.drop 0 l)))))] [D.nil, (D.val (Go.Value.int Go.IntKind.i64 (n1)))]) ∧
 ((((Go.Value.int Go.IntKind.i64 (n1)) = (Go.Value.int Go.IntKind.i64 (n1))) ∧
 (((Go.Value.slice Option.none 0 0) = (Go.Value.slice Option.none 0 0)) ∧
 (((Go.Value.tuple [(Go.Value.slice Option.none 0 0), (Go.Value.int Go.IntKind.i64 (n1))].toArray) = (Go.Value.tuple [(Go.Value.slice Option.none 0 0), (Go.Value.int Go.IntKind.i64 (n1))].toArray)) ∧
 True))) ∧
 ((((Go.Value.int Go.IntKind.i64 (n1)) = (Go.Value.int Go.IntKind.i64 (n1))) ∧
 True) ∧
 (True ∧
 (∃ n2 : Int,
 (∃ n3 : Int,
 ((Says C 12 [(D.agg [(D.val (Go.Value.int Go.IntKind.i64 (a))), (D.val (Go.Value.int Go.IntKind.i64 (b))), (D.val (Go.Value.int Go.IntKind.i64 (c))), (D.val (Go.Value.int Go.IntKind.i64 (d)))]), (D.val (Go.Value.int Go.IntKind.i64 (x)))] [(D.val (Go.Value.int Go.IntKind.i64 (n2))), (D.val (Go.Value.int Go.IntKind.i64 (n3)))]) ∧
 (∃ n4 : Int,
 ((Says C 13 [(D.agg [(D.val (Go.Value.int Go.IntKind.i64 (a))), (D.val (Go.Value.int Go.IntKind.i64 (b))), (D.val (Go.Value.int Go.IntKind.i64 (c))), (D.val (Go.Value.int Go.IntKind.i64 (d)))])] [(D.val (Go.Value.int Go.IntKind.i64 (n4)))]) ∧
 (∃ n5 : Int,
 ((Says C 14 [(D.agg [(D.val (Go.Value.int Go.IntKind.i64 (a))), (D.val (Go.Value.int Go.IntKind.i64 (b))), (D.val (Go.Value.int Go.IntKind.i64 (c))), (D.val (Go.Value.int Go.IntKind.i64 (d)))])] [(D.val (Go.Value.int Go.IntKind.i64 (n5)))]) ∧
 (bcase (n5 != n4)
 (k [(D.val (Go.Value.bool false))])
 (bcase (n4 != 0)
 (bcase (n1 == n4)
 (bcase (n3 == n4)
 (bcase (n2 == 0)
 (k [(D.val (Go.Value.bool true))])
 (k [(D.val (Go.Value.bool false))]))
 (k [(D.val (Go.Value.bool false))]))
 (k [(D.val (Go.Value.bool false))]))
 (bcase (decide (0 + n * 1 ≤ List.length l))
 ((∃ n6 : Int,
 ((Says C 15 [(D.agg [(D.val (Go.Value.int Go.IntKind.i64 (a))), (D.val (Go.Value.int Go.IntKind.i64 (b))), (D.val (Go.Value.int Go.IntKind.i64 (c))), (D.val (Go.Value.int Go.IntKind.i64 (d)))]), (D.sl (n) 1 (List.take (n * 1) (List.drop 0 l)))] [D.nil, (D.val (Go.Value.int Go.IntKind.i64 (n6)))]) ∧
 (∃ n7 : Int,
 (∃ n8 : Int,
 ((Says C 16 [(D.agg [(D.val (Go.Value.int Go.IntKind.i64 (a))), (D.val (Go.Value.int Go.IntKind.i64 (b))), (D.val (Go.Value.int Go.IntKind.i64 (c))), (D.val (Go.Value.int Go.IntKind.i64 (d)))]), (D.val (Go.Value.int Go.IntKind.i64 (x)))] [(D.val (Go.Value.int Go.IntKind.i64 (n7))), (D.val (Go.Value.int Go.IntKind.i64 (n8)))]) ∧
 (bcase (n1 == n6)
 (((Says C 10 [D.nil, D.nil] [(D.val (Go.Value.bool true))]) ∧
 (bcase (n3 == n8)
 (bcase (n2 == n7)
 (k [(D.val (Go.Value.bool true))])
 (k [(D.val (Go.Value.bool false))]))
 (k [(D.val (Go.Value.bool false))]))) ∨
 ((Says C 10 [D.nil, D.nil] [(D.val (Go.Value.bool false))]) ∧
 (k [(D.val (Go.Value.bool false))])))
 (k [(D.val (Go.Value.bool false))]))))))) ∨
 (∃ n6 : Nat,
 (∃ cs1 : List Go.Value,
 (∃ n7 : Int,
 ((Says C 15 [(D.agg [(D.val (Go.Value.int Go.IntKind.i64 (a))), (D.val (Go.Value.int Go.IntKind.i64 (b))), (D.val (Go.Value.int Go.IntKind.i64 (c))), (D.val (Go.Value.int Go.IntKind.i64 (d)))]), (D.sl (n) 1 (List.take (n * 1) (List.drop 0 l)))] [(D.sl (n6) 1 (cs1)), (D.val (Go.Value.int Go.IntKind.i64 (n7)))]) ∧
 (∃ n8 : Int,
 (∃ n9 : Int,
 ((Says C 16 [(D.agg [(D.val (Go.Value.int Go.IntKind.i64 (a))), (D.val (Go.Value.int Go.IntKind.i64 (b))), (D.val (Go.Value.int Go.IntKind.i64 (c))), (D.val (Go.Value.int Go.IntKind.i64 (d)))]), (D.val (Go.Value.int Go.IntKind.i64 (x)))] [(D.val (Go.Value.int Go.IntKind.i64 (n8))), (D.val (Go.Value.int Go.IntKind.i64 (n9)))]) ∧
 (bcase (n1 == n7)
 (bcase (decide (0 + n6 * 1 ≤ List.length cs1))
 (((Says C 10 [D.nil, (D.sl (n6) 1 (List.take (n6 * 1) (List.drop 0 cs1)))] [(D.val (Go.Value.bool true))]) ∧
 (bcase (n3 == n9)
 (bcase (n2 == n8)
 (k [(D.val (Go.Value.bool true))])
 (k [(D.val (Go.Value.bool false))]))
 (k [(D.val (Go.Value.bool false))]))) ∨
 ((Says C 10 [D.nil, (D.sl (n6) 1 (List.take (n6 * 1) (List.drop 0 cs1)))] [(D.val (Go.Value.bool false))]) ∧
 (k [(D.val (Go.Value.bool false))])))
 False)
 (k [(D.val (Go.Value.bool false))]))))))))))
 False))))))))))))))) ∨
 (∃ n1 : Nat,
 (∃ cs1 : List Go.Value,
 (∃ n2 : Int,
 ((Says C 11 [(D.agg [(D.val (Go.Value.int Go.IntKind.i64 (a))), (D.val (Go.Value.int Go.IntKind.i64 (b))), (D.val (Go.Value.int Go.IntKind.i64 (c))), (D.val (Go.Value.int Go.IntKind.i64 (d)))]), (D.sl (n) 1 (List.take (n * 1) (List.drop 0 (List.take (n * 1) (List.drop 0 l)))))] [(D.sl (n1) 1 (cs1)), (D.val (Go.Value.int Go.IntKind.i64 (n2)))]) ∧
 ((((Go.Value.int Go.IntKind.i64 (n2)) = (Go.Value.int Go.IntKind.i64 (n2))) ∧
 (((Go.Value.slice (Option.some (Go.Addr.mk 1002 0 Option.none)) (n1) (n1)) = (Go.Value.slice (Option.some (Go.Addr.mk 1002 0 Option.none)) (n1) (n1))) ∧
 (((Go.Value.tuple [(Go.Value.slice (Option.some (Go.Addr.mk 1002 0 Option.none)) (n1) (n1)), (Go.Value.int Go.IntKind.i64 (n2))].toArray) = (Go.Value.tuple [(Go.Value.slice (Option.some (Go.Addr.mk 1002 0 Option.none)) (n1) (n1)), (Go.Value.int Go.IntKind.i64 (n2))].toArray)) ∧
 True))) ∧
 ((((Go.Value.int Go.IntKind.i64 (n2)) = (Go.Value.int Go.IntKind.i64 (n2))) ∧
 True) ∧
 (True ∧
 (∃ n3 : Int,
 (∃ n4 : Int,
 ((Says C 12 [(D.agg [(D.val (Go.Value.int Go.IntKind.i64 (a))), (D.val (Go.Value.int Go.IntKind.i64 (b))), (D.val (Go.Value.int Go.IntKind.i64 (c))), (D.val (Go.Value.int Go.IntKind.i64 (d)))]), (D.val (Go.Value.int Go.IntKind.i64 (x)))] [(D.val (Go.Value.int Go.IntKind.i64 (n3))), (D.val (Go.Value.int Go.IntKind.i64 (n4)))]) ∧
 (∃ n5 : Int,
 ((Says C 13 [(D.agg [(D.val (Go.Value.int Go.IntKind.i64 (a))), (D.val (Go.Value.int Go.IntKind.i64 (b))), (D.val (Go.Value.int Go.IntKind.i64 (c))), (D.val (Go.Value.int Go.IntKind.i64 (d)))])] [(D.val (Go.Value.int Go.IntKind.i64 (n5)))]) ∧
 (∃ n6 : Int,
 ((Says C 14 [(D.agg [(D.val (Go.Value.int Go.IntKind.i64 (a))), (D.val (Go.Value.int Go.IntKind.i64 (b))), (D.val (Go.Value.int Go.IntKind.i64 (c))), (D.val (Go.Value.int Go.IntKind.i64 (d)))])] [(D.val (Go.Value.int Go.IntKind.i64 (n6)))]) ∧
 (bcase (n6 != n5)
 (k [(D.val (Go.Value.bool false))])
 (bcase (n5 != 0)
 (bcase (n2 == n5)
 (bcase (n4 == n5)
 (bcase ((↑n1 : Int) == 0)
 (bcase (n3 == 0)
 (k [(D.val (Go.Value.bool true))])
 (k [(D.val (Go.Value.bool false))]))
 (k [(D.val (Go.Value.bool false))]))
 (k [(D.val (Go.Value.bool false))]))
 (k [(D.val (Go.Value.bool false))]))
 (bcase (decide (0 + n * 1 ≤ List.length l))
 ((∃ n7 : Int,
 ((Says C 15 [(D.agg [(D.val (Go.Value.int Go.IntKind.i64 (a))), (D.val (Go.Value.int Go.IntKind.i64 (b))), (D.val (Go.Value.int Go.IntKind.i64 (c))), (D.val (Go.Value.int Go.IntKind.i64 (d)))]), (D.sl (n) 1 (List.take (n * 1) (List.drop 0 l)))] [D.nil, (D.val (Go.Value.int Go.IntKind.i64 (n7)))]) ∧
 (∃ n8 : Int,
 (∃ n9 : Int,
 ((Says C 16 [(D.agg [(D.val (Go.Value.int Go.IntKind.i64 (a))), (D.val (Go.Value.int Go.IntKind.i64 (b))), (D.val (Go.Value.int Go.IntKind.i64 (c))), (D.val (Go.Value.int Go.IntKind.i64 (d)))]), (D.val (Go.Value.int Go.IntKind.i64 (x)))] [(D.val (Go.Value.int Go.IntKind.i64 (n8))), (D.val (Go.Value.int Go.IntKind.i64 (n9)))]) ∧
 (bcase (n2 == n7)
 (bcase (decide (0 + n1 * 1 ≤ List.length cs1))
 (((Says C 10 [(D.sl (n1) 1 (List.take (n1 * 1) (List.drop 0 cs1))), D.nil] [(D.val (Go.Value.bool true))]) ∧
 (bcase (n4 == n9)
 (bcase (n3 == n8)
 (k [(D.val (Go.Value.bool true))])
 (k [(D.val (Go.Value.bool false))]))
 (k [(D.val (Go.Value.bool false))]))) ∨
 ((Says C 10 [(D.sl (n1) 1 (List.take (n1 * 1) (List.drop 0 cs1))), D.nil] [(D.val (Go.Value.bool false))]) ∧
 (k [(D.val (Go.Value.bool false))])))
 False)
 (k [(D.val (Go.Value.bool false))]))))))) ∨
 (∃ n7 : Nat,
 (∃ cs2 : List Go.Value,
 (∃ n8 : Int,
 ((Says C 15 [(D.agg [(D.val (Go.Value.int Go.IntKind.i64 (a))), (D.val (Go.Value.int Go.IntKind.i64 (b))), (D.val (Go.Value.int Go.IntKind.i64 (c))), (D.val (Go.Value.int Go.IntKind.i64 (d)))]), (D.sl (n) 1 (List.take (n * 1) (List.drop 0 l)))] [(D.sl (n7) 1 (cs2)), (D.val (Go.Value.int Go.IntKind.i64 (n8)))]) ∧
 (∃ n9 : Int,
 (∃ n10 : Int,
 ((Says C 16 [(D.agg [(D.val (Go.Value.int Go.IntKind.i64 (a))), (D.val (Go.Value.int Go.IntKind.i64 (b))), (D.val (Go.Value.int Go.IntKind.i64 (c))), (D.val (Go.Value.int Go.IntKind.i64 (d)))]), (D.val (Go.Value.int Go.IntKind.i64 (x)))] [(D.val (Go.Value.int Go.IntKind.i64 (n9))), (D.val (Go.Value.int Go.IntKind.i64 (n10)))]) ∧
 (bcase (n2 == n8)
 (bcase (decide (0 + n1 * 1 ≤ List.length cs1))
 (bcase (decide (0 + n7 * 1 ≤ List.length cs2))
 (((Says C 10 [(D.sl (n1) 1 (List.take (n1 * 1) (List.drop 0 cs1))), (D.sl (n7) 1 (List.take (n7 * 1) (List.drop 0 cs2)))] [(D.val (Go.Value.bool true))]) ∧
 (bcase (n4 == n10)
 (bcase (n3 == n9)
 (k [(D.val (Go.Value.bool true))])
 (k [(D.val (Go.Value.bool false))]))
 (k [(D.val (Go.Value.bool false))]))) ∨
 ((Says C 10 [(D.sl (n1) 1 (List.take (n1 * 1) (List.drop 0 cs1))), (D.sl (n7) 1 (List.take (n7 * 1) (List.drop 0 cs2)))] [(D.val (Go.Value.bool false))]) ∧
 (k [(D.val (Go.Value.bool false))])))
 False)
 False)
 (k [(D.val (Go.Value.bool false))]))))))))))
 False))))))))))))))))))
 False)))
 False))))) ∨
 ((Says C 6 [] [(D.val (Go.Value.bool false))]) ∧
 (k [(D.val (Go.Value.bool false))]))) := by kernel_rfl
def g4n (C : Ct) (L : AtLoop) (a b c d : Int) (x : Int) (k : List D → Prop) : Prop := wpFn Try.prog (hG C) L 0 4 #[vA a b c d, .slice none 0 0, vI x] (heapOf []) (dataK k)
theorem g4n_text (C : Ct) (L : AtLoop) (a : Int) (b : Int) (c : Int) (d : Int) (x : Int) (k : List D → Prop) : g4n C L a b c d x k =
 (((Says C 6 [] [(D.val (Go.Value.bool true))]) ∧
 ((((Go.Value.slice Option.none 0 0) = (Go.Value.slice Option.none 0 0)) ∧
 (((Go.Value.agg [(Go.Value.int Go.IntKind.i64 (a)), (Go.Value.int Go.IntKind.i64 (b)), (Go.Value.int Go.IntKind.i64 (c)), (Go.Value.int Go.IntKind.i64 (d))].toArray) = (Go.Value.agg [(Go.Value.int Go.IntKind.i64 (a)), (Go.Value.int Go.IntKind.i64 (b)), (Go.Value.int Go.IntKind.i64 (c)), (Go.Value.int Go.IntKind.i64 (d))].toArray)) ∧
 True)) ∧
 ((Says C 8 [D.nil] [(D.sl 0 1 [])]) ∧
 ((((Go.Value.agg [(Go.Value.int Go.IntKind.i64 (a)), (Go.Value.int Go.IntKind.i64 (b)), (Go.Value.int Go.IntKind.i64 (c)), (Go.Value.int Go.IntKind.i64 (d))].toArray) = (Go.Value.agg [(Go.Value.int Go.IntKind.i64 (a)), (Go.Value.int Go.IntKind.i64 (b)), (Go.Value.int Go.IntKind.i64 (c)), (Go.Value.int Go.IntKind.i64 (d))].toArray)) ∧
 True) ∧
 ((∃ n1 : Int,
 ((Says C 11 [(D.agg [(D.val (Go.Value.int Go.IntKind.i64 (a))), (D.val (Go.Value.int Go.IntKind.i64 (b))), (D.val (Go.Value.int Go.IntKind.i64 (c))), (D.val (Go.Value.int Go.IntKind.i64 (d)))]), (D.sl 0 1 [])] [D.nil, (D.val (Go.Value.int Go.IntKind.i64 (n1)))]) ∧
 ((((Go.Value.int Go.IntKind.i64 (n1)) = (Go.Value.int Go.IntKind.i64 (n1))) ∧
 (((Go.Value.slice Option.none 0 0) = (Go.Value.slice Option.none 0 0)) ∧
 (((Go.Value.tuple [(Go.Value.slice Option.none 0 0), (Go.Value.int Go.IntKind.i64 (n1))].toArray) = (Go.Value.tuple [(Go.Value.slice Option.none 0 0), (Go.Value.int Go.IntKind.i64 (n1))].toArray)) ∧
 True))) ∧
 ((((Go.Value.int Go.IntKind.i64 (n1)) = (Go.Value.int Go.IntKind.i64 (n1))) ∧
 True) ∧
 (True ∧
 (∃ n2 : Int,
 (∃ n3 : Int,
 ((Says C 12 [(D.agg [(D.val (Go.Value.int Go.IntKind.i64 (a))), (D.val (Go.Value.int Go.IntKind.i64 (b))), (D.val (Go.Value.int Go.IntKind.i64 (c))), (D.val (Go.Value.int Go.IntKind.i64 (d)))]), (D.val (Go.Value.int Go.IntKind.i64 (x)))] [(D.val (Go.Value.int Go.IntKind.i64 (n2))), (D.val (Go.Value.int Go.IntKind.i64 (n3)))]) ∧
 (∃ n4 : Int,
 ((Says C 13 [(D.agg [(D.val (Go.Value.int Go.IntKind.i64 (a))), (D.val (Go.Value.int Go.IntKind.i64 (b))), (D.val (Go.Value.int Go.IntKind.i64 (c))), (D.val (Go.Value.int Go.IntKind.i64 (d)))])] [(D.val (Go.Value.int Go.IntKind.i64 (n4)))]) ∧
 (∃ n5 : Int,
 ((Says C 14 [(D.agg [(D.val (Go.Value.int Go.IntKind.i64 (a))), (D.val (Go.Value.int Go.IntKind.i64 (b))), (D.val (Go.Value.int Go.IntKind.i64 (c))), (D.val (Go.Value.int Go.IntKind.i64 (d)))])] [(D.val (Go.Value.int Go.IntKind.i64 (n5)))]) ∧
 (bcase (n5 != n4)
 (k [(D.val (Go.Value.bool false))])
 (bcase (n4 != 0)
 (bcase (n1 == n4)
 (bcase (n3 == n4)
 (bcase (n2 == 0)
 (k [(D.val (Go.Value.bool true))])
 (k [(D.val (Go.Value.bool false))]))
 (k [(D.val (Go.Value.bool false))]))
 (k [(D.val (Go.Value.bool false))]))
 ((∃ n6 : Int,
 ((Says C 15 [(D.agg [(D.val (Go.Value.int Go.IntKind.i64 (a))), (D.val (Go.Value.int Go.IntKind.i64 (b))), (D.val (Go.Value.int Go.IntKind.i64 (c))), (D.val (Go.Value.int Go.IntKind.i64 (d)))]), D.nil] [D.nil, (D.val (Go.Value.int Go.IntKind.i64 (n6)))]) ∧
 (∃ n7 : Int,
 (∃ n8 : Int,
 ((Says C 16 [(D.agg [(D.val (Go.Value.int Go.IntKind.i64 (a))), (D.val (Go.Value.int Go.IntKind.i64 (b))), (D.val (Go.Value.int Go.IntKind.i64 (c))), (D.val (Go.Value.int Go.IntKind.i64 (d)))]), (D.val (Go.Value.int Go.IntKind.i64 (x)))] [(D.val (Go.Value.int Go.IntKind.i64 (n7))), (D.val (Go.Value.int Go.IntKind.i64 (n8)))]) ∧
 (bcase (n1 == n6)
 (((Says C 10 [D.nil, D.nil] [(D.val (Go.Value.bool true))]) ∧
 (bcase (n3 == n8)
 (bcase (n2 == n7)
 (k [(D.val (Go.Value.bool true))])
 (k [(D.val (Go.Value.bool false))]))
 (k [(D.val (Go.Value.bool false))]))) ∨
 ((Says C 10 [D.nil, D.nil] [(D.val (Go.Value.bool false))]) ∧
 (k [(D.val (Go.Value.bool false))])))
 (k [(D.val (Go.Value.bool false))]))))))) ∨
 (∃ n6 : Nat,
 (∃ cs1 : List Go.Value,
 (∃ n7 : Int,
 ((Says C 15 [(D.agg [(D.val (Go.Value.int Go.IntKind.i64 (a))), (D.val (Go.Value.int Go.IntKind.i64 (b))), (D.val (Go.Value.int Go.IntKind.i64 (c))), (D.val (Go.Value.int Go.IntKind.i64 (d)))]), D.nil] [(D.sl (n6) 1 (cs1)), (D.val (Go.Value.int Go.IntKind.i64 (n7)))]) ∧
 (∃ n8 : Int,
 (∃ n9 : Int,
 ((Says C 16 [(D.agg [(D.val (Go.Value.int Go.IntKind.i64 (a))), (D.val (Go.Value.int Go.IntKind.i64 (b))), (D.val (Go.Value.int Go.IntKind.i64 (c))), (D.val (Go.Value.int Go.IntKind.i64 (d)))]), (D.val (Go.Value.int Go.IntKind.i64 (x)))] [(D.val (Go.Value.int Go.IntKind.i64 (n8))), (D.val (Go.Value.int Go.IntKind.i64 (n9)))]) ∧
 (bcase (n1 == n7)
 (bcase (decide (0 + n6 * 1 ≤ List.length cs1))
 (((Says C 10 [D.nil, (D.sl (n6) 1 (List.take (n6 * 1) (List.drop 0 cs1)))] [(D.val (Go.Value.bool true))]) ∧
 (bcase (n3 == n9)
 (bcase (n2 == n8)
 (k [(D.val (Go.Value.bool true))])
 (k [(D.val (Go.Value.bool false))]))
 (k [(D.val (Go.Value.bool false))]))) ∨
 ((Says C 10 [D.nil, (D.sl (n6) 1 (List.take (n6 * 1) (List.drop 0 cs1)))] [(D.val (Go.Value.bool false))]) ∧
 (k [(D.val (Go.Value.bool false))])))
 False)
 (k [(D.val (Go.Value.bool false))])))))))))))))))))))))))) ∨
 (∃ n1 : Nat,
 (∃ cs1 : List Go.Value,
 (∃ n2 : Int,
 ((Says C 11 [(D.agg [(D.val (Go.Value.int Go.IntKind.i64 (a))), (D.val (Go.Value.int Go.IntKind.i64 (b))), (D.val (Go.Value.int Go.IntKind.i64 (c))), (D.val (Go.Value.int Go.IntKind.i64 (d)))]), (D.sl 0 1 [])] [(D.sl (n1) 1 (cs1)), (D.val (Go.Value.int Go.IntKind.i64 (n2)))]) ∧
 ((((Go.Value.int Go.IntKind.i64 (n2)) = (Go.Value.int Go.IntKind.i64 (n2))) ∧
 (((Go.Value.slice (Option.some (Go.Addr.mk 1002 0 Option.none)) (n1) (n1)) = (Go.Value.slice (Option.some (Go.Addr.mk 1002 0 Option.none)) (n1) (n1))) ∧
 (((Go.Value.tuple [(Go.Value.slice (Option.some (Go.Addr.mk 1002 0 Option.none)) (n1) (n1)), (Go.Value.int Go.IntKind.i64 (n2))].toArray) = (Go.Value.tuple [(Go.Value.slice (Option.some (Go.Addr.mk 1002 0 Option.none)) (n1) (n1)), (Go.Value.int Go.IntKind.i64 (n2))].toArray)) ∧
 True))) ∧
 ((((Go.Value.int Go.IntKind.i64 (n2)) = (Go.Value.int Go.IntKind.i64 (n2))) ∧
 True) ∧
 (True ∧
 (∃ n3 : Int,
 (∃ n4 : Int,
 ((Says C 12 [(D.agg [(D.val (Go.Value.int Go.IntKind.i64 (a))), (D.val (Go.Value.int Go.IntKind.i64 (b))), (D.val (Go.Value.int Go.IntKind.i64 (c))), (D.val (Go.Value.int Go.IntKind.i64 (d)))]), (D.val (Go.Value.int Go.IntKind.i64 (x)))] [(D.val (Go.Value.int Go.IntKind.i64 (n3))), (D.val (Go.Value.int Go.IntKind.i64 (n4)))]) ∧
 (∃ n5 : Int,
 ((Says C 13 [(D.agg [(D.val (Go.Value.int Go.IntKind.i64 (a))), (D.val (Go.Value.int Go.IntKind.i64 (b))), (D.val (Go.Value.int Go.IntKind.i64 (c))), (D.val (Go.Value.int Go.IntKind.i64 (d)))])] [(D.val (Go.Value.int Go.IntKind.i64 (n5)))]) ∧
 (∃ n6 : Int,
 ((Says C 14 [(D.agg [(D.val (Go.Value.int Go.IntKind.i64 (a))), (D.val (Go.Value.int Go.IntKind.i64 (b))), (D.val (Go.Value.int Go.IntKind.i64 (c))), (D.val (Go.Value.int Go.IntKind.i64 (d)))])] [(D.val (Go.Value.int Go.IntKind.i64 (n6)))]) ∧
 (bcase (n6 != n5)
 (k [(D.val (Go.Value.bool false))])
 (bcase (n5 != 0)
 (bcase (n2 == n5)
 (bcase (n4 == n5)
 (bcase ((↑n1 : Int) == 0)
 (bcase (n3 == 0)
 (k [(D.val (Go.Value.bool true))])
 (k [(D.val (Go.Value.bool false))]))
 (k [(D.val (Go.Value.bool false))]))
 (k [(D.val (Go.Value.bool false))]))
 (k [(D.val (Go.Value.bool false))]))
 ((∃ n7 : Int,
 ((Says C 15 [(D.agg [(D.val (Go.Value.int Go.IntKind.i64 (a))), (D.val (Go.Value.int Go.IntKind.i64 (b))), (D.val (Go.Value.int Go.IntKind.i64 (c))), (D.val (Go.Value.int Go.IntKind.i64 (d)))]), D.nil] [D.nil, (D.val (Go.Value.int Go.IntKind.i64 (n7)))]) ∧
 (∃ n8 : Int,
 (∃ n9 : Int,
 ((Says C 16 [(D.agg [(D.val (Go.Value.int Go.IntKind.i64 (a))), (D.val (Go.Value.int Go.IntKind.i64 (b))), (D.val (Go.Value.int Go.IntKind.i64 (c))), (D.val (Go.Value.int Go.IntKind.i64 (d)))]), (D.val (Go.Value.int Go.IntKind.i64 (x)))] [(D.val (Go.Value.int Go.IntKind.i64 (n8))), (D.val (Go.Value.int Go.IntKind.i64 (n9)))]) ∧
 (bcase (n2 == n7)
 (bcase (decide (0 + n1 * 1 ≤ List.length cs1))
 (((Says C 10 [(D.sl (n1) 1 (List.take (n1 * 1) (List.drop 0 cs1))), D.nil] [(D.val (Go.Value.bool true))]) ∧
 (bcase (n4 == n9)
 (bcase (n3 == n8)
 (k [(D.val (Go.Value.bool true))])
 (k [(D.val (Go.Value.bool false))]))
 (k [(D.val (Go.Value.bool false))]))) ∨
 ((Says C 10 [(D.sl (n1) 1 (List.take (n1 * 1) (List.drop 0 cs1))), D.nil] [(D.val (Go.Value.bool false))]) ∧
 (k [(D.val (Go.Value.bool false))])))
 False)
 (k [(D.val (Go.Value.bool false))]))))))) ∨
 (∃ n7 : Nat,
 (∃ cs2 : List Go.Value,
 (∃ n8 : Int,
 ((Says C 15 [(D.agg [(D.val (Go.Value.int Go.IntKind.i64 (a))), (D.val (Go.Value.int Go.IntKind.i64 (b))), (D.val (Go.Value.int Go.IntKind.i64 (c))), (D.val (Go.Value.int Go.IntKind.i64 (d)))]), D.nil] [(D.sl (n7) 1 (cs2)), (D.val (Go.Value.int Go.IntKind.i64 (n8)))]) ∧
 (∃ n9 : Int,
 (∃ n10 : Int,
 ((Says C 16 [(D.agg [(D.val (Go.Value.int Go.IntKind.i64 (a))), (D.val (Go.Value.int Go.IntKind.i64 (b))), (D.val (Go.Value.int Go.IntKind.i64 (c))), (D.val (Go.Value.int Go.IntKind.i64 (d)))]), (D.val (Go.Value.int Go.IntKind.i64 (x)))] [(D.val (Go.Value.int Go.IntKind.i64 (n9))), (D.val (Go.Value.int Go.IntKind.i64 (n10)))]) ∧
 (bcase (n2 == n8)
 (bcase (decide (0 + n1 * 1 ≤ List.length cs1))
 (bcase (decide (0 + n7 * 1 ≤ List.length cs2))
 (((Says C 10 [(D.sl (n1) 1 (List.take (n1 * 1) (List.drop 0 cs1))), (D.sl (n7) 1 (List.take (n7 * 1) (List.drop 0 cs2)))] [(D.val (Go.Value.bool true))]) ∧
 (bcase (n4 == n10)
 (bcase (n3 == n9)
 (k [(D.val (Go.Value.bool true))])
 (k [(D.val (Go.Value.bool false))]))
 (k [(D.val (Go.Value.bool false))]))) ∨
 ((Says C 10 [(D.sl (n1) 1 (List.take (n1 * 1) (List.drop 0 cs1))), (D.sl (n7) 1 (List.take (n7 * 1) (List.drop 0 cs2)))] [(D.val (Go.Value.bool false))]) ∧
 (k [(D.val (Go.Value.bool false))])))
 False)
 False)
 (k [(D.val (Go.Value.bool false))]))))))))))))))))))))))))))))))) ∨
 ((Says C 6 [] [(D.val (Go.Value.bool false))]) ∧
 (k [(D.val (Go.Value.bool false))]))) := by kernel_rfl
def g5 (C : Ct) (L : AtLoop) (a b c d : Int) (x : Int) (k : List D → Prop) : Prop := wpFn Try.prog (hG C) L 0 5 #[vA a b c d, vI x] (heapOf []) (dataK k)
theorem g5_text (C : Ct) (L : AtLoop) (a : Int) (b : Int) (c : Int) (d : Int) (x : Int) (k : List D → Prop) : g5 C L a b c d x k =
 (((Says C 6 [] [(D.val (Go.Value.bool true))]) ∧
 (∃ n1 : Int,
 ((Says C 13 [(D.agg [(D.val (Go.Value.int Go.IntKind.i64 (a))), (D.val (Go.Value.int Go.IntKind.i64 (b))), (D.val (Go.Value.int Go.IntKind.i64 (c))), (D.val (Go.Value.int Go.IntKind.i64 (d)))])] [(D.val (Go.Value.int Go.IntKind.i64 (n1)))]) ∧
 (bcase (n1 != 0)
 (k [(D.val (Go.Value.bool true))])
 (bcase (decide (a > 4))
 (k [(D.val (Go.Value.bool true))])
 (((Says C 17 [(D.val (Go.Value.int Go.IntKind.i64 (x))), (D.val (Go.Value.int Go.IntKind.i64 (-(9999 + 1) : Int))), (D.val (Go.Value.int Go.IntKind.i64 (10000 : Int)))] [(D.val (Go.Value.bool true))]) ∧
 (∃ n2 : Int,
 (∃ n3 : Int,
 ((Says C 12 [(D.agg [(D.val (Go.Value.int Go.IntKind.i64 (a))), (D.val (Go.Value.int Go.IntKind.i64 (b))), (D.val (Go.Value.int Go.IntKind.i64 (c))), (D.val (Go.Value.int Go.IntKind.i64 (d)))]), (D.val (Go.Value.int Go.IntKind.i64 (x)))] [(D.val (Go.Value.int Go.IntKind.i64 (n2))), (D.val (Go.Value.int Go.IntKind.i64 (n3)))]) ∧
 (bcase (n3 != 0)
 (bcase (n3 == 21)
 (bcase (b != 0)
 (bcase (n2 == 0)
 (k [(D.val (Go.Value.bool true))])
 (k [(D.val (Go.Value.bool false))]))
 (k [(D.val (Go.Value.bool false))]))
 (bcase (n3 == 22)
 (bcase (b != 0)
 (bcase (n2 == 0)
 (k [(D.val (Go.Value.bool true))])
 (k [(D.val (Go.Value.bool false))]))
 (k [(D.val (Go.Value.bool false))]))
 (k [(D.val (Go.Value.bool false))])))
 (((Says C 17 [(D.val (Go.Value.int Go.IntKind.i64 (n2))), (D.val (Go.Value.int Go.IntKind.i64 (0 : Int))), (D.val (Go.Value.int Go.IntKind.i64 (500 : Int)))] [(D.val (Go.Value.bool true))]) ∧
 (L 0 [(Prod.mk 1 (Go.Value.int Go.IntKind.i64 (x))), (Prod.mk 2 (Go.Value.pointer (Option.some (Go.Addr.mk 1000 0 Option.none)))), (Prod.mk 5 (Go.Value.int Go.IntKind.i64 (n2))), (Prod.mk 7 (Go.Value.int Go.IntKind.i64 (if Go.IntKind.wrap Go.IntKind.i64 (n2 + 20) < 500 then Go.IntKind.wrap Go.IntKind.i64 (n2 + 20) else 500))), (Prod.mk 8 (Go.Value.slice Option.none 0 0)), (Prod.mk 9 (Go.Value.int Go.IntKind.i64 (0 : Int)))] [(Prod.mk 1000 (AObj.cells [(Go.Value.int Go.IntKind.i64 (a)), (Go.Value.int Go.IntKind.i64 (b)), (Go.Value.int Go.IntKind.i64 (c)), (Go.Value.int Go.IntKind.i64 (d))] 32 false 1))])) ∨
 ((Says C 17 [(D.val (Go.Value.int Go.IntKind.i64 (n2))), (D.val (Go.Value.int Go.IntKind.i64 (0 : Int))), (D.val (Go.Value.int Go.IntKind.i64 (500 : Int)))] [(D.val (Go.Value.bool false))]) ∧
 (k [(D.val (Go.Value.bool false))])))))))) ∨
 ((Says C 17 [(D.val (Go.Value.int Go.IntKind.i64 (x))), (D.val (Go.Value.int Go.IntKind.i64 (-(9999 + 1) : Int))), (D.val (Go.Value.int Go.IntKind.i64 (10000 : Int)))] [(D.val (Go.Value.bool false))]) ∧
 (k [(D.val (Go.Value.bool true))])))))))) ∨
 ((Says C 6 [] [(D.val (Go.Value.bool false))]) ∧
 (k [(D.val (Go.Value.bool false))]))) := by kernel_rfl
def g3 (C : Ct) (L : AtLoop) (n cap : Nat) (l : List Value) (m cap2 : Nat) (l2 : List Value) (k : List D → Prop) : Prop := wpFn Try.prog (hG C) L 0 3 #[S500 n cap, S501 m cap2] (heapOf [Q500 l, Q501 l2]) (dataK k)
theorem g3_text (C : Ct) (L : AtLoop) (n : Nat) (cap : Nat) (l : List Go.Value) (m : Nat) (cap2 : Nat) (l2 : List Go.Value) (k : List D → Prop) : g3 C L n cap l m cap2 l2 k =
 (((Says C 6 [] [(D.val (Go.Value.bool true))]) ∧
 (bcase (decide ((↑n : Int) > 10))
 (k [(D.val (Go.Value.bool true))])
 (bcase (decide ((↑m : Int) > 10))
 (k [(D.val (Go.Value.bool true))])
 (bcase (decide (0 + n * 1 ≤ List.length l))
 ((Says C 8 [(D.sl (n) 1 (List.take (n * 1) (List.drop 0 l)))] [(D.sl (n) 1 (List.take (n * 1) (List.drop 0 l)))]) ∧
 (bcase (decide (0 + m * 1 ≤ List.length l2))
 ((Says C 8 [(D.sl (m) 1 (List.take (m * 1) (List.drop 0 l2)))] [(D.sl (m) 1 (List.take (m * 1) (List.drop 0 l2)))]) ∧
 (bcase (decide (0 + n * 1 ≤ List.length (List.take (n * 1) (List.drop 0 l))))
 (bcase (decide (0 + m * 1 ≤ List.length (List.take (m * 1) (List.drop 0 l2))))
 ((∃ n1 : Int,
 ((Says C 7 [(D.sl (n) 1 (List.take (n * 1) (List.drop 0 (List.take (n * 1) (List.drop 0 l))))), (D.sl (m) 1 (List.take (m * 1) (List.drop 0 (List.take (m * 1) (List.drop 0 l2)))))] [D.nil, (D.val (Go.Value.int Go.IntKind.i64 (n1)))]) ∧
 (bcase (decide (0 + n * 1 ≤ List.length l))
 (bcase (decide (0 + m * 1 ≤ List.length l2))
 ((∃ n2 : Int,
 ((Says C 9 [(D.sl (n) 1 (List.take (n * 1) (List.drop 0 l))), (D.sl (m) 1 (List.take (m * 1) (List.drop 0 l2)))] [D.nil, (D.val (Go.Value.int Go.IntKind.i64 (n2)))]) ∧
 (bcase (n1 == n2)
 (((Says C 10 [D.nil, D.nil] [(D.val (Go.Value.bool true))]) ∧
 (k [(D.val (Go.Value.bool true))])) ∨
 ((Says C 10 [D.nil, D.nil] [(D.val (Go.Value.bool false))]) ∧
 (k [(D.val (Go.Value.bool false))])))
 (k [(D.val (Go.Value.bool false))])))) ∨
 (∃ n2 : Nat,
 (∃ cs1 : List Go.Value,
 (∃ n3 : Int,
 ((Says C 9 [(D.sl (n) 1 (List.take (n * 1) (List.drop 0 l))), (D.sl (m) 1 (List.take (m * 1) (List.drop 0 l2)))] [(D.sl (n2) 1 (cs1)), (D.val (Go.Value.int Go.IntKind.i64 (n3)))]) ∧
 (bcase (n1 == n3)
 (bcase (decide (0 + n2 * 1 ≤ List.length cs1))
 (((Says C 10 [D.nil, (D.sl (n2) 1 (List.take (n2 * 1) (List.drop 0 cs1)))] [(D.val (Go.Value.bool true))]) ∧
 (k [(D.val (Go.Value.bool true))])) ∨
 ((Says C 10 [D.nil, (D.sl (n2) 1 (List.take (n2 * 1) (List.drop 0 cs1)))] [(D.val (Go.Value.bool false))]) ∧
 (k [(D.val (Go.Value.bool false))])))
 False)
 (k [(D.val (Go.Value.bool false))])))))))
 False)
 False))) ∨
 (∃ n1 : Nat,
 (∃ cs1 : List Go.Value,
 (∃ n2 : Int,
 ((Says C 7 [(D.sl (n) 1 (List.take (n * 1) (List.drop 0 (List.take (n * 1) (List.drop 0 l))))), (D.sl (m) 1 (List.take (m * 1) (List.drop 0 (List.take (m * 1) (List.drop 0 l2)))))] [(D.sl (n1) 1 (cs1)), (D.val (Go.Value.int Go.IntKind.i64 (n2)))]) ∧
 (bcase (decide (0 + n * 1 ≤ List.length l))
 (bcase (decide (0 + m * 1 ≤ List.length l2))
 ((∃ n3 : Int,
 ((Says C 9 [(D.sl (n) 1 (List.take (n * 1) (List.drop 0 l))), (D.sl (m) 1 (List.take (m * 1) (List.drop 0 l2)))] [D.nil, (D.val (Go.Value.int Go.IntKind.i64 (n3)))]) ∧
 (bcase (n2 == n3)
 (bcase (decide (0 + n1 * 1 ≤ List.length cs1))
 (((Says C 10 [(D.sl (n1) 1 (List.take (n1 * 1) (List.drop 0 cs1))), D.nil] [(D.val (Go.Value.bool true))]) ∧
 (k [(D.val (Go.Value.bool true))])) ∨
 ((Says C 10 [(D.sl (n1) 1 (List.take (n1 * 1) (List.drop 0 cs1))), D.nil] [(D.val (Go.Value.bool false))]) ∧
 (k [(D.val (Go.Value.bool false))])))
 False)
 (k [(D.val (Go.Value.bool false))])))) ∨
 (∃ n3 : Nat,
 (∃ cs2 : List Go.Value,
 (∃ n4 : Int,
 ((Says C 9 [(D.sl (n) 1 (List.take (n * 1) (List.drop 0 l))), (D.sl (m) 1 (List.take (m * 1) (List.drop 0 l2)))] [(D.sl (n3) 1 (cs2)), (D.val (Go.Value.int Go.IntKind.i64 (n4)))]) ∧
 (bcase (n2 == n4)
 (bcase (decide (0 + n1 * 1 ≤ List.length cs1))
 (bcase (decide (0 + n3 * 1 ≤ List.length cs2))
 (((Says C 10 [(D.sl (n1) 1 (List.take (n1 * 1) (List.drop 0 cs1))), (D.sl (n3) 1 (List.take (n3 * 1) (List.drop 0 cs2)))] [(D.val (Go.Value.bool true))]) ∧
 (k [(D.val (Go.Value.bool true))])) ∨
 ((Says C 10 [(D.sl (n1) 1 (List.take (n1 * 1) (List.drop 0 cs1))), (D.sl (n3) 1 (List.take (n3 * 1) (List.drop 0 cs2)))] [(D.val (Go.Value.bool false))]) ∧
 (k [(D.val (Go.Value.bool false))])))
 False)
 False)
 (k [(D.val (Go.Value.bool false))])))))))
 False)
 False))))))
 False)
 False))
 False))
 False)))) ∨
 ((Says C 6 [] [(D.val (Go.Value.bool false))]) ∧
 (k [(D.val (Go.Value.bool false))]))) := by kernel_rfl
def g3a (C : Ct) (L : AtLoop) (m cap2 : Nat) (l2 : List Value) (k : List D → Prop) : Prop := wpFn Try.prog (hG C) L 0 3 #[.slice none 0 0, S500 m cap2] (heapOf [Q500 l2]) (dataK k)
theorem g3a_text (C : Ct) (L : AtLoop) (m : Nat) (cap2 : Nat) (l2 : List Go.Value) (k : List D → Prop) : g3a C L m cap2 l2 k =
 (((Says C 6 [] [(D.val (Go.Value.bool true))]) ∧
 (bcase (decide ((↑m : Int) > 10))
 (k [(D.val (Go.Value.bool true))])
 ((Says C 8 [D.nil] [(D.sl 0 1 [])]) ∧
 (bcase (decide (0 + m * 1 ≤ List.length l2))
 ((Says C 8 [(D.sl (m) 1 (List.take (m * 1) (List.drop 0 l2)))] [(D.sl (m) 1 (List.take (m * 1) (List.drop 0 l2)))]) ∧
 (bcase (decide (0 + m * 1 ≤ List.length (List.take (m * 1) (List.drop 0 l2))))
 ((∃ n1 : Int,
 ((Says C 7 [(D.sl 0 1 []), (D.sl (m) 1 (List.take (m * 1) (List.drop 0 (List.take (m * 1) (List.drop 0 l2)))))] [D.nil, (D.val (Go.Value.int Go.IntKind.i64 (n1)))]) ∧
 (bcase (decide (0 + m * 1 ≤ List.length l2))
 ((∃ n2 : Int,
 ((Says C 9 [D.nil, (D.sl (m) 1 (List.take (m * 1) (List.drop 0 l2)))] [D.nil, (D.val (Go.Value.int Go.IntKind.i64 (n2)))]) ∧
 (bcase (n1 == n2)
 (((Says C 10 [D.nil, D.nil] [(D.val (Go.Value.bool true))]) ∧
 (k [(D.val (Go.Value.bool true))])) ∨
 ((Says C 10 [D.nil, D.nil] [(D.val (Go.Value.bool false))]) ∧
 (k [(D.val (Go.Value.bool false))])))
 (k [(D.val (Go.Value.bool false))])))) ∨
 (∃ n2 : Nat,
 (∃ cs1 : List Go.Value,
 (∃ n3 : Int,
 ((Says C 9 [D.nil, (D.sl (m) 1 (List.take (m * 1) (List.drop 0 l2)))] [(D.sl (n2) 1 (cs1)), (D.val (Go.Value.int Go.IntKind.i64 (n3)))]) ∧
 (bcase (n1 == n3)
 (bcase (decide (0 + n2 * 1 ≤ List.length cs1))
 (((Says C 10 [D.nil, (D.sl (n2) 1 (List.take (n2 * 1) (List.drop 0 cs1)))] [(D.val (Go.Value.bool true))]) ∧
 (k [(D.val (Go.Value.bool true))])) ∨
 ((Says C 10 [D.nil, (D.sl (n2) 1 (List.take (n2 * 1) (List.drop 0 cs1)))] [(D.val (Go.Value.bool false))]) ∧
 (k [(D.val (Go.Value.bool false))])))
 False)
 (k [(D.val (Go.Value.bool false))])))))))
 False))) ∨
 (∃ n1 : Nat,
 (∃ cs1 : List Go.Value,
 (∃ n2 : Int,
 ((Says C 7 [(D.sl 0 1 []), (D.sl (m) 1 (List.take (m * 1) (List.drop 0 (List.take (m * 1) (List.drop 0 l2)))))] [(D.sl (n1) 1 (cs1)), (D.val (Go.Value.int Go.IntKind.i64 (n2)))]) ∧
 (bcase (decide (0 + m * 1 ≤ List.length l2))
 ((∃ n3 : Int,
 ((Says C 9 [D.nil, (D.sl (m) 1 (List.take (m * 1) (List.drop 0 l2)))] [D.nil, (D.val (Go.Value.int Go.IntKind.i64 (n3)))]) ∧
 (bcase (n2 == n3)
 (bcase (decide (0 + n1 * 1 ≤ List.length cs1))
 (((Says C 10 [(D.sl (n1) 1 (List.take (n1 * 1) (List.drop 0 cs1))), D.nil] [(D.val (Go.Value.bool true))]) ∧
 (k [(D.val (Go.Value.bool true))])) ∨
 ((Says C 10 [(D.sl (n1) 1 (List.take (n1 * 1) (List.drop 0 cs1))), D.nil] [(D.val (Go.Value.bool false))]) ∧
 (k [(D.val (Go.Value.bool false))])))
 False)
 (k [(D.val (Go.Value.bool false))])))) ∨
 (∃ n3 : Nat,
 (∃ cs2 : List Go.Value,
 (∃ n4 : Int,
 ((Says C 9 [D.nil, (D.sl (m) 1 (List.take (m * 1) (List.drop 0 l2)))] [(D.sl (n3) 1 (cs2)), (D.val (Go.Value.int Go.IntKind.i64 (n4)))]) ∧
 (bcase (n2 == n4)
 (bcase (decide (0 + n1 * 1 ≤ List.length cs1))
 (bcase (decide (0 + n3 * 1 ≤ List.length cs2))
 (((Says C 10 [(D.sl (n1) 1 (List.take (n1 * 1) (List.drop 0 cs1))), (D.sl (n3) 1 (List.take (n3 * 1) (List.drop 0 cs2)))] [(D.val (Go.Value.bool true))]) ∧
 (k [(D.val (Go.Value.bool true))])) ∨
 ((Says C 10 [(D.sl (n1) 1 (List.take (n1 * 1) (List.drop 0 cs1))), (D.sl (n3) 1 (List.take (n3 * 1) (List.drop 0 cs2)))] [(D.val (Go.Value.bool false))]) ∧
 (k [(D.val (Go.Value.bool false))])))
 False)
 False)
 (k [(D.val (Go.Value.bool false))])))))))
 False))))))
 False))
 False)))) ∨
 ((Says C 6 [] [(D.val (Go.Value.bool false))]) ∧
 (k [(D.val (Go.Value.bool false))]))) := by kernel_rfl
def g3b (C : Ct) (L : AtLoop) (n cap : Nat) (l : List Value) (k : List D → Prop) : Prop := wpFn Try.prog (hG C) L 0 3 #[S500 n cap, .slice none 0 0] (heapOf [Q500 l]) (dataK k)
theorem g3b_text (C : Ct) (L : AtLoop) (n : Nat) (cap : Nat) (l : List Go.Value) (k : List D → Prop) : g3b C L n cap l k =
 (((Says C 6 [] [(D.val (Go.Value.bool true))]) ∧
 (bcase (decide ((↑n : Int) > 10))
 (k [(D.val (Go.Value.bool true))])
 (bcase (decide (0 + n * 1 ≤ List.length l))
 ((Says C 8 [(D.sl (n) 1 (List.take (n * 1) (List.drop 0 l)))] [(D.sl (n) 1 (List.take (n * 1) (List.drop 0 l)))]) ∧
 ((Says C 8 [D.nil] [(D.sl 0 1 [])]) ∧
 (bcase (decide (0 + n * 1 ≤ List.length (List.take (n * 1) (List.drop 0 l))))
 ((∃ n1 : Int,
 ((Says C 7 [(D.sl (n) 1 (List.take (n * 1) (List.drop 0 (List.take (n * 1) (List.drop 0 l))))), (D.sl 0 1 [])] [D.nil, (D.val (Go.Value.int Go.IntKind.i64 (n1)))]) ∧
 (bcase (decide (0 + n * 1 ≤ List.length l))
 ((∃ n2 : Int,
 ((Says C 9 [(D.sl (n) 1 (List.take (n * 1) (List.drop 0 l))), D.nil] [D.nil, (D.val (Go.Value.int Go.IntKind.i64 (n2)))]) ∧
 (bcase (n1 == n2)
 (((Says C 10 [D.nil, D.nil] [(D.val (Go.Value.bool true))]) ∧
 (k [(D.val (Go.Value.bool true))])) ∨
 ((Says C 10 [D.nil, D.nil] [(D.val (Go.Value.bool false))]) ∧
 (k [(D.val (Go.Value.bool false))])))
 (k [(D.val (Go.Value.bool false))])))) ∨
 (∃ n2 : Nat,
 (∃ cs1 : List Go.Value,
 (∃ n3 : Int,
 ((Says C 9 [(D.sl (n) 1 (List.take (n * 1) (List.drop 0 l))), D.nil] [(D.sl (n2) 1 (cs1)), (D.val (Go.Value.int Go.IntKind.i64 (n3)))]) ∧
 (bcase (n1 == n3)
 (bcase (decide (0 + n2 * 1 ≤ List.length cs1))
 (((Says C 10 [D.nil, (D.sl (n2) 1 (List.take (n2 * 1) (List.drop 0 cs1)))] [(D.val (Go.Value.bool true))]) ∧
 (k [(D.val (Go.Value.bool true))])) ∨
 ((Says C 10 [D.nil, (D.sl (n2) 1 (List.take (n2 * 1) (List.drop 0 cs1)))] [(D.val (Go.Value.bool false))]) ∧
 (k [(D.val (Go.Value.bool false))])))
 False)
 (k [(D.val (Go.Value.bool false))])))))))
 False))) ∨
 (∃ n1 : Nat,
 (∃ cs1 : List Go.Value,
 (∃ n2 : Int,
 ((Says C 7 [(D.sl (n) 1 (List.take (n * 1) (List.drop 0 (List.take (n * 1) (List.drop 0 l))))), (D.sl 0 1 [])] [(D.sl (n1) 1 (cs1)), (D.val (Go.Value.int Go.IntKind.i64 (n2)))]) ∧
 (bcase (decide (0 + n * 1 ≤ List.length l))
 ((∃ n3 : Int,
 ((Says C 9 [(D.sl (n) 1 (List.take (n * 1) (List.drop 0 l))), D.nil] [D.nil, (D.val (Go.Value.int Go.IntKind.i64 (n3)))]) ∧
 (bcase (n2 == n3)
 (bcase (decide (0 + n1 * 1 ≤ List.length cs1))
 (((Says C 10 [(D.sl (n1) 1 (List.take (n1 * 1) (List.drop 0 cs1))), D.nil] [(D.val (Go.Value.bool true))]) ∧
 (k [(D.val (Go.Value.bool true))])) ∨
 ((Says C 10 [(D.sl (n1) 1 (List.take (n1 * 1) (List.drop 0 cs1))), D.nil] [(D.val (Go.Value.bool false))]) ∧
 (k [(D.val (Go.Value.bool false))])))
 False)
 (k [(D.val (Go.Value.bool false))])))) ∨
 (∃ n3 : Nat,
 (∃ cs2 : List Go.Value,
 (∃ n4 : Int,
 ((Says C 9 [(D.sl (n) 1 (List.take (n * 1) (List.drop 0 l))), D.nil] [(D.sl (n3) 1 (cs2)), (D.val (Go.Value.int Go.IntKind.i64 (n4)))]) ∧
 (bcase (n2 == n4)
 (bcase (decide (0 + n1 * 1 ≤ List.length cs1))
 (bcase (decide (0 + n3 * 1 ≤ List.length cs2))
 (((Says C 10 [(D.sl (n1) 1 (List.take (n1 * 1) (List.drop 0 cs1))), (D.sl (n3) 1 (List.take (n3 * 1) (List.drop 0 cs2)))] [(D.val (Go.Value.bool true))]) ∧
 (k [(D.val (Go.Value.bool true))])) ∨
 ((Says C 10 [(D.sl (n1) 1 (List.take (n1 * 1) (List.drop 0 cs1))), (D.sl (n3) 1 (List.take (n3 * 1) (List.drop 0 cs2)))] [(D.val (Go.Value.bool false))]) ∧
 (k [(D.val (Go.Value.bool false))])))
 False)
 False)
 (k [(D.val (Go.Value.bool false))])))))))
 False))))))
 False)))
 False))) ∨
 ((Says C 6 [] [(D.val (Go.Value.bool false))]) ∧
 (k [(D.val (Go.Value.bool false))]))) := by kernel_rfl
def g3c (C : Ct) (L : AtLoop) (k : List D → Prop) : Prop := wpFn Try.prog (hG C) L 0 3 #[.slice none 0 0, .slice none 0 0] (heapOf []) (dataK k)
theorem g3c_text (C : Ct) (L : AtLoop) (k : List D → Prop) : g3c C L k =
 (((Says C 6 [] [(D.val (Go.Value.bool true))]) ∧
 ((Says C 8 [D.nil] [(D.sl 0 1 [])]) ∧
 ((Says C 8 [D.nil] [(D.sl 0 1 [])]) ∧
 ((∃ n1 : Int,
 ((Says C 7 [(D.sl 0 1 []), (D.sl 0 1 [])] [D.nil, (D.val (Go.Value.int Go.IntKind.i64 (n1)))]) ∧
 ((∃ n2 : Int,
 ((Says C 9 [D.nil, D.nil] [D.nil, (D.val (Go.Value.int Go.IntKind.i64 (n2)))]) ∧
 (bcase (n1 == n2)
 (((Says C 10 [D.nil, D.nil] [(D.val (Go.Value.bool true))]) ∧
 (k [(D.val (Go.Value.bool true))])) ∨
 ((Says C 10 [D.nil, D.nil] [(D.val (Go.Value.bool false))]) ∧
 (k [(D.val (Go.Value.bool false))])))
 (k [(D.val (Go.Value.bool false))])))) ∨
 (∃ n2 : Nat,
 (∃ cs1 : List Go.Value,
 (∃ n3 : Int,
 ((Says C 9 [D.nil, D.nil] [(D.sl (n2) 1 (cs1)), (D.val (Go.Value.int Go.IntKind.i64 (n3)))]) ∧
 (bcase (n1 == n3)
 (bcase (decide (0 + n2 * 1 ≤ List.length cs1))
 (((Says C 10 [D.nil, (D.sl (n2) 1 (List.take (n2 * 1) (List.drop 0 cs1)))] [(D.val (Go.Value.bool true))]) ∧
 (k [(D.val (Go.Value.bool true))])) ∨
 ((Says C 10 [D.nil, (D.sl (n2) 1 (List.take (n2 * 1) (List.drop 0 cs1)))] [(D.val (Go.Value.bool false))]) ∧
 (k [(D.val (Go.Value.bool false))])))
 False)
 (k [(D.val (Go.Value.bool false))]))))))))) ∨
 (∃ n1 : Nat,
 (∃ cs1 : List Go.Value,
 (∃ n2 : Int,
 ((Says C 7 [(D.sl 0 1 []), (D.sl 0 1 [])] [(D.sl (n1) 1 (cs1)), (D.val (Go.Value.int Go.IntKind.i64 (n2)))]) ∧
 ((∃ n3 : Int,
 ((Says C 9 [D.nil, D.nil] [D.nil, (D.val (Go.Value.int Go.IntKind.i64 (n3)))]) ∧
 (bcase (n2 == n3)
 (bcase (decide (0 + n1 * 1 ≤ List.length cs1))
 (((Says C 10 [(D.sl (n1) 1 (List.take (n1 * 1) (List.drop 0 cs1))), D.nil] [(D.val (Go.Value.bool true))]) ∧
 (k [(D.val (Go.Value.bool true))])) ∨
 ((Says C 10 [(D.sl (n1) 1 (List.take (n1 * 1) (List.drop 0 cs1))), D.nil] [(D.val (Go.Value.bool false))]) ∧
 (k [(D.val (Go.Value.bool false))])))
 False)
 (k [(D.val (Go.Value.bool false))])))) ∨
 (∃ n3 : Nat,
 (∃ cs2 : List Go.Value,
 (∃ n4 : Int,
 ((Says C 9 [D.nil, D.nil] [(D.sl (n3) 1 (cs2)), (D.val (Go.Value.int Go.IntKind.i64 (n4)))]) ∧
 (bcase (n2 == n4)
 (bcase (decide (0 + n1 * 1 ≤ List.length cs1))
 (bcase (decide (0 + n3 * 1 ≤ List.length cs2))
 (((Says C 10 [(D.sl (n1) 1 (List.take (n1 * 1) (List.drop 0 cs1))), (D.sl (n3) 1 (List.take (n3 * 1) (List.drop 0 cs2)))] [(D.val (Go.Value.bool true))]) ∧
 (k [(D.val (Go.Value.bool true))])) ∨
 ((Says C 10 [(D.sl (n1) 1 (List.take (n1 * 1) (List.drop 0 cs1))), (D.sl (n3) 1 (List.take (n3 * 1) (List.drop 0 cs2)))] [(D.val (Go.Value.bool false))]) ∧
 (k [(D.val (Go.Value.bool false))])))
 False)
 False)
 (k [(D.val (Go.Value.bool false))]))))))))))))))) ∨
 ((Says C 6 [] [(D.val (Go.Value.bool false))]) ∧
 (k [(D.val (Go.Value.bool false))]))) := by kernel_rfl
def sB2 (x n count : Int) (m : Nat) (t : Int) : Slots := [(1, vI x), (2, P1 1000 0), (5, vI n), (7, vI count), (10, .slice (some ⟨1001, 0, none⟩) m m), (12, vI t)]
def rB2 (C : Ct) (L : AtLoop) (a b c d x n count : Int) (m : Nat) (vs : List Value) (t : Int) (B : Bx) (X : Xx) (k : List D → Prop) : Prop := wpRound Try.prog (hG C) L 5 2 (sB2 x n count m t) [oN a b c d, (1001, .sym vs true 1)] B X (dataK k)
theorem rB2_text (C : Ct) (L : AtLoop) (a : Int) (b : Int) (c : Int) (d : Int) (x : Int) (n : Int) (count : Int) (m : Nat) (vs : List Go.Value) (t : Int) (B : Bx) (X : Xx) (k : List D → Prop) : rB2 C L a b c d x n count m vs t B X k =
 (bcase (decide (t < count))
 (bcase (decide (t > n))
 (bcase (decide (0 ≤ t))
 (bcase (decide (t < (↑m : Int)))
 (∃ n1 : Int,
 ((At (vs) (0 + Int.toNat t * 1) 1 [(Go.Value.int Go.IntKind.i64 (n1))]) ∧
 (bcase (decide (0 ≤ n))
 (bcase (decide (n < (↑m : Int)))
 (∃ n2 : Int,
 ((At (vs) (0 + Int.toNat n * 1) 1 [(Go.Value.int Go.IntKind.i64 (n2))]) ∧
 (bcase (n1 != n2)
 ((((Go.Value.bool true) = (Go.Value.bool true)) ∧
 (((Go.Value.tuple [].toArray) = (Go.Value.tuple [].toArray)) ∧
 (((Go.Value.tuple [].toArray) = (Go.Value.tuple [].toArray)) ∧
 (((Go.Value.tuple [].toArray) = (Go.Value.tuple [].toArray)) ∧
 (((Go.Value.tuple [].toArray) = (Go.Value.tuple [].toArray)) ∧
 (((Go.Value.tuple [].toArray) = (Go.Value.tuple [].toArray)) ∧
 (((Go.Value.tuple [].toArray) = (Go.Value.tuple [].toArray)) ∧
 (((Go.Value.tuple [].toArray) = (Go.Value.tuple [].toArray)) ∧
 (((Go.Value.tuple [].toArray) = (Go.Value.tuple [].toArray)) ∧
 (((Go.Value.tuple [].toArray) = (Go.Value.tuple [].toArray)) ∧
 (((Go.Value.tuple [].toArray) = (Go.Value.tuple [].toArray)) ∧
 (((Go.Value.tuple [].toArray) = (Go.Value.tuple [].toArray)) ∧
 (((Go.Value.bool true) = (Go.Value.bool true)) ∧
 (((Go.Value.bool true) = (Go.Value.bool true)) ∧
 ((bcase (n1 != n2)
 ((Go.Value.bool true) = (Go.Value.bool true))
 ((Go.Value.bool false) = (Go.Value.bool true))) ∧
 ((∃ n3 : Int,
 ((At (vs) (0 + Int.toNat n * 1) 1 [(Go.Value.int Go.IntKind.i64 (n3))]) ∧
 ((Go.Value.int Go.IntKind.i64 (n3)) = (Go.Value.int Go.IntKind.i64 (n2))))) ∧
 ((bcase (decide (0 ≤ n))
 (bcase (decide (n < (↑m : Int)))
 ((Go.Value.pointer (Option.some (Go.Addr.mk 1001 (0 + Int.toNat n * 1) Option.none))) = (Go.Value.pointer (Option.some (Go.Addr.mk 1001 (0 + Int.toNat n * 1) Option.none))))
 False)
 False) ∧
 (((Go.Value.int Go.IntKind.i64 (n)) = (Go.Value.int Go.IntKind.i64 (n))) ∧
 (((Go.Value.slice (Option.some (Go.Addr.mk 1001 0 Option.none)) (m) (m)) = (Go.Value.slice (Option.some (Go.Addr.mk 1001 0 Option.none)) (m) (m))) ∧
 ((∃ n3 : Int,
 ((At (vs) (0 + Int.toNat t * 1) 1 [(Go.Value.int Go.IntKind.i64 (n3))]) ∧
 ((Go.Value.int Go.IntKind.i64 (n3)) = (Go.Value.int Go.IntKind.i64 (n1))))) ∧
 ((bcase (decide (0 ≤ t))
 (bcase (decide (t < (↑m : Int)))
 ((Go.Value.pointer (Option.some (Go.Addr.mk 1001 (0 + Int.toNat t * 1) Option.none))) = (Go.Value.pointer (Option.some (Go.Addr.mk 1001 (0 + Int.toNat t * 1) Option.none))))
 False)
 False) ∧
 (((Go.Value.int Go.IntKind.i64 (t)) = (Go.Value.int Go.IntKind.i64 (t))) ∧
 (((Go.Value.slice (Option.some (Go.Addr.mk 1001 0 Option.none)) (m) (m)) = (Go.Value.slice (Option.some (Go.Addr.mk 1001 0 Option.none)) (m) (m))) ∧
 (((Go.Value.bool true) = (Go.Value.bool true)) ∧
 ((bcase (decide (t > n))
 ((Go.Value.bool true) = (Go.Value.bool true))
 ((Go.Value.bool false) = (Go.Value.bool true))) ∧
 (((Go.Value.int Go.IntKind.i64 (n)) = (Go.Value.int Go.IntKind.i64 (n))) ∧
 (((Go.Value.int Go.IntKind.i64 (t)) = (Go.Value.int Go.IntKind.i64 (t))) ∧
 True))))))))))))))))))))))))))) ∧
 (k [(D.val (Go.Value.bool false))]))
 (bcase (b == 0)
 (bcase (decide (0 ≤ t))
 (bcase (decide (t < (↑m : Int)))
 (∃ n3 : Int,
 ((At (vs) (0 + Int.toNat t * 1) 1 [(Go.Value.int Go.IntKind.i64 (n3))]) ∧
 (bcase (n3 != x)
 ((((Go.Value.bool true) = (Go.Value.bool true)) ∧
 (((Go.Value.bool true) = (Go.Value.bool true)) ∧
 ((bcase (n3 != x)
 ((Go.Value.bool true) = (Go.Value.bool true))
 ((Go.Value.bool false) = (Go.Value.bool true))) ∧
 (((Go.Value.int Go.IntKind.i64 (x)) = (Go.Value.int Go.IntKind.i64 (x))) ∧
 ((∃ n4 : Int,
 ((At (vs) (0 + Int.toNat t * 1) 1 [(Go.Value.int Go.IntKind.i64 (n4))]) ∧
 ((Go.Value.int Go.IntKind.i64 (n4)) = (Go.Value.int Go.IntKind.i64 (n3))))) ∧
 ((bcase (decide (0 ≤ t))
 (bcase (decide (t < (↑m : Int)))
 ((Go.Value.pointer (Option.some (Go.Addr.mk 1001 (0 + Int.toNat t * 1) Option.none))) = (Go.Value.pointer (Option.some (Go.Addr.mk 1001 (0 + Int.toNat t * 1) Option.none))))
 False)
 False) ∧
 (((Go.Value.int Go.IntKind.i64 (t)) = (Go.Value.int Go.IntKind.i64 (t))) ∧
 (((Go.Value.slice (Option.some (Go.Addr.mk 1001 0 Option.none)) (m) (m)) = (Go.Value.slice (Option.some (Go.Addr.mk 1001 0 Option.none)) (m) (m))) ∧
 (((Go.Value.bool true) = (Go.Value.bool true)) ∧
 ((bcase (b == 0)
 ((Go.Value.bool true) = (Go.Value.bool true))
 ((Go.Value.bool false) = (Go.Value.bool true))) ∧
 (((Go.Value.int Go.IntKind.i64 (b)) = (Go.Value.int Go.IntKind.i64 (b))) ∧
 (((Go.Value.pointer (Option.some (Go.Addr.mk 1000 1 Option.none))) = (Go.Value.pointer (Option.some (Go.Addr.mk 1000 1 Option.none)))) ∧
 (((Go.Value.bool false) = (Go.Value.bool false)) ∧
 (((Go.Value.bool false) = (Go.Value.bool false)) ∧
 ((bcase (n1 != n2)
 ((Go.Value.bool true) = (Go.Value.bool false))
 ((Go.Value.bool false) = (Go.Value.bool false))) ∧
 ((∃ n4 : Int,
 ((At (vs) (0 + Int.toNat n * 1) 1 [(Go.Value.int Go.IntKind.i64 (n4))]) ∧
 ((Go.Value.int Go.IntKind.i64 (n4)) = (Go.Value.int Go.IntKind.i64 (n2))))) ∧
 ((bcase (decide (0 ≤ n))
 (bcase (decide (n < (↑m : Int)))
 ((Go.Value.pointer (Option.some (Go.Addr.mk 1001 (0 + Int.toNat n * 1) Option.none))) = (Go.Value.pointer (Option.some (Go.Addr.mk 1001 (0 + Int.toNat n * 1) Option.none))))
 False)
 False) ∧
 (((Go.Value.int Go.IntKind.i64 (n)) = (Go.Value.int Go.IntKind.i64 (n))) ∧
 (((Go.Value.slice (Option.some (Go.Addr.mk 1001 0 Option.none)) (m) (m)) = (Go.Value.slice (Option.some (Go.Addr.mk 1001 0 Option.none)) (m) (m))) ∧
 ((∃ n4 : Int,
 ((At (vs) (0 + Int.toNat t * 1) 1 [(Go.Value.int Go.IntKind.i64 (n4))]) ∧
 ((Go.Value.int Go.IntKind.i64 (n4)) = (Go.Value.int Go.IntKind.i64 (n1))))) ∧
 ((bcase (decide (0 ≤ t))
 (bcase (decide (t < (↑m : Int)))
 ((Go.Value.pointer (Option.some (Go.Addr.mk 1001 (0 + Int.toNat t * 1) Option.none))) = (Go.Value.pointer (Option.some (Go.Addr.mk 1001 (0 + Int.toNat t * 1) Option.none))))
 False)
 False) ∧
 (((Go.Value.int Go.IntKind.i64 (t)) = (Go.Value.int Go.IntKind.i64 (t))) ∧
 (((Go.Value.slice (Option.some (Go.Addr.mk 1001 0 Option.none)) (m) (m)) = (Go.Value.slice (Option.some (Go.Addr.mk 1001 0 Option.none)) (m) (m))) ∧
 (((Go.Value.bool true) = (Go.Value.bool true)) ∧
 ((bcase (decide (t > n))
 ((Go.Value.bool true) = (Go.Value.bool true))
 ((Go.Value.bool false) = (Go.Value.bool true))) ∧
 (((Go.Value.int Go.IntKind.i64 (n)) = (Go.Value.int Go.IntKind.i64 (n))) ∧
 (((Go.Value.int Go.IntKind.i64 (t)) = (Go.Value.int Go.IntKind.i64 (t))) ∧
 True))))))))))))))))))))))))))) ∧
 (k [(D.val (Go.Value.bool false))]))
 ((((Go.Value.bool false) = (Go.Value.bool false)) ∧
 (((Go.Value.bool false) = (Go.Value.bool false)) ∧
 ((bcase (n3 != x)
 ((Go.Value.bool true) = (Go.Value.bool false))
 ((Go.Value.bool false) = (Go.Value.bool false))) ∧
 (((Go.Value.int Go.IntKind.i64 (x)) = (Go.Value.int Go.IntKind.i64 (x))) ∧
 ((∃ n4 : Int,
 ((At (vs) (0 + Int.toNat t * 1) 1 [(Go.Value.int Go.IntKind.i64 (n4))]) ∧
 ((Go.Value.int Go.IntKind.i64 (n4)) = (Go.Value.int Go.IntKind.i64 (n3))))) ∧
 ((bcase (decide (0 ≤ t))
 (bcase (decide (t < (↑m : Int)))
 ((Go.Value.pointer (Option.some (Go.Addr.mk 1001 (0 + Int.toNat t * 1) Option.none))) = (Go.Value.pointer (Option.some (Go.Addr.mk 1001 (0 + Int.toNat t * 1) Option.none))))
 False)
 False) ∧
 (((Go.Value.int Go.IntKind.i64 (t)) = (Go.Value.int Go.IntKind.i64 (t))) ∧
 (((Go.Value.slice (Option.some (Go.Addr.mk 1001 0 Option.none)) (m) (m)) = (Go.Value.slice (Option.some (Go.Addr.mk 1001 0 Option.none)) (m) (m))) ∧
 (((Go.Value.bool true) = (Go.Value.bool true)) ∧
 ((bcase (b == 0)
 ((Go.Value.bool true) = (Go.Value.bool true))
 ((Go.Value.bool false) = (Go.Value.bool true))) ∧
 (((Go.Value.int Go.IntKind.i64 (b)) = (Go.Value.int Go.IntKind.i64 (b))) ∧
 (((Go.Value.pointer (Option.some (Go.Addr.mk 1000 1 Option.none))) = (Go.Value.pointer (Option.some (Go.Addr.mk 1000 1 Option.none)))) ∧
 (((Go.Value.bool false) = (Go.Value.bool false)) ∧
 (((Go.Value.bool false) = (Go.Value.bool false)) ∧
 ((bcase (n1 != n2)
 ((Go.Value.bool true) = (Go.Value.bool false))
 ((Go.Value.bool false) = (Go.Value.bool false))) ∧
 ((∃ n4 : Int,
 ((At (vs) (0 + Int.toNat n * 1) 1 [(Go.Value.int Go.IntKind.i64 (n4))]) ∧
 ((Go.Value.int Go.IntKind.i64 (n4)) = (Go.Value.int Go.IntKind.i64 (n2))))) ∧
 ((bcase (decide (0 ≤ n))
 (bcase (decide (n < (↑m : Int)))
 ((Go.Value.pointer (Option.some (Go.Addr.mk 1001 (0 + Int.toNat n * 1) Option.none))) = (Go.Value.pointer (Option.some (Go.Addr.mk 1001 (0 + Int.toNat n * 1) Option.none))))
 False)
 False) ∧
 (((Go.Value.int Go.IntKind.i64 (n)) = (Go.Value.int Go.IntKind.i64 (n))) ∧
 (((Go.Value.slice (Option.some (Go.Addr.mk 1001 0 Option.none)) (m) (m)) = (Go.Value.slice (Option.some (Go.Addr.mk 1001 0 Option.none)) (m) (m))) ∧
 ((∃ n4 : Int,
 ((At (vs) (0 + Int.toNat t * 1) 1 [(Go.Value.int Go.IntKind.i64 (n4))]) ∧
 ((Go.Value.int Go.IntKind.i64 (n4)) = (Go.Value.int Go.IntKind.i64 (n1))))) ∧
 ((bcase (decide (0 ≤ t))
 (bcase (decide (t < (↑m : Int)))
 ((Go.Value.pointer (Option.some (Go.Addr.mk 1001 (0 + Int.toNat t * 1) Option.none))) = (Go.Value.pointer (Option.some (Go.Addr.mk 1001 (0 + Int.toNat t * 1) Option.none))))
 False)
 False) ∧
 (((Go.Value.int Go.IntKind.i64 (t)) = (Go.Value.int Go.IntKind.i64 (t))) ∧
 (((Go.Value.slice (Option.some (Go.Addr.mk 1001 0 Option.none)) (m) (m)) = (Go.Value.slice (Option.some (Go.Addr.mk 1001 0 Option.none)) (m) (m))) ∧
 (((Go.Value.bool true) = (Go.Value.bool true)) ∧
 ((bcase (decide (t > n))
 ((Go.Value.bool true) = (Go.Value.bool true))
 ((Go.Value.bool false) = (Go.Value.bool true))) ∧
 (((Go.Value.int Go.IntKind.i64 (n)) = (Go.Value.int Go.IntKind.i64 (n))) ∧
 (((Go.Value.int Go.IntKind.i64 (t)) = (Go.Value.int Go.IntKind.i64 (t))) ∧
 True))))))))))))))))))))))))))) ∧
 (B [(Prod.mk 1 (Go.Value.int Go.IntKind.i64 (x))), (Prod.mk 2 (Go.Value.pointer (Option.some (Go.Addr.mk 1000 0 Option.none)))), (Prod.mk 5 (Go.Value.int Go.IntKind.i64 (n))), (Prod.mk 7 (Go.Value.int Go.IntKind.i64 (count))), (Prod.mk 10 (Go.Value.slice (Option.some (Go.Addr.mk 1001 0 Option.none)) (m) (m))), (Prod.mk 12 (Go.Value.int Go.IntKind.i64 (Go.IntKind.wrap Go.IntKind.i64 (t + 1))))] [(Prod.mk 1000 (AObj.cells [(Go.Value.int Go.IntKind.i64 (a)), (Go.Value.int Go.IntKind.i64 (b)), (Go.Value.int Go.IntKind.i64 (c)), (Go.Value.int Go.IntKind.i64 (d))] 32 false 1)), (Prod.mk 1001 (AObj.sym (vs) true 1))])))))
 False)
 False)
 ((((Go.Value.bool false) = (Go.Value.bool false)) ∧
 (((Go.Value.bool false) = (Go.Value.bool false)) ∧
 (((Go.Value.tuple [].toArray) = (Go.Value.tuple [].toArray)) ∧
 (((Go.Value.tuple [].toArray) = (Go.Value.tuple [].toArray)) ∧
 (((Go.Value.tuple [].toArray) = (Go.Value.tuple [].toArray)) ∧
 (((Go.Value.tuple [].toArray) = (Go.Value.tuple [].toArray)) ∧
 (((Go.Value.tuple [].toArray) = (Go.Value.tuple [].toArray)) ∧
 (((Go.Value.tuple [].toArray) = (Go.Value.tuple [].toArray)) ∧
 (((Go.Value.bool false) = (Go.Value.bool false)) ∧
 ((bcase (b == 0)
 ((Go.Value.bool true) = (Go.Value.bool false))
 ((Go.Value.bool false) = (Go.Value.bool false))) ∧
 (((Go.Value.int Go.IntKind.i64 (b)) = (Go.Value.int Go.IntKind.i64 (b))) ∧
 (((Go.Value.pointer (Option.some (Go.Addr.mk 1000 1 Option.none))) = (Go.Value.pointer (Option.some (Go.Addr.mk 1000 1 Option.none)))) ∧
 (((Go.Value.bool false) = (Go.Value.bool false)) ∧
 (((Go.Value.bool false) = (Go.Value.bool false)) ∧
 ((bcase (n1 != n2)
 ((Go.Value.bool true) = (Go.Value.bool false))
 ((Go.Value.bool false) = (Go.Value.bool false))) ∧
 ((∃ n3 : Int,
 ((At (vs) (0 + Int.toNat n * 1) 1 [(Go.Value.int Go.IntKind.i64 (n3))]) ∧
 ((Go.Value.int Go.IntKind.i64 (n3)) = (Go.Value.int Go.IntKind.i64 (n2))))) ∧
 ((bcase (decide (0 ≤ n))
 (bcase (decide (n < (↑m : Int)))
 ((Go.Value.pointer (Option.some (Go.Addr.mk 1001 (0 + Int.toNat n * 1) Option.none))) = (Go.Value.pointer (Option.some (Go.Addr.mk 1001 (0 + Int.toNat n * 1) Option.none))))
 False)
 False) ∧
 (((Go.Value.int Go.IntKind.i64 (n)) = (Go.Value.int Go.IntKind.i64 (n))) ∧
 (((Go.Value.slice (Option.some (Go.Addr.mk 1001 0 Option.none)) (m) (m)) = (Go.Value.slice (Option.some (Go.Addr.mk 1001 0 Option.none)) (m) (m))) ∧
 ((∃ n3 : Int,
 ((At (vs) (0 + Int.toNat t * 1) 1 [(Go.Value.int Go.IntKind.i64 (n3))]) ∧
 ((Go.Value.int Go.IntKind.i64 (n3)) = (Go.Value.int Go.IntKind.i64 (n1))))) ∧
 ((bcase (decide (0 ≤ t))
 (bcase (decide (t < (↑m : Int)))
 ((Go.Value.pointer (Option.some (Go.Addr.mk 1001 (0 + Int.toNat t * 1) Option.none))) = (Go.Value.pointer (Option.some (Go.Addr.mk 1001 (0 + Int.toNat t * 1) Option.none))))
 False)
 False) ∧
 (((Go.Value.int Go.IntKind.i64 (t)) = (Go.Value.int Go.IntKind.i64 (t))) ∧
 (((Go.Value.slice (Option.some (Go.Addr.mk 1001 0 Option.none)) (m) (m)) = (Go.Value.slice (Option.some (Go.Addr.mk 1001 0 Option.none)) (m) (m))) ∧
 (((Go.Value.bool true) = (Go.Value.bool true)) ∧
 ((bcase (decide (t > n))
 ((Go.Value.bool true) = (Go.Value.bool true))
 ((Go.Value.bool false) = (Go.Value.bool true))) ∧
 (((Go.Value.int Go.IntKind.i64 (n)) = (Go.Value.int Go.IntKind.i64 (n))) ∧
 (((Go.Value.int Go.IntKind.i64 (t)) = (Go.Value.int Go.IntKind.i64 (t))) ∧
 True))))))))))))))))))))))))))) ∧
 (B [(Prod.mk 1 (Go.Value.int Go.IntKind.i64 (x))), (Prod.mk 2 (Go.Value.pointer (Option.some (Go.Addr.mk 1000 0 Option.none)))), (Prod.mk 5 (Go.Value.int Go.IntKind.i64 (n))), (Prod.mk 7 (Go.Value.int Go.IntKind.i64 (count))), (Prod.mk 10 (Go.Value.slice (Option.some (Go.Addr.mk 1001 0 Option.none)) (m) (m))), (Prod.mk 12 (Go.Value.int Go.IntKind.i64 (Go.IntKind.wrap Go.IntKind.i64 (t + 1))))] [(Prod.mk 1000 (AObj.cells [(Go.Value.int Go.IntKind.i64 (a)), (Go.Value.int Go.IntKind.i64 (b)), (Go.Value.int Go.IntKind.i64 (c)), (Go.Value.int Go.IntKind.i64 (d))] 32 false 1)), (Prod.mk 1001 (AObj.sym (vs) true 1))]))))))
 False)
 False)))
 False)
 False)
 (bcase (b == 0)
 (bcase (decide (0 ≤ t))
 (bcase (decide (t < (↑m : Int)))
 (∃ n1 : Int,
 ((At (vs) (0 + Int.toNat t * 1) 1 [(Go.Value.int Go.IntKind.i64 (n1))]) ∧
 (bcase (n1 != x)
 ((((Go.Value.bool true) = (Go.Value.bool true)) ∧
 (((Go.Value.bool true) = (Go.Value.bool true)) ∧
 ((bcase (n1 != x)
 ((Go.Value.bool true) = (Go.Value.bool true))
 ((Go.Value.bool false) = (Go.Value.bool true))) ∧
 (((Go.Value.int Go.IntKind.i64 (x)) = (Go.Value.int Go.IntKind.i64 (x))) ∧
 ((∃ n2 : Int,
 ((At (vs) (0 + Int.toNat t * 1) 1 [(Go.Value.int Go.IntKind.i64 (n2))]) ∧
 ((Go.Value.int Go.IntKind.i64 (n2)) = (Go.Value.int Go.IntKind.i64 (n1))))) ∧
 ((bcase (decide (0 ≤ t))
 (bcase (decide (t < (↑m : Int)))
 ((Go.Value.pointer (Option.some (Go.Addr.mk 1001 (0 + Int.toNat t * 1) Option.none))) = (Go.Value.pointer (Option.some (Go.Addr.mk 1001 (0 + Int.toNat t * 1) Option.none))))
 False)
 False) ∧
 (((Go.Value.int Go.IntKind.i64 (t)) = (Go.Value.int Go.IntKind.i64 (t))) ∧
 (((Go.Value.slice (Option.some (Go.Addr.mk 1001 0 Option.none)) (m) (m)) = (Go.Value.slice (Option.some (Go.Addr.mk 1001 0 Option.none)) (m) (m))) ∧
 (((Go.Value.bool true) = (Go.Value.bool true)) ∧
 ((bcase (b == 0)
 ((Go.Value.bool true) = (Go.Value.bool true))
 ((Go.Value.bool false) = (Go.Value.bool true))) ∧
 (((Go.Value.int Go.IntKind.i64 (b)) = (Go.Value.int Go.IntKind.i64 (b))) ∧
 (((Go.Value.pointer (Option.some (Go.Addr.mk 1000 1 Option.none))) = (Go.Value.pointer (Option.some (Go.Addr.mk 1000 1 Option.none)))) ∧
 (((Go.Value.bool false) = (Go.Value.bool false)) ∧
 (((Go.Value.bool false) = (Go.Value.bool false)) ∧
 (((Go.Value.tuple [].toArray) = (Go.Value.tuple [].toArray)) ∧
 (((Go.Value.tuple [].toArray) = (Go.Value.tuple [].toArray)) ∧
 (((Go.Value.tuple [].toArray) = (Go.Value.tuple [].toArray)) ∧
 (((Go.Value.tuple [].toArray) = (Go.Value.tuple [].toArray)) ∧
 (((Go.Value.tuple [].toArray) = (Go.Value.tuple [].toArray)) ∧
 (((Go.Value.tuple [].toArray) = (Go.Value.tuple [].toArray)) ∧
 (((Go.Value.tuple [].toArray) = (Go.Value.tuple [].toArray)) ∧
 (((Go.Value.tuple [].toArray) = (Go.Value.tuple [].toArray)) ∧
 (((Go.Value.tuple [].toArray) = (Go.Value.tuple [].toArray)) ∧
 (((Go.Value.bool false) = (Go.Value.bool false)) ∧
 ((bcase (decide (t > n))
 ((Go.Value.bool true) = (Go.Value.bool false))
 ((Go.Value.bool false) = (Go.Value.bool false))) ∧
 (((Go.Value.int Go.IntKind.i64 (n)) = (Go.Value.int Go.IntKind.i64 (n))) ∧
 (((Go.Value.int Go.IntKind.i64 (t)) = (Go.Value.int Go.IntKind.i64 (t))) ∧
 True))))))))))))))))))))))))))) ∧
 (k [(D.val (Go.Value.bool false))]))
 ((((Go.Value.bool false) = (Go.Value.bool false)) ∧
 (((Go.Value.bool false) = (Go.Value.bool false)) ∧
 ((bcase (n1 != x)
 ((Go.Value.bool true) = (Go.Value.bool false))
 ((Go.Value.bool false) = (Go.Value.bool false))) ∧
 (((Go.Value.int Go.IntKind.i64 (x)) = (Go.Value.int Go.IntKind.i64 (x))) ∧
 ((∃ n2 : Int,
 ((At (vs) (0 + Int.toNat t * 1) 1 [(Go.Value.int Go.IntKind.i64 (n2))]) ∧
 ((Go.Value.int Go.IntKind.i64 (n2)) = (Go.Value.int Go.IntKind.i64 (n1))))) ∧
 ((bcase (decide (0 ≤ t))
 (bcase (decide (t < (↑m : Int)))
 ((Go.Value.pointer (Option.some (Go.Addr.mk 1001 (0 + Int.toNat t * 1) Option.none))) = (Go.Value.pointer (Option.some (Go.Addr.mk 1001 (0 + Int.toNat t * 1) Option.none))))
 False)
 False) ∧
 (((Go.Value.int Go.IntKind.i64 (t)) = (Go.Value.int Go.IntKind.i64 (t))) ∧
 (((Go.Value.slice (Option.some (Go.Addr.mk 1001 0 Option.none)) (m) (m)) = (Go.Value.slice (Option.some (Go.Addr.mk 1001 0 Option.none)) (m) (m))) ∧
 (((Go.Value.bool true) = (Go.Value.bool true)) ∧
 ((bcase (b == 0)
 ((Go.Value.bool true) = (Go.Value.bool true))
 ((Go.Value.bool false) = (Go.Value.bool true))) ∧
 (((Go.Value.int Go.IntKind.i64 (b)) = (Go.Value.int Go.IntKind.i64 (b))) ∧
 (((Go.Value.pointer (Option.some (Go.Addr.mk 1000 1 Option.none))) = (Go.Value.pointer (Option.some (Go.Addr.mk 1000 1 Option.none)))) ∧
 (((Go.Value.bool false) = (Go.Value.bool false)) ∧
 (((Go.Value.bool false) = (Go.Value.bool false)) ∧
 (((Go.Value.tuple [].toArray) = (Go.Value.tuple [].toArray)) ∧
 (((Go.Value.tuple [].toArray) = (Go.Value.tuple [].toArray)) ∧
 (((Go.Value.tuple [].toArray) = (Go.Value.tuple [].toArray)) ∧
 (((Go.Value.tuple [].toArray) = (Go.Value.tuple [].toArray)) ∧
 (((Go.Value.tuple [].toArray) = (Go.Value.tuple [].toArray)) ∧
 (((Go.Value.tuple [].toArray) = (Go.Value.tuple [].toArray)) ∧
 (((Go.Value.tuple [].toArray) = (Go.Value.tuple [].toArray)) ∧
 (((Go.Value.tuple [].toArray) = (Go.Value.tuple [].toArray)) ∧
 (((Go.Value.tuple [].toArray) = (Go.Value.tuple [].toArray)) ∧
 (((Go.Value.bool false) = (Go.Value.bool false)) ∧
 ((bcase (decide (t > n))
 ((Go.Value.bool true) = (Go.Value.bool false))
 ((Go.Value.bool false) = (Go.Value.bool false))) ∧
 (((Go.Value.int Go.IntKind.i64 (n)) = (Go.Value.int Go.IntKind.i64 (n))) ∧
 (((Go.Value.int Go.IntKind.i64 (t)) = (Go.Value.int Go.IntKind.i64 (t))) ∧
 True))))))))))))))))))))))))))) ∧
 (B [(Prod.mk 1 (Go.Value.int Go.IntKind.i64 (x))), (Prod.mk 2 (Go.Value.pointer (Option.some (Go.Addr.mk 1000 0 Option.none)))), (Prod.mk 5 (Go.Value.int Go.IntKind.i64 (n))), (Prod.mk 7 (Go.Value.int Go.IntKind.i64 (count))), (Prod.mk 10 (Go.Value.slice (Option.some (Go.Addr.mk 1001 0 Option.none)) (m) (m))), (Prod.mk 12 (Go.Value.int Go.IntKind.i64 (Go.IntKind.wrap Go.IntKind.i64 (t + 1))))] [(Prod.mk 1000 (AObj.cells [(Go.Value.int Go.IntKind.i64 (a)), (Go.Value.int Go.IntKind.i64 (b)), (Go.Value.int Go.IntKind.i64 (c)), (Go.Value.int Go.IntKind.i64 (d))] 32 false 1)), (Prod.mk 1001 (AObj.sym (vs) true 1))])))))
 False)
 False)
 ((((Go.Value.bool false) = (Go.Value.bool false)) ∧
 (((Go.Value.bool false) = (Go.Value.bool false)) ∧
 (((Go.Value.tuple [].toArray) = (Go.Value.tuple [].toArray)) ∧
 (((Go.Value.tuple [].toArray) = (Go.Value.tuple [].toArray)) ∧
 (((Go.Value.tuple [].toArray) = (Go.Value.tuple [].toArray)) ∧
 (((Go.Value.tuple [].toArray) = (Go.Value.tuple [].toArray)) ∧
 (((Go.Value.tuple [].toArray) = (Go.Value.tuple [].toArray)) ∧
 (((Go.Value.tuple [].toArray) = (Go.Value.tuple [].toArray)) ∧
 (((Go.Value.bool false) = (Go.Value.bool false)) ∧
 ((bcase (b == 0)
 ((Go.Value.bool true) = (Go.Value.bool false))
 ((Go.Value.bool false) = (Go.Value.bool false))) ∧
 (((Go.Value.int Go.IntKind.i64 (b)) = (Go.Value.int Go.IntKind.i64 (b))) ∧
 (((Go.Value.pointer (Option.some (Go.Addr.mk 1000 1 Option.none))) = (Go.Value.pointer (Option.some (Go.Addr.mk 1000 1 Option.none)))) ∧
 (((Go.Value.bool false) = (Go.Value.bool false)) ∧
 (((Go.Value.bool false) = (Go.Value.bool false)) ∧
 (((Go.Value.tuple [].toArray) = (Go.Value.tuple [].toArray)) ∧
 (((Go.Value.tuple [].toArray) = (Go.Value.tuple [].toArray)) ∧
 (((Go.Value.tuple [].toArray) = (Go.Value.tuple [].toArray)) ∧
 (((Go.Value.tuple [].toArray) = (Go.Value.tuple [].toArray)) ∧
 (((Go.Value.tuple [].toArray) = (Go.Value.tuple [].toArray)) ∧
 (((Go.Value.tuple [].toArray) = (Go.Value.tuple [].toArray)) ∧
 (((Go.Value.tuple [].toArray) = (Go.Value.tuple [].toArray)) ∧
 (((Go.Value.tuple [].toArray) = (Go.Value.tuple [].toArray)) ∧
 (((Go.Value.tuple [].toArray) = (Go.Value.tuple [].toArray)) ∧
 (((Go.Value.bool false) = (Go.Value.bool false)) ∧
 ((bcase (decide (t > n))
 ((Go.Value.bool true) = (Go.Value.bool false))
 ((Go.Value.bool false) = (Go.Value.bool false))) ∧
 (((Go.Value.int Go.IntKind.i64 (n)) = (Go.Value.int Go.IntKind.i64 (n))) ∧
 (((Go.Value.int Go.IntKind.i64 (t)) = (Go.Value.int Go.IntKind.i64 (t))) ∧
 True))))))))))))))))))))))))))) ∧
 (B [(Prod.mk 1 (Go.Value.int Go.IntKind.i64 (x))), (Prod.mk 2 (Go.Value.pointer (Option.some (Go.Addr.mk 1000 0 Option.none)))), (Prod.mk 5 (Go.Value.int Go.IntKind.i64 (n))), (Prod.mk 7 (Go.Value.int Go.IntKind.i64 (count))), (Prod.mk 10 (Go.Value.slice (Option.some (Go.Addr.mk 1001 0 Option.none)) (m) (m))), (Prod.mk 12 (Go.Value.int Go.IntKind.i64 (Go.IntKind.wrap Go.IntKind.i64 (t + 1))))] [(Prod.mk 1000 (AObj.cells [(Go.Value.int Go.IntKind.i64 (a)), (Go.Value.int Go.IntKind.i64 (b)), (Go.Value.int Go.IntKind.i64 (c)), (Go.Value.int Go.IntKind.i64 (d))] 32 false 1)), (Prod.mk 1001 (AObj.sym (vs) true 1))]))))
 (X 2 [(Prod.mk 2 (Go.Value.pointer (Option.some (Go.Addr.mk 1000 0 Option.none)))), (Prod.mk 5 (Go.Value.int Go.IntKind.i64 (n))), (Prod.mk 7 (Go.Value.int Go.IntKind.i64 (count))), (Prod.mk 10 (Go.Value.slice (Option.some (Go.Addr.mk 1001 0 Option.none)) (m) (m)))] [(Prod.mk 1000 (AObj.cells [(Go.Value.int Go.IntKind.i64 (a)), (Go.Value.int Go.IntKind.i64 (b)), (Go.Value.int Go.IntKind.i64 (c)), (Go.Value.int Go.IntKind.i64 (d))] 32 false 1)), (Prod.mk 1001 (AObj.sym (vs) true 1))])) := by kernel_rfl
def sBM (n count : Int) (m : Nat) : Slots := [(2, P1 1000 0), (5, vI n), (7, vI count), (10, .slice (some ⟨1001, 0, none⟩) m m)]
def nB2 (C : Ct) (L : AtLoop) (a b c d n count : Int) (m : Nat) (vs : List Value) (k : List D → Prop) : Prop := wpNext Try.prog (hG C) L 5 2 .normal (sBM n count m) [oN a b c d, (1001, .sym vs true 1)] (dataK k)
theorem nB2_text (C : Ct) (L : AtLoop) (a : Int) (b : Int) (c : Int) (d : Int) (n : Int) (count : Int) (m : Nat) (vs : List Go.Value) (k : List D → Prop) : nB2 C L a b c d n count m vs k =
 (bcase (decide (n > 0))
 (bcase (decide (n < count))
 (bcase (decide (0 ≤ Go.IntKind.wrap Go.IntKind.i64 (n - 1)))
 (bcase (decide (Go.IntKind.wrap Go.IntKind.i64 (n - 1) < (↑m : Int)))
 (∃ n1 : Int,
 ((At (vs) (0 + Int.toNat (Go.IntKind.wrap Go.IntKind.i64 (n - 1)) * 1) 1 [(Go.Value.int Go.IntKind.i64 (n1))]) ∧
 (bcase (decide (0 ≤ n))
 (bcase (decide (n < (↑m : Int)))
 (∃ n2 : Int,
 ((At (vs) (0 + Int.toNat n * 1) 1 [(Go.Value.int Go.IntKind.i64 (n2))]) ∧
 (bcase (n1 == n2)
 ((((Go.Value.bool true) = (Go.Value.bool true)) ∧
 ((bcase (n1 == n2)
 ((Go.Value.bool true) = (Go.Value.bool true))
 ((Go.Value.bool false) = (Go.Value.bool true))) ∧
 ((∃ n3 : Int,
 ((At (vs) (0 + Int.toNat n * 1) 1 [(Go.Value.int Go.IntKind.i64 (n3))]) ∧
 ((Go.Value.int Go.IntKind.i64 (n3)) = (Go.Value.int Go.IntKind.i64 (n2))))) ∧
 ((bcase (decide (0 ≤ n))
 (bcase (decide (n < (↑m : Int)))
 ((Go.Value.pointer (Option.some (Go.Addr.mk 1001 (0 + Int.toNat n * 1) Option.none))) = (Go.Value.pointer (Option.some (Go.Addr.mk 1001 (0 + Int.toNat n * 1) Option.none))))
 False)
 False) ∧
 (((Go.Value.int Go.IntKind.i64 (n)) = (Go.Value.int Go.IntKind.i64 (n))) ∧
 (((Go.Value.slice (Option.some (Go.Addr.mk 1001 0 Option.none)) (m) (m)) = (Go.Value.slice (Option.some (Go.Addr.mk 1001 0 Option.none)) (m) (m))) ∧
 ((∃ n3 : Int,
 ((At (vs) (0 + Int.toNat (Go.IntKind.wrap Go.IntKind.i64 (n - 1)) * 1) 1 [(Go.Value.int Go.IntKind.i64 (n3))]) ∧
 ((Go.Value.int Go.IntKind.i64 (n3)) = (Go.Value.int Go.IntKind.i64 (n1))))) ∧
 ((bcase (decide (0 ≤ Go.IntKind.wrap Go.IntKind.i64 (n - 1)))
 (bcase (decide (Go.IntKind.wrap Go.IntKind.i64 (n - 1) < (↑m : Int)))
 ((Go.Value.pointer (Option.some (Go.Addr.mk 1001 (0 + Int.toNat (Go.IntKind.wrap Go.IntKind.i64 (n - 1)) * 1) Option.none))) = (Go.Value.pointer (Option.some (Go.Addr.mk 1001 (0 + Int.toNat (Go.IntKind.wrap Go.IntKind.i64 (n - 1)) * 1) Option.none))))
 False)
 False) ∧
 (((Go.Value.int Go.IntKind.i64 (Go.IntKind.wrap Go.IntKind.i64 (n - 1))) = (Go.Value.int Go.IntKind.i64 (Go.IntKind.wrap Go.IntKind.i64 (n - 1)))) ∧
 (((Go.Value.int Go.IntKind.i64 (n)) = (Go.Value.int Go.IntKind.i64 (n))) ∧
 (((Go.Value.slice (Option.some (Go.Addr.mk 1001 0 Option.none)) (m) (m)) = (Go.Value.slice (Option.some (Go.Addr.mk 1001 0 Option.none)) (m) (m))) ∧
 (((Go.Value.bool true) = (Go.Value.bool true)) ∧
 (((Go.Value.bool true) = (Go.Value.bool true)) ∧
 ((bcase (decide (n < count))
 ((Go.Value.bool true) = (Go.Value.bool true))
 ((Go.Value.bool false) = (Go.Value.bool true))) ∧
 (((Go.Value.int Go.IntKind.i64 (count)) = (Go.Value.int Go.IntKind.i64 (count))) ∧
 (((Go.Value.int Go.IntKind.i64 (n)) = (Go.Value.int Go.IntKind.i64 (n))) ∧
 (((Go.Value.bool true) = (Go.Value.bool true)) ∧
 ((bcase (decide (n > 0))
 ((Go.Value.bool true) = (Go.Value.bool true))
 ((Go.Value.bool false) = (Go.Value.bool true))) ∧
 (((Go.Value.int Go.IntKind.i64 (n)) = (Go.Value.int Go.IntKind.i64 (n))) ∧
 True))))))))))))))))))) ∧
 (k [(D.val (Go.Value.bool false))]))
 ((((Go.Value.bool false) = (Go.Value.bool false)) ∧
 ((bcase (n1 == n2)
 ((Go.Value.bool true) = (Go.Value.bool false))
 ((Go.Value.bool false) = (Go.Value.bool false))) ∧
 ((∃ n3 : Int,
 ((At (vs) (0 + Int.toNat n * 1) 1 [(Go.Value.int Go.IntKind.i64 (n3))]) ∧
 ((Go.Value.int Go.IntKind.i64 (n3)) = (Go.Value.int Go.IntKind.i64 (n2))))) ∧
 ((bcase (decide (0 ≤ n))
 (bcase (decide (n < (↑m : Int)))
 ((Go.Value.pointer (Option.some (Go.Addr.mk 1001 (0 + Int.toNat n * 1) Option.none))) = (Go.Value.pointer (Option.some (Go.Addr.mk 1001 (0 + Int.toNat n * 1) Option.none))))
 False)
 False) ∧
 (((Go.Value.int Go.IntKind.i64 (n)) = (Go.Value.int Go.IntKind.i64 (n))) ∧
 (((Go.Value.slice (Option.some (Go.Addr.mk 1001 0 Option.none)) (m) (m)) = (Go.Value.slice (Option.some (Go.Addr.mk 1001 0 Option.none)) (m) (m))) ∧
 ((∃ n3 : Int,
 ((At (vs) (0 + Int.toNat (Go.IntKind.wrap Go.IntKind.i64 (n - 1)) * 1) 1 [(Go.Value.int Go.IntKind.i64 (n3))]) ∧
 ((Go.Value.int Go.IntKind.i64 (n3)) = (Go.Value.int Go.IntKind.i64 (n1))))) ∧
 ((bcase (decide (0 ≤ Go.IntKind.wrap Go.IntKind.i64 (n - 1)))
 (bcase (decide (Go.IntKind.wrap Go.IntKind.i64 (n - 1) < (↑m : Int)))
 ((Go.Value.pointer (Option.some (Go.Addr.mk 1001 (0 + Int.toNat (Go.IntKind.wrap Go.IntKind.i64 (n - 1)) * 1) Option.none))) = (Go.Value.pointer (Option.some (Go.Addr.mk 1001 (0 + Int.toNat (Go.IntKind.wrap Go.IntKind.i64 (n - 1)) * 1) Option.none))))
 False)
 False) ∧
 (((Go.Value.int Go.IntKind.i64 (Go.IntKind.wrap Go.IntKind.i64 (n - 1))) = (Go.Value.int Go.IntKind.i64 (Go.IntKind.wrap Go.IntKind.i64 (n - 1)))) ∧
 (((Go.Value.int Go.IntKind.i64 (n)) = (Go.Value.int Go.IntKind.i64 (n))) ∧
 (((Go.Value.slice (Option.some (Go.Addr.mk 1001 0 Option.none)) (m) (m)) = (Go.Value.slice (Option.some (Go.Addr.mk 1001 0 Option.none)) (m) (m))) ∧
 (((Go.Value.bool true) = (Go.Value.bool true)) ∧
 (((Go.Value.bool true) = (Go.Value.bool true)) ∧
 ((bcase (decide (n < count))
 ((Go.Value.bool true) = (Go.Value.bool true))
 ((Go.Value.bool false) = (Go.Value.bool true))) ∧
 (((Go.Value.int Go.IntKind.i64 (count)) = (Go.Value.int Go.IntKind.i64 (count))) ∧
 (((Go.Value.int Go.IntKind.i64 (n)) = (Go.Value.int Go.IntKind.i64 (n))) ∧
 (((Go.Value.bool true) = (Go.Value.bool true)) ∧
 ((bcase (decide (n > 0))
 ((Go.Value.bool true) = (Go.Value.bool true))
 ((Go.Value.bool false) = (Go.Value.bool true))) ∧
 (((Go.Value.int Go.IntKind.i64 (n)) = (Go.Value.int Go.IntKind.i64 (n))) ∧
 True))))))))))))))))))) ∧
 (bcase (decide (n ≥ count))
 (k [(D.val (Go.Value.bool true))])
 (bcase (decide (0 ≤ n))
 (bcase (decide (n < (↑m : Int)))
 (∃ n3 : Int,
 ((At (vs) (0 + Int.toNat n * 1) 1 [(Go.Value.int Go.IntKind.i64 (n3))]) ∧
 ((((Go.Value.int Go.IntKind.i64 (n3)) = (Go.Value.int Go.IntKind.i64 (n3))) ∧
 True) ∧
 (((Says C 17 [(D.val (Go.Value.int Go.IntKind.i64 (n3))), (D.val (Go.Value.int Go.IntKind.i64 (-(99999 + 1) : Int))), (D.val (Go.Value.int Go.IntKind.i64 (100000 : Int)))] [(D.val (Go.Value.bool true))]) ∧
 ((((Go.Value.int Go.IntKind.i64 (d)) = (Go.Value.int Go.IntKind.i64 (d))) ∧
 (((Go.Value.pointer (Option.some (Go.Addr.mk 1000 3 Option.none))) = (Go.Value.pointer (Option.some (Go.Addr.mk 1000 3 Option.none)))) ∧
 (((Go.Value.int Go.IntKind.i64 (n3)) = (Go.Value.int Go.IntKind.i64 (n3))) ∧
 (((Go.Value.bool true) = (Go.Value.bool true)) ∧
 True)))) ∧
 (∃ n4 : Int,
 ((Says C 18 [(D.val (Go.Value.int Go.IntKind.i64 (n3)))] [(D.val (Go.Value.int Go.IntKind.i64 (n4)))]) ∧
 (bcase (decide (n4 ≤ d))
 ((((Go.Value.tuple [].toArray) = (Go.Value.tuple [].toArray)) ∧
 (((Go.Value.tuple [].toArray) = (Go.Value.tuple [].toArray)) ∧
 (((Go.Value.tuple [].toArray) = (Go.Value.tuple [].toArray)) ∧
 (((Go.Value.tuple [].toArray) = (Go.Value.tuple [].toArray)) ∧
 (((Go.Value.tuple [].toArray) = (Go.Value.tuple [].toArray)) ∧
 (((Go.Value.bool true) = (Go.Value.bool true)) ∧
 ((bcase (decide (n4 ≤ d))
 ((Go.Value.bool true) = (Go.Value.bool true))
 ((Go.Value.bool false) = (Go.Value.bool true))) ∧
 (((Go.Value.int Go.IntKind.i64 (d)) = (Go.Value.int Go.IntKind.i64 (d))) ∧
 (((Go.Value.pointer (Option.some (Go.Addr.mk 1000 3 Option.none))) = (Go.Value.pointer (Option.some (Go.Addr.mk 1000 3 Option.none)))) ∧
 True))))))))) ∧
 ((((Go.Value.bool true) = (Go.Value.bool true)) ∧
 (((Go.Value.bool true) = (Go.Value.bool true)) ∧
 (((Go.Value.tuple [].toArray) = (Go.Value.tuple [].toArray)) ∧
 (((Go.Value.tuple [].toArray) = (Go.Value.tuple [].toArray)) ∧
 (((Go.Value.tuple [].toArray) = (Go.Value.tuple [].toArray)) ∧
 (((Go.Value.tuple [].toArray) = (Go.Value.tuple [].toArray)) ∧
 (((Go.Value.tuple [].toArray) = (Go.Value.tuple [].toArray)) ∧
 (((Go.Value.tuple [].toArray) = (Go.Value.tuple [].toArray)) ∧
 ((bcase (decide (n4 ≤ d))
 ((Go.Value.bool true) = (Go.Value.bool true))
 ((Go.Value.bool false) = (Go.Value.bool true))) ∧
 (((Go.Value.int Go.IntKind.i64 (d)) = (Go.Value.int Go.IntKind.i64 (d))) ∧
 (((Go.Value.pointer (Option.some (Go.Addr.mk 1000 3 Option.none))) = (Go.Value.pointer (Option.some (Go.Addr.mk 1000 3 Option.none)))) ∧
 True))))))))))) ∧
 (True ∧
 (k [(D.val (Go.Value.bool true))]))))
 ((((Go.Value.int Go.IntKind.i64 (c)) = (Go.Value.int Go.IntKind.i64 (c))) ∧
 (((Go.Value.pointer (Option.some (Go.Addr.mk 1000 2 Option.none))) = (Go.Value.pointer (Option.some (Go.Addr.mk 1000 2 Option.none)))) ∧
 (((Go.Value.int Go.IntKind.i64 (n3)) = (Go.Value.int Go.IntKind.i64 (n3))) ∧
 (((Go.Value.int Go.IntKind.i64 (b)) = (Go.Value.int Go.IntKind.i64 (b))) ∧
 (((Go.Value.pointer (Option.some (Go.Addr.mk 1000 1 Option.none))) = (Go.Value.pointer (Option.some (Go.Addr.mk 1000 1 Option.none)))) ∧
 (((Go.Value.bool false) = (Go.Value.bool false)) ∧
 ((bcase (decide (n4 ≤ d))
 ((Go.Value.bool true) = (Go.Value.bool false))
 ((Go.Value.bool false) = (Go.Value.bool false))) ∧
 (((Go.Value.int Go.IntKind.i64 (d)) = (Go.Value.int Go.IntKind.i64 (d))) ∧
 (((Go.Value.pointer (Option.some (Go.Addr.mk 1000 3 Option.none))) = (Go.Value.pointer (Option.some (Go.Addr.mk 1000 3 Option.none)))) ∧
 True))))))))) ∧
 (∃ n5 : Int,
 ((Says C 18 [(D.val (Go.Value.int Go.IntKind.i64 (n3)))] [(D.val (Go.Value.int Go.IntKind.i64 (n5)))]) ∧
 (bcase (decide (Go.IntKind.wrap Go.IntKind.i64 (b * n5) < c))
 ((((Go.Value.bool true) = (Go.Value.bool true)) ∧
 (((Go.Value.bool true) = (Go.Value.bool true)) ∧
 ((bcase (decide (Go.IntKind.wrap Go.IntKind.i64 (b * n5) < c))
 ((Go.Value.bool true) = (Go.Value.bool true))
 ((Go.Value.bool false) = (Go.Value.bool true))) ∧
 (((Go.Value.int Go.IntKind.i64 (Go.IntKind.wrap Go.IntKind.i64 (b * n5))) = (Go.Value.int Go.IntKind.i64 (Go.IntKind.wrap Go.IntKind.i64 (b * n5)))) ∧
 (((Go.Value.int Go.IntKind.i64 (c)) = (Go.Value.int Go.IntKind.i64 (c))) ∧
 (((Go.Value.pointer (Option.some (Go.Addr.mk 1000 2 Option.none))) = (Go.Value.pointer (Option.some (Go.Addr.mk 1000 2 Option.none)))) ∧
 (((Go.Value.int Go.IntKind.i64 (b)) = (Go.Value.int Go.IntKind.i64 (b))) ∧
 (((Go.Value.pointer (Option.some (Go.Addr.mk 1000 1 Option.none))) = (Go.Value.pointer (Option.some (Go.Addr.mk 1000 1 Option.none)))) ∧
 ((bcase (decide (n4 ≤ d))
 ((Go.Value.bool true) = (Go.Value.bool false))
 ((Go.Value.bool false) = (Go.Value.bool false))) ∧
 (((Go.Value.int Go.IntKind.i64 (d)) = (Go.Value.int Go.IntKind.i64 (d))) ∧
 (((Go.Value.pointer (Option.some (Go.Addr.mk 1000 3 Option.none))) = (Go.Value.pointer (Option.some (Go.Addr.mk 1000 3 Option.none)))) ∧
 True))))))))))) ∧
 (True ∧
 (k [(D.val (Go.Value.bool true))])))
 ((((Go.Value.bool false) = (Go.Value.bool false)) ∧
 (((Go.Value.bool false) = (Go.Value.bool false)) ∧
 ((bcase (decide (Go.IntKind.wrap Go.IntKind.i64 (b * n5) < c))
 ((Go.Value.bool true) = (Go.Value.bool false))
 ((Go.Value.bool false) = (Go.Value.bool false))) ∧
 (((Go.Value.int Go.IntKind.i64 (Go.IntKind.wrap Go.IntKind.i64 (b * n5))) = (Go.Value.int Go.IntKind.i64 (Go.IntKind.wrap Go.IntKind.i64 (b * n5)))) ∧
 (((Go.Value.int Go.IntKind.i64 (c)) = (Go.Value.int Go.IntKind.i64 (c))) ∧
 (((Go.Value.pointer (Option.some (Go.Addr.mk 1000 2 Option.none))) = (Go.Value.pointer (Option.some (Go.Addr.mk 1000 2 Option.none)))) ∧
 (((Go.Value.int Go.IntKind.i64 (b)) = (Go.Value.int Go.IntKind.i64 (b))) ∧
 (((Go.Value.pointer (Option.some (Go.Addr.mk 1000 1 Option.none))) = (Go.Value.pointer (Option.some (Go.Addr.mk 1000 1 Option.none)))) ∧
 ((bcase (decide (n4 ≤ d))
 ((Go.Value.bool true) = (Go.Value.bool false))
 ((Go.Value.bool false) = (Go.Value.bool false))) ∧
 (((Go.Value.int Go.IntKind.i64 (d)) = (Go.Value.int Go.IntKind.i64 (d))) ∧
 (((Go.Value.pointer (Option.some (Go.Addr.mk 1000 3 Option.none))) = (Go.Value.pointer (Option.some (Go.Addr.mk 1000 3 Option.none)))) ∧
 True))))))))))) ∧
 (True ∧
 (k [(D.val (Go.Value.bool false))])))))))))))) ∨
 ((Says C 17 [(D.val (Go.Value.int Go.IntKind.i64 (n3))), (D.val (Go.Value.int Go.IntKind.i64 (-(99999 + 1) : Int))), (D.val (Go.Value.int Go.IntKind.i64 (100000 : Int)))] [(D.val (Go.Value.bool false))]) ∧
 ((((Go.Value.tuple [].toArray) = (Go.Value.tuple [].toArray)) ∧
 (((Go.Value.tuple [].toArray) = (Go.Value.tuple [].toArray)) ∧
 (((Go.Value.tuple [].toArray) = (Go.Value.tuple [].toArray)) ∧
 (((Go.Value.bool false) = (Go.Value.bool false)) ∧
 True)))) ∧
 ((((Go.Value.tuple [].toArray) = (Go.Value.tuple [].toArray)) ∧
 (((Go.Value.tuple [].toArray) = (Go.Value.tuple [].toArray)) ∧
 (((Go.Value.tuple [].toArray) = (Go.Value.tuple [].toArray)) ∧
 (((Go.Value.tuple [].toArray) = (Go.Value.tuple [].toArray)) ∧
 (((Go.Value.tuple [].toArray) = (Go.Value.tuple [].toArray)) ∧
 (((Go.Value.tuple [].toArray) = (Go.Value.tuple [].toArray)) ∧
 (((Go.Value.tuple [].toArray) = (Go.Value.tuple [].toArray)) ∧
 (((Go.Value.tuple [].toArray) = (Go.Value.tuple [].toArray)) ∧
 (((Go.Value.tuple [].toArray) = (Go.Value.tuple [].toArray)) ∧
 True))))))))) ∧
 ((((Go.Value.bool false) = (Go.Value.bool false)) ∧
 (((Go.Value.tuple [].toArray) = (Go.Value.tuple [].toArray)) ∧
 (((Go.Value.tuple [].toArray) = (Go.Value.tuple [].toArray)) ∧
 (((Go.Value.tuple [].toArray) = (Go.Value.tuple [].toArray)) ∧
 (((Go.Value.tuple [].toArray) = (Go.Value.tuple [].toArray)) ∧
 (((Go.Value.tuple [].toArray) = (Go.Value.tuple [].toArray)) ∧
 (((Go.Value.tuple [].toArray) = (Go.Value.tuple [].toArray)) ∧
 (((Go.Value.tuple [].toArray) = (Go.Value.tuple [].toArray)) ∧
 (((Go.Value.tuple [].toArray) = (Go.Value.tuple [].toArray)) ∧
 (((Go.Value.tuple [].toArray) = (Go.Value.tuple [].toArray)) ∧
 (((Go.Value.tuple [].toArray) = (Go.Value.tuple [].toArray)) ∧
 True))))))))))) ∧
 (True ∧
 (k [(D.val (Go.Value.bool false))]))))))))))
 False)
 False))))))
 False)
 False)))
 False)
 False)
 ((((Go.Value.bool false) = (Go.Value.bool false)) ∧
 (((Go.Value.tuple [].toArray) = (Go.Value.tuple [].toArray)) ∧
 (((Go.Value.tuple [].toArray) = (Go.Value.tuple [].toArray)) ∧
 (((Go.Value.tuple [].toArray) = (Go.Value.tuple [].toArray)) ∧
 (((Go.Value.tuple [].toArray) = (Go.Value.tuple [].toArray)) ∧
 (((Go.Value.tuple [].toArray) = (Go.Value.tuple [].toArray)) ∧
 (((Go.Value.tuple [].toArray) = (Go.Value.tuple [].toArray)) ∧
 (((Go.Value.tuple [].toArray) = (Go.Value.tuple [].toArray)) ∧
 (((Go.Value.tuple [].toArray) = (Go.Value.tuple [].toArray)) ∧
 (((Go.Value.tuple [].toArray) = (Go.Value.tuple [].toArray)) ∧
 (((Go.Value.tuple [].toArray) = (Go.Value.tuple [].toArray)) ∧
 (((Go.Value.bool false) = (Go.Value.bool false)) ∧
 (((Go.Value.bool false) = (Go.Value.bool false)) ∧
 ((bcase (decide (n < count))
 ((Go.Value.bool true) = (Go.Value.bool false))
 ((Go.Value.bool false) = (Go.Value.bool false))) ∧
 (((Go.Value.int Go.IntKind.i64 (count)) = (Go.Value.int Go.IntKind.i64 (count))) ∧
 (((Go.Value.int Go.IntKind.i64 (n)) = (Go.Value.int Go.IntKind.i64 (n))) ∧
 (((Go.Value.bool true) = (Go.Value.bool true)) ∧
 ((bcase (decide (n > 0))
 ((Go.Value.bool true) = (Go.Value.bool true))
 ((Go.Value.bool false) = (Go.Value.bool true))) ∧
 (((Go.Value.int Go.IntKind.i64 (n)) = (Go.Value.int Go.IntKind.i64 (n))) ∧
 True))))))))))))))))))) ∧
 (bcase (decide (n ≥ count))
 (k [(D.val (Go.Value.bool true))])
 (bcase (decide (0 ≤ n))
 (bcase (decide (n < (↑m : Int)))
 (∃ n1 : Int,
 ((At (vs) (0 + Int.toNat n * 1) 1 [(Go.Value.int Go.IntKind.i64 (n1))]) ∧
 ((((Go.Value.int Go.IntKind.i64 (n1)) = (Go.Value.int Go.IntKind.i64 (n1))) ∧
 True) ∧
 (((Says C 17 [(D.val (Go.Value.int Go.IntKind.i64 (n1))), (D.val (Go.Value.int Go.IntKind.i64 (-(99999 + 1) : Int))), (D.val (Go.Value.int Go.IntKind.i64 (100000 : Int)))] [(D.val (Go.Value.bool true))]) ∧
 ((((Go.Value.int Go.IntKind.i64 (d)) = (Go.Value.int Go.IntKind.i64 (d))) ∧
 (((Go.Value.pointer (Option.some (Go.Addr.mk 1000 3 Option.none))) = (Go.Value.pointer (Option.some (Go.Addr.mk 1000 3 Option.none)))) ∧
 (((Go.Value.int Go.IntKind.i64 (n1)) = (Go.Value.int Go.IntKind.i64 (n1))) ∧
 (((Go.Value.bool true) = (Go.Value.bool true)) ∧
 True)))) ∧
 (∃ n2 : Int,
 ((Says C 18 [(D.val (Go.Value.int Go.IntKind.i64 (n1)))] [(D.val (Go.Value.int Go.IntKind.i64 (n2)))]) ∧
 (bcase (decide (n2 ≤ d))
 ((((Go.Value.tuple [].toArray) = (Go.Value.tuple [].toArray)) ∧
 (((Go.Value.tuple [].toArray) = (Go.Value.tuple [].toArray)) ∧
 (((Go.Value.tuple [].toArray) = (Go.Value.tuple [].toArray)) ∧
 (((Go.Value.tuple [].toArray) = (Go.Value.tuple [].toArray)) ∧
 (((Go.Value.tuple [].toArray) = (Go.Value.tuple [].toArray)) ∧
 (((Go.Value.bool true) = (Go.Value.bool true)) ∧
 ((bcase (decide (n2 ≤ d))
 ((Go.Value.bool true) = (Go.Value.bool true))
 ((Go.Value.bool false) = (Go.Value.bool true))) ∧
 (((Go.Value.int Go.IntKind.i64 (d)) = (Go.Value.int Go.IntKind.i64 (d))) ∧
 (((Go.Value.pointer (Option.some (Go.Addr.mk 1000 3 Option.none))) = (Go.Value.pointer (Option.some (Go.Addr.mk 1000 3 Option.none)))) ∧
 True))))))))) ∧
 ((((Go.Value.bool true) = (Go.Value.bool true)) ∧
 (((Go.Value.bool true) = (Go.Value.bool true)) ∧
 (((Go.Value.tuple [].toArray) = (Go.Value.tuple [].toArray)) ∧
 (((Go.Value.tuple [].toArray) = (Go.Value.tuple [].toArray)) ∧
 (((Go.Value.tuple [].toArray) = (Go.Value.tuple [].toArray)) ∧
 (((Go.Value.tuple [].toArray) = (Go.Value.tuple [].toArray)) ∧
 (((Go.Value.tuple [].toArray) = (Go.Value.tuple [].toArray)) ∧
 (((Go.Value.tuple [].toArray) = (Go.Value.tuple [].toArray)) ∧
 ((bcase (decide (n2 ≤ d))
 ((Go.Value.bool true) = (Go.Value.bool true))
 ((Go.Value.bool false) = (Go.Value.bool true))) ∧
 (((Go.Value.int Go.IntKind.i64 (d)) = (Go.Value.int Go.IntKind.i64 (d))) ∧
 (((Go.Value.pointer (Option.some (Go.Addr.mk 1000 3 Option.none))) = (Go.Value.pointer (Option.some (Go.Addr.mk 1000 3 Option.none)))) ∧
 True))))))))))) ∧
 (True ∧
 (k [(D.val (Go.Value.bool true))]))))
 ((((Go.Value.int Go.IntKind.i64 (c)) = (Go.Value.int Go.IntKind.i64 (c))) ∧
 (((Go.Value.pointer (Option.some (Go.Addr.mk 1000 2 Option.none))) = (Go.Value.pointer (Option.some (Go.Addr.mk 1000 2 Option.none)))) ∧
 (((Go.Value.int Go.IntKind.i64 (n1)) = (Go.Value.int Go.IntKind.i64 (n1))) ∧
 (((Go.Value.int Go.IntKind.i64 (b)) = (Go.Value.int Go.IntKind.i64 (b))) ∧
 (((Go.Value.pointer (Option.some (Go.Addr.mk 1000 1 Option.none))) = (Go.Value.pointer (Option.some (Go.Addr.mk 1000 1 Option.none)))) ∧
 (((Go.Value.bool false) = (Go.Value.bool false)) ∧
 ((bcase (decide (n2 ≤ d))
 ((Go.Value.bool true) = (Go.Value.bool false))
 ((Go.Value.bool false) = (Go.Value.bool false))) ∧
 (((Go.Value.int Go.IntKind.i64 (d)) = (Go.Value.int Go.IntKind.i64 (d))) ∧
 (((Go.Value.pointer (Option.some (Go.Addr.mk 1000 3 Option.none))) = (Go.Value.pointer (Option.some (Go.Addr.mk 1000 3 Option.none)))) ∧
 True))))))))) ∧
 (∃ n3 : Int,
 ((Says C 18 [(D.val (Go.Value.int Go.IntKind.i64 (n1)))] [(D.val (Go.Value.int Go.IntKind.i64 (n3)))]) ∧
 (bcase (decide (Go.IntKind.wrap Go.IntKind.i64 (b * n3) < c))
 ((((Go.Value.bool true) = (Go.Value.bool true)) ∧
 (((Go.Value.bool true) = (Go.Value.bool true)) ∧
 ((bcase (decide (Go.IntKind.wrap Go.IntKind.i64 (b * n3) < c))
 ((Go.Value.bool true) = (Go.Value.bool true))
 ((Go.Value.bool false) = (Go.Value.bool true))) ∧
 (((Go.Value.int Go.IntKind.i64 (Go.IntKind.wrap Go.IntKind.i64 (b * n3))) = (Go.Value.int Go.IntKind.i64 (Go.IntKind.wrap Go.IntKind.i64 (b * n3)))) ∧
 (((Go.Value.int Go.IntKind.i64 (c)) = (Go.Value.int Go.IntKind.i64 (c))) ∧
 (((Go.Value.pointer (Option.some (Go.Addr.mk 1000 2 Option.none))) = (Go.Value.pointer (Option.some (Go.Addr.mk 1000 2 Option.none)))) ∧
 (((Go.Value.int Go.IntKind.i64 (b)) = (Go.Value.int Go.IntKind.i64 (b))) ∧
 (((Go.Value.pointer (Option.some (Go.Addr.mk 1000 1 Option.none))) = (Go.Value.pointer (Option.some (Go.Addr.mk 1000 1 Option.none)))) ∧
 ((bcase (decide (n2 ≤ d))
 ((Go.Value.bool true) = (Go.Value.bool false))
 ((Go.Value.bool false) = (Go.Value.bool false))) ∧
 (((Go.Value.int Go.IntKind.i64 (d)) = (Go.Value.int Go.IntKind.i64 (d))) ∧
 (((Go.Value.pointer (Option.some (Go.Addr.mk 1000 3 Option.none))) = (Go.Value.pointer (Option.some (Go.Addr.mk 1000 3 Option.none)))) ∧
 True))))))))))) ∧
 (True ∧
 (k [(D.val (Go.Value.bool true))])))
 ((((Go.Value.bool false) = (Go.Value.bool false)) ∧
 (((Go.Value.bool false) = (Go.Value.bool false)) ∧
 ((bcase (decide (Go.IntKind.wrap Go.IntKind.i64 (b * n3) < c))
 ((Go.Value.bool true) = (Go.Value.bool false))
 ((Go.Value.bool false) = (Go.Value.bool false))) ∧
 (((Go.Value.int Go.IntKind.i64 (Go.IntKind.wrap Go.IntKind.i64 (b * n3))) = (Go.Value.int Go.IntKind.i64 (Go.IntKind.wrap Go.IntKind.i64 (b * n3)))) ∧
 (((Go.Value.int Go.IntKind.i64 (c)) = (Go.Value.int Go.IntKind.i64 (c))) ∧
 (((Go.Value.pointer (Option.some (Go.Addr.mk 1000 2 Option.none))) = (Go.Value.pointer (Option.some (Go.Addr.mk 1000 2 Option.none)))) ∧
 (((Go.Value.int Go.IntKind.i64 (b)) = (Go.Value.int Go.IntKind.i64 (b))) ∧
 (((Go.Value.pointer (Option.some (Go.Addr.mk 1000 1 Option.none))) = (Go.Value.pointer (Option.some (Go.Addr.mk 1000 1 Option.none)))) ∧
 ((bcase (decide (n2 ≤ d))
 ((Go.Value.bool true) = (Go.Value.bool false))
 ((Go.Value.bool false) = (Go.Value.bool false))) ∧
 (((Go.Value.int Go.IntKind.i64 (d)) = (Go.Value.int Go.IntKind.i64 (d))) ∧
 (((Go.Value.pointer (Option.some (Go.Addr.mk 1000 3 Option.none))) = (Go.Value.pointer (Option.some (Go.Addr.mk 1000 3 Option.none)))) ∧
 True))))))))))) ∧
 (True ∧
 (k [(D.val (Go.Value.bool false))])))))))))))) ∨
 ((Says C 17 [(D.val (Go.Value.int Go.IntKind.i64 (n1))), (D.val (Go.Value.int Go.IntKind.i64 (-(99999 + 1) : Int))), (D.val (Go.Value.int Go.IntKind.i64 (100000 : Int)))] [(D.val (Go.Value.bool false))]) ∧
 ((((Go.Value.tuple [].toArray) = (Go.Value.tuple [].toArray)) ∧
 (((Go.Value.tuple [].toArray) = (Go.Value.tuple [].toArray)) ∧
 (((Go.Value.tuple [].toArray) = (Go.Value.tuple [].toArray)) ∧
 (((Go.Value.bool false) = (Go.Value.bool false)) ∧
 True)))) ∧
 ((((Go.Value.tuple [].toArray) = (Go.Value.tuple [].toArray)) ∧
 (((Go.Value.tuple [].toArray) = (Go.Value.tuple [].toArray)) ∧
 (((Go.Value.tuple [].toArray) = (Go.Value.tuple [].toArray)) ∧
 (((Go.Value.tuple [].toArray) = (Go.Value.tuple [].toArray)) ∧
 (((Go.Value.tuple [].toArray) = (Go.Value.tuple [].toArray)) ∧
 (((Go.Value.tuple [].toArray) = (Go.Value.tuple [].toArray)) ∧
 (((Go.Value.tuple [].toArray) = (Go.Value.tuple [].toArray)) ∧
 (((Go.Value.tuple [].toArray) = (Go.Value.tuple [].toArray)) ∧
 (((Go.Value.tuple [].toArray) = (Go.Value.tuple [].toArray)) ∧
 True))))))))) ∧
 ((((Go.Value.bool false) = (Go.Value.bool false)) ∧
 (((Go.Value.tuple [].toArray) = (Go.Value.tuple [].toArray)) ∧
 (((Go.Value.tuple [].toArray) = (Go.Value.tuple [].toArray)) ∧
 (((Go.Value.tuple [].toArray) = (Go.Value.tuple [].toArray)) ∧
 (((Go.Value.tuple [].toArray) = (Go.Value.tuple [].toArray)) ∧
 (((Go.Value.tuple [].toArray) = (Go.Value.tuple [].toArray)) ∧
 (((Go.Value.tuple [].toArray) = (Go.Value.tuple [].toArray)) ∧
 (((Go.Value.tuple [].toArray) = (Go.Value.tuple [].toArray)) ∧
 (((Go.Value.tuple [].toArray) = (Go.Value.tuple [].toArray)) ∧
 (((Go.Value.tuple [].toArray) = (Go.Value.tuple [].toArray)) ∧
 (((Go.Value.tuple [].toArray) = (Go.Value.tuple [].toArray)) ∧
 True))))))))))) ∧
 (True ∧
 (k [(D.val (Go.Value.bool false))]))))))))))
 False)
 False))))
 ((((Go.Value.bool false) = (Go.Value.bool false)) ∧
 (((Go.Value.tuple [].toArray) = (Go.Value.tuple [].toArray)) ∧
 (((Go.Value.tuple [].toArray) = (Go.Value.tuple [].toArray)) ∧
 (((Go.Value.tuple [].toArray) = (Go.Value.tuple [].toArray)) ∧
 (((Go.Value.tuple [].toArray) = (Go.Value.tuple [].toArray)) ∧
 (((Go.Value.tuple [].toArray) = (Go.Value.tuple [].toArray)) ∧
 (((Go.Value.tuple [].toArray) = (Go.Value.tuple [].toArray)) ∧
 (((Go.Value.tuple [].toArray) = (Go.Value.tuple [].toArray)) ∧
 (((Go.Value.tuple [].toArray) = (Go.Value.tuple [].toArray)) ∧
 (((Go.Value.tuple [].toArray) = (Go.Value.tuple [].toArray)) ∧
 (((Go.Value.tuple [].toArray) = (Go.Value.tuple [].toArray)) ∧
 (((Go.Value.bool false) = (Go.Value.bool false)) ∧
 (((Go.Value.bool false) = (Go.Value.bool false)) ∧
 (((Go.Value.tuple [].toArray) = (Go.Value.tuple [].toArray)) ∧
 (((Go.Value.tuple [].toArray) = (Go.Value.tuple [].toArray)) ∧
 (((Go.Value.tuple [].toArray) = (Go.Value.tuple [].toArray)) ∧
 (((Go.Value.bool false) = (Go.Value.bool false)) ∧
 ((bcase (decide (n > 0))
 ((Go.Value.bool true) = (Go.Value.bool false))
 ((Go.Value.bool false) = (Go.Value.bool false))) ∧
 (((Go.Value.int Go.IntKind.i64 (n)) = (Go.Value.int Go.IntKind.i64 (n))) ∧
 True))))))))))))))))))) ∧
 (bcase (decide (n ≥ count))
 (k [(D.val (Go.Value.bool true))])
 (bcase (decide (0 ≤ n))
 (bcase (decide (n < (↑m : Int)))
 (∃ n1 : Int,
 ((At (vs) (0 + Int.toNat n * 1) 1 [(Go.Value.int Go.IntKind.i64 (n1))]) ∧
 ((((Go.Value.int Go.IntKind.i64 (n1)) = (Go.Value.int Go.IntKind.i64 (n1))) ∧
 True) ∧
 (((Says C 17 [(D.val (Go.Value.int Go.IntKind.i64 (n1))), (D.val (Go.Value.int Go.IntKind.i64 (-(99999 + 1) : Int))), (D.val (Go.Value.int Go.IntKind.i64 (100000 : Int)))] [(D.val (Go.Value.bool true))]) ∧
 ((((Go.Value.int Go.IntKind.i64 (d)) = (Go.Value.int Go.IntKind.i64 (d))) ∧
 (((Go.Value.pointer (Option.some (Go.Addr.mk 1000 3 Option.none))) = (Go.Value.pointer (Option.some (Go.Addr.mk 1000 3 Option.none)))) ∧
 (((Go.Value.int Go.IntKind.i64 (n1)) = (Go.Value.int Go.IntKind.i64 (n1))) ∧
 (((Go.Value.bool true) = (Go.Value.bool true)) ∧
 True)))) ∧
 (∃ n2 : Int,
 ((Says C 18 [(D.val (Go.Value.int Go.IntKind.i64 (n1)))] [(D.val (Go.Value.int Go.IntKind.i64 (n2)))]) ∧
 (bcase (decide (n2 ≤ d))
 ((((Go.Value.tuple [].toArray) = (Go.Value.tuple [].toArray)) ∧
 (((Go.Value.tuple [].toArray) = (Go.Value.tuple [].toArray)) ∧
 (((Go.Value.tuple [].toArray) = (Go.Value.tuple [].toArray)) ∧
 (((Go.Value.tuple [].toArray) = (Go.Value.tuple [].toArray)) ∧
 (((Go.Value.tuple [].toArray) = (Go.Value.tuple [].toArray)) ∧
 (((Go.Value.bool true) = (Go.Value.bool true)) ∧
 ((bcase (decide (n2 ≤ d))
 ((Go.Value.bool true) = (Go.Value.bool true))
 ((Go.Value.bool false) = (Go.Value.bool true))) ∧
 (((Go.Value.int Go.IntKind.i64 (d)) = (Go.Value.int Go.IntKind.i64 (d))) ∧
 (((Go.Value.pointer (Option.some (Go.Addr.mk 1000 3 Option.none))) = (Go.Value.pointer (Option.some (Go.Addr.mk 1000 3 Option.none)))) ∧
 True))))))))) ∧
 ((((Go.Value.bool true) = (Go.Value.bool true)) ∧
 (((Go.Value.bool true) = (Go.Value.bool true)) ∧
 (((Go.Value.tuple [].toArray) = (Go.Value.tuple [].toArray)) ∧
 (((Go.Value.tuple [].toArray) = (Go.Value.tuple [].toArray)) ∧
 (((Go.Value.tuple [].toArray) = (Go.Value.tuple [].toArray)) ∧
 (((Go.Value.tuple [].toArray) = (Go.Value.tuple [].toArray)) ∧
 (((Go.Value.tuple [].toArray) = (Go.Value.tuple [].toArray)) ∧
 (((Go.Value.tuple [].toArray) = (Go.Value.tuple [].toArray)) ∧
 ((bcase (decide (n2 ≤ d))
 ((Go.Value.bool true) = (Go.Value.bool true))
 ((Go.Value.bool false) = (Go.Value.bool true))) ∧
 (((Go.Value.int Go.IntKind.i64 (d)) = (Go.Value.int Go.IntKind.i64 (d))) ∧
 (((Go.Value.pointer (Option.some (Go.Addr.mk 1000 3 Option.none))) = (Go.Value.pointer (Option.some (Go.Addr.mk 1000 3 Option.none)))) ∧
 True))))))))))) ∧
 (True ∧
 (k [(D.val (Go.Value.bool true))]))))
 ((((Go.Value.int Go.IntKind.i64 (c)) = (Go.Value.int Go.IntKind.i64 (c))) ∧
 (((Go.Value.pointer (Option.some (Go.Addr.mk 1000 2 Option.none))) = (Go.Value.pointer (Option.some (Go.Addr.mk 1000 2 Option.none)))) ∧
 (((Go.Value.int Go.IntKind.i64 (n1)) = (Go.Value.int Go.IntKind.i64 (n1))) ∧
 (((Go.Value.int Go.IntKind.i64 (b)) = (Go.Value.int Go.IntKind.i64 (b))) ∧
 (((Go.Value.pointer (Option.some (Go.Addr.mk 1000 1 Option.none))) = (Go.Value.pointer (Option.some (Go.Addr.mk 1000 1 Option.none)))) ∧
 (((Go.Value.bool false) = (Go.Value.bool false)) ∧
 ((bcase (decide (n2 ≤ d))
 ((Go.Value.bool true) = (Go.Value.bool false))
 ((Go.Value.bool false) = (Go.Value.bool false))) ∧
 (((Go.Value.int Go.IntKind.i64 (d)) = (Go.Value.int Go.IntKind.i64 (d))) ∧
 (((Go.Value.pointer (Option.some (Go.Addr.mk 1000 3 Option.none))) = (Go.Value.pointer (Option.some (Go.Addr.mk 1000 3 Option.none)))) ∧
 True))))))))) ∧
 (∃ n3 : Int,
 ((Says C 18 [(D.val (Go.Value.int Go.IntKind.i64 (n1)))] [(D.val (Go.Value.int Go.IntKind.i64 (n3)))]) ∧
 (bcase (decide (Go.IntKind.wrap Go.IntKind.i64 (b * n3) < c))
 ((((Go.Value.bool true) = (Go.Value.bool true)) ∧
 (((Go.Value.bool true) = (Go.Value.bool true)) ∧
 ((bcase (decide (Go.IntKind.wrap Go.IntKind.i64 (b * n3) < c))
 ((Go.Value.bool true) = (Go.Value.bool true))
 ((Go.Value.bool false) = (Go.Value.bool true))) ∧
 (((Go.Value.int Go.IntKind.i64 (Go.IntKind.wrap Go.IntKind.i64 (b * n3))) = (Go.Value.int Go.IntKind.i64 (Go.IntKind.wrap Go.IntKind.i64 (b * n3)))) ∧
 (((Go.Value.int Go.IntKind.i64 (c)) = (Go.Value.int Go.IntKind.i64 (c))) ∧
 (((Go.Value.pointer (Option.some (Go.Addr.mk 1000 2 Option.none))) = (Go.Value.pointer (Option.some (Go.Addr.mk 1000 2 Option.none)))) ∧
 (((Go.Value.int Go.IntKind.i64 (b)) = (Go.Value.int Go.IntKind.i64 (b))) ∧
 (((Go.Value.pointer (Option.some (Go.Addr.mk 1000 1 Option.none))) = (Go.Value.pointer (Option.some (Go.Addr.mk 1000 1 Option.none)))) ∧
 ((bcase (decide (n2 ≤ d))
 ((Go.Value.bool true) = (Go.Value.bool false))
 ((Go.Value.bool false) = (Go.Value.bool false))) ∧
 (((Go.Value.int Go.IntKind.i64 (d)) = (Go.Value.int Go.IntKind.i64 (d))) ∧
 (((Go.Value.pointer (Option.some (Go.Addr.mk 1000 3 Option.none))) = (Go.Value.pointer (Option.some (Go.Addr.mk 1000 3 Option.none)))) ∧
 True))))))))))) ∧
 (True ∧
 (k [(D.val (Go.Value.bool true))])))
 ((((Go.Value.bool false) = (Go.Value.bool false)) ∧
 (((Go.Value.bool false) = (Go.Value.bool false)) ∧
 ((bcase (decide (Go.IntKind.wrap Go.IntKind.i64 (b * n3) < c))
 ((Go.Value.bool true) = (Go.Value.bool false))
 ((Go.Value.bool false) = (Go.Value.bool false))) ∧
 (((Go.Value.int Go.IntKind.i64 (Go.IntKind.wrap Go.IntKind.i64 (b * n3))) = (Go.Value.int Go.IntKind.i64 (Go.IntKind.wrap Go.IntKind.i64 (b * n3)))) ∧
 (((Go.Value.int Go.IntKind.i64 (c)) = (Go.Value.int Go.IntKind.i64 (c))) ∧
 (((Go.Value.pointer (Option.some (Go.Addr.mk 1000 2 Option.none))) = (Go.Value.pointer (Option.some (Go.Addr.mk 1000 2 Option.none)))) ∧
 (((Go.Value.int Go.IntKind.i64 (b)) = (Go.Value.int Go.IntKind.i64 (b))) ∧
 (((Go.Value.pointer (Option.some (Go.Addr.mk 1000 1 Option.none))) = (Go.Value.pointer (Option.some (Go.Addr.mk 1000 1 Option.none)))) ∧
 ((bcase (decide (n2 ≤ d))
 ((Go.Value.bool true) = (Go.Value.bool false))
 ((Go.Value.bool false) = (Go.Value.bool false))) ∧
 (((Go.Value.int Go.IntKind.i64 (d)) = (Go.Value.int Go.IntKind.i64 (d))) ∧
 (((Go.Value.pointer (Option.some (Go.Addr.mk 1000 3 Option.none))) = (Go.Value.pointer (Option.some (Go.Addr.mk 1000 3 Option.none)))) ∧
 True))))))))))) ∧
 (True ∧
 (k [(D.val (Go.Value.bool false))])))))))))))) ∨
 ((Says C 17 [(D.val (Go.Value.int Go.IntKind.i64 (n1))), (D.val (Go.Value.int Go.IntKind.i64 (-(99999 + 1) : Int))), (D.val (Go.Value.int Go.IntKind.i64 (100000 : Int)))] [(D.val (Go.Value.bool false))]) ∧
 ((((Go.Value.tuple [].toArray) = (Go.Value.tuple [].toArray)) ∧
 (((Go.Value.tuple [].toArray) = (Go.Value.tuple [].toArray)) ∧
 (((Go.Value.tuple [].toArray) = (Go.Value.tuple [].toArray)) ∧
 (((Go.Value.bool false) = (Go.Value.bool false)) ∧
 True)))) ∧
 ((((Go.Value.tuple [].toArray) = (Go.Value.tuple [].toArray)) ∧
 (((Go.Value.tuple [].toArray) = (Go.Value.tuple [].toArray)) ∧
 (((Go.Value.tuple [].toArray) = (Go.Value.tuple [].toArray)) ∧
 (((Go.Value.tuple [].toArray) = (Go.Value.tuple [].toArray)) ∧
 (((Go.Value.tuple [].toArray) = (Go.Value.tuple [].toArray)) ∧
 (((Go.Value.tuple [].toArray) = (Go.Value.tuple [].toArray)) ∧
 (((Go.Value.tuple [].toArray) = (Go.Value.tuple [].toArray)) ∧
 (((Go.Value.tuple [].toArray) = (Go.Value.tuple [].toArray)) ∧
 (((Go.Value.tuple [].toArray) = (Go.Value.tuple [].toArray)) ∧
 True))))))))) ∧
 ((((Go.Value.bool false) = (Go.Value.bool false)) ∧
 (((Go.Value.tuple [].toArray) = (Go.Value.tuple [].toArray)) ∧
 (((Go.Value.tuple [].toArray) = (Go.Value.tuple [].toArray)) ∧
 (((Go.Value.tuple [].toArray) = (Go.Value.tuple [].toArray)) ∧
 (((Go.Value.tuple [].toArray) = (Go.Value.tuple [].toArray)) ∧
 (((Go.Value.tuple [].toArray) = (Go.Value.tuple [].toArray)) ∧
 (((Go.Value.tuple [].toArray) = (Go.Value.tuple [].toArray)) ∧
 (((Go.Value.tuple [].toArray) = (Go.Value.tuple [].toArray)) ∧
 (((Go.Value.tuple [].toArray) = (Go.Value.tuple [].toArray)) ∧
 (((Go.Value.tuple [].toArray) = (Go.Value.tuple [].toArray)) ∧
 (((Go.Value.tuple [].toArray) = (Go.Value.tuple [].toArray)) ∧
 True))))))))))) ∧
 (True ∧
 (k [(D.val (Go.Value.bool false))]))))))))))
 False)
 False)))) := by kernel_rfl
end Go.Proofs.G5a

/- What is left to show of each function, written out; the kernel reckons it. -/
namespace Go.Proofs.G5a
open Go Go.Abs Go.Proofs
set_option maxRecDepth 100000
set_option linter.unusedVariables false
def gMF (C : Ct) (L : AtLoop) (n cap : Nat) (l : List Value) (m cap2 : Nat) (l2 : List Value) (k : List D → Prop) : Prop := wpFn Try.prog (hG C) L 0 7 #[S500 n cap, S501 m cap2] (heapOf [Q500 l, Q501 l2]) (dataK k)
theorem gMF_text (C : Ct) (L : AtLoop) (n : Nat) (cap : Nat) (l : List Go.Value) (m : Nat) (cap2 : Nat) (l2 : List Go.Value) (k : List D → Prop) : gMF C L n cap l m cap2 l2 k =
 (∃ n1 : Int,
 ((Says C 27 [(D.val (Go.Value.int Go.IntKind.i64 ((↑n : Int)))), (D.sl 1 1 [(Go.Value.int Go.IntKind.i64 ((↑m : Int)))])] [(D.val (Go.Value.int Go.IntKind.i64 (n1)))]) ∧
 (∃ n2 : Int,
 ((Says C 28 [(D.val (Go.Value.int Go.IntKind.i64 ((↑n : Int)))), (D.val (Go.Value.int Go.IntKind.i64 (8 : Int)))] [(D.val (Go.Value.int Go.IntKind.i64 (n2)))]) ∧
 (∃ l1 : List Int,
 (((l) = (List.map (Go.Value.int Go.IntKind.i64) l1)) ∧
 (((n) = (List.length l1)) ∧
 (((List.length l1) < 1000000000) ∧
 (∃ r1 : Int,
 ((Says witC 0 [(D.val (Go.Value.int Go.IntKind.i64 (0 : Int))), (D.val (Go.Value.int Go.IntKind.i64 (100000 : Int))), (D.val (Go.Value.int Go.IntKind.i64 (2 : Int))), (D.sl (n) 1 (l))] [(D.val (Go.Value.int Go.IntKind.i64 (r1)))]) ∧
 (∃ l3 : List Int,
 (((l2) = (List.map (Go.Value.int Go.IntKind.i64) l3)) ∧
 (((m) = (List.length l3)) ∧
 (((List.length l3) < 1000000000) ∧
 (∃ r2 : Int,
 ((Says witC 0 [(D.val (Go.Value.int Go.IntKind.i64 (1 : Int))), (D.val (Go.Value.int Go.IntKind.i64 (100000 : Int))), (D.val (Go.Value.int Go.IntKind.i64 (2 : Int))), (D.sl (m) 1 (l2))] [(D.val (Go.Value.int Go.IntKind.i64 (r2)))]) ∧
 (∃ n3 : Int,
 ((Says C 26 [(D.sl 4 1 [(Go.Value.int Go.IntKind.i64 (n1)), (Go.Value.int Go.IntKind.i64 (n2)), (Go.Value.int Go.IntKind.i64 (r1)), (Go.Value.int Go.IntKind.i64 (r2))])] [(D.val (Go.Value.int Go.IntKind.i64 (n3)))]) ∧
 (bcase (n3 != 0)
 (k [D.nil, (D.val (Go.Value.int Go.IntKind.i64 (n3)))])
 (L 0 [(Prod.mk 0 (Go.Value.slice (Option.some (Go.Addr.mk 500 0 Option.none)) (n) (cap))), (Prod.mk 1 (Go.Value.slice (Option.some (Go.Addr.mk 501 0 Option.none)) (m) (cap2))), (Prod.mk 7 (Go.Value.slice Option.none 0 0)), (Prod.mk 29 (Go.Value.slice (Option.some (Go.Addr.mk 500 0 Option.none)) (n) (cap))), (Prod.mk 30 (Go.Value.int Go.IntKind.i64 ((↑n : Int)))), (Prod.mk 31 (Go.Value.int Go.IntKind.i64 (0 : Int)))] [(Prod.mk 500 (AObj.sym (l) false 1)), (Prod.mk 501 (AObj.sym (l2) false 1))])))))))))))))))))))) := by kernel_rfl
def gRF (C : Ct) (L : AtLoop) (n cap : Nat) (l : List Value) (m cap2 : Nat) (l2 : List Value) (k : List D → Prop) : Prop := wpFn Try.prog (hG C) L 0 9 #[S500 n cap, S501 m cap2] (heapOf [Q500 l, Q501 l2]) (dataK k)
theorem gRF_text (C : Ct) (L : AtLoop) (n : Nat) (cap : Nat) (l : List Go.Value) (m : Nat) (cap2 : Nat) (l2 : List Go.Value) (k : List D → Prop) : gRF C L n cap l m cap2 l2 k =
 (bcase ((↑n : Int) == 0)
 (k [D.nil, (D.val (Go.Value.int Go.IntKind.i64 (10 : Int)))])
 (bcase ((↑m : Int) != (↑n : Int))
 (k [D.nil, (D.val (Go.Value.int Go.IntKind.i64 (10 : Int)))])
 (bcase (decide ((↑n : Int) > 8))
 (k [D.nil, (D.val (Go.Value.int Go.IntKind.i64 (8 : Int)))])
 (L 0 [(Prod.mk 0 (Go.Value.slice (Option.some (Go.Addr.mk 500 0 Option.none)) (n) (cap))), (Prod.mk 1 (Go.Value.slice (Option.some (Go.Addr.mk 501 0 Option.none)) (m) (cap2))), (Prod.mk 6 (Go.Value.int Go.IntKind.i64 (0 : Int)))] [(Prod.mk 500 (AObj.sym (l) false 1)), (Prod.mk 501 (AObj.sym (l2) false 1))])))) := by kernel_rfl
def gTE (C : Ct) (L : AtLoop) (a : Int) (k : List D → Prop) : Prop := wpFn Try.prog (hG C) L 0 31 #[vI a] (heapOf []) (dataK k)
theorem gTE_text (C : Ct) (L : AtLoop) (a : Int) (k : List D → Prop) : gTE C L a k =
 (((Says C 17 [(D.val (Go.Value.int Go.IntKind.i64 (a))), (D.val (Go.Value.int Go.IntKind.i64 (1 : Int))), (D.val (Go.Value.int Go.IntKind.i64 (100000 : Int)))] [(D.val (Go.Value.bool true))]) ∧
 (k [(D.val (Go.Value.int Go.IntKind.i64 (0 : Int)))])) ∨
 ((Says C 17 [(D.val (Go.Value.int Go.IntKind.i64 (a))), (D.val (Go.Value.int Go.IntKind.i64 (1 : Int))), (D.val (Go.Value.int Go.IntKind.i64 (100000 : Int)))] [(D.val (Go.Value.bool false))]) ∧
 (k [(D.val (Go.Value.int Go.IntKind.i64 (2 : Int)))]))) := by kernel_rfl
def sMF (n cap m cap2 : Nat) (l7 : Value) (i : Int) : Slots := [(0, S500 n cap), (1, S501 m cap2), (7, l7), (29, S500 n cap), (30, .int .i64 n), (31, vI i)]
def rMF0 (C : Ct) (L : AtLoop) (n cap : Nat) (l : List Value) (m cap2 : Nat) (l2 : List Value) (i : Int) (B : Bx) (X : Xx) (k : List D → Prop) : Prop := wpRound Try.prog (hG C) L 7 0 (sMF n cap m cap2 (.slice none 0 0) i) [Q500 l, Q501 l2] B X (dataK k)
theorem rMF0_text (C : Ct) (L : AtLoop) (n : Nat) (cap : Nat) (l : List Go.Value) (m : Nat) (cap2 : Nat) (l2 : List Go.Value) (i : Int) (B : Bx) (X : Xx) (k : List D → Prop) : rMF0 C L n cap l m cap2 l2 i B X k =
 (bcase (decide (i < (↑n : Int)))
 (bcase (decide (0 ≤ i))
 (bcase (decide (i < (↑n : Int)))
 (∃ n1 : Int,
 ((At (l) (0 + Int.toNat i * 1) 1 [(Go.Value.int Go.IntKind.i64 (n1))]) ∧
 (bcase (decide (0 ≤ i))
 (bcase (decide (i < (↑m : Int)))
 (∃ n2 : Int,
 ((At (l2) (0 + Int.toNat i * 1) 1 [(Go.Value.int Go.IntKind.i64 (n2))]) ∧
 (bcase (decide (0 < (↑n : Int)))
 (∃ n3 : Int,
 ((At (l) 0 1 [(Go.Value.int Go.IntKind.i64 (n3))]) ∧
 (bcase (decide (0 < (↑m : Int)))
 (∃ n4 : Int,
 ((At (l2) 0 1 [(Go.Value.int Go.IntKind.i64 (n4))]) ∧
 (((((Go.Value.slice (Option.some (Go.Addr.mk 1000 0 Option.none)) 1 1) = (Go.Value.slice (Option.some (Go.Addr.mk 1000 0 Option.none)) 1 1)) ∧
 ((Option.some (AObj.cells [(Go.Value.int Go.IntKind.i64 (Go.IntKind.wrap Go.IntKind.i64 (Go.IntKind.wrap Go.IntKind.i64 (n1 * n2) - Go.IntKind.wrap Go.IntKind.i64 (n3 * n4))))] 3 false 1)) = (Option.some (AObj.cells [(Go.Value.int Go.IntKind.i64 (Go.IntKind.wrap Go.IntKind.i64 (Go.IntKind.wrap Go.IntKind.i64 (n1 * n2) - Go.IntKind.wrap Go.IntKind.i64 (n3 * n4))))] 3 false 1)))) ∧
 (((Go.Value.int Go.IntKind.i64 (Go.IntKind.wrap Go.IntKind.i64 (Go.IntKind.wrap Go.IntKind.i64 (n1 * n2) - Go.IntKind.wrap Go.IntKind.i64 (n3 * n4)))) = (Go.Value.int Go.IntKind.i64 (Go.IntKind.wrap Go.IntKind.i64 (Go.IntKind.wrap Go.IntKind.i64 (n1 * n2) - Go.IntKind.wrap Go.IntKind.i64 (n3 * n4))))) ∧
 (((Go.Value.int Go.IntKind.i64 (Go.IntKind.wrap Go.IntKind.i64 (n3 * n4))) = (Go.Value.int Go.IntKind.i64 (Go.IntKind.wrap Go.IntKind.i64 (n3 * n4)))) ∧
 ((∃ n5 : Int,
 ((At (l2) 0 1 [(Go.Value.int Go.IntKind.i64 (n5))]) ∧
 ((Go.Value.int Go.IntKind.i64 (n5)) = (Go.Value.int Go.IntKind.i64 (n4))))) ∧
 ((bcase (decide (0 < (↑m : Int)))
 ((Go.Value.pointer (Option.some (Go.Addr.mk 501 0 Option.none))) = (Go.Value.pointer (Option.some (Go.Addr.mk 501 0 Option.none))))
 False) ∧
 (((Go.Value.slice (Option.some (Go.Addr.mk 501 0 Option.none)) (m) (cap2)) = (Go.Value.slice (Option.some (Go.Addr.mk 501 0 Option.none)) (m) (cap2))) ∧
 ((∃ n5 : Int,
 ((At (l) 0 1 [(Go.Value.int Go.IntKind.i64 (n5))]) ∧
 ((Go.Value.int Go.IntKind.i64 (n5)) = (Go.Value.int Go.IntKind.i64 (n3))))) ∧
 ((bcase (decide (0 < (↑n : Int)))
 ((Go.Value.pointer (Option.some (Go.Addr.mk 500 0 Option.none))) = (Go.Value.pointer (Option.some (Go.Addr.mk 500 0 Option.none))))
 False) ∧
 (((Go.Value.slice (Option.some (Go.Addr.mk 500 0 Option.none)) (n) (cap)) = (Go.Value.slice (Option.some (Go.Addr.mk 500 0 Option.none)) (n) (cap))) ∧
 (((Go.Value.int Go.IntKind.i64 (Go.IntKind.wrap Go.IntKind.i64 (n1 * n2))) = (Go.Value.int Go.IntKind.i64 (Go.IntKind.wrap Go.IntKind.i64 (n1 * n2)))) ∧
 ((∃ n5 : Int,
 ((At (l2) (0 + Int.toNat i * 1) 1 [(Go.Value.int Go.IntKind.i64 (n5))]) ∧
 ((Go.Value.int Go.IntKind.i64 (n5)) = (Go.Value.int Go.IntKind.i64 (n2))))) ∧
 ((bcase (decide (0 ≤ i))
 (bcase (decide (i < (↑m : Int)))
 ((Go.Value.pointer (Option.some (Go.Addr.mk 501 (0 + Int.toNat i * 1) Option.none))) = (Go.Value.pointer (Option.some (Go.Addr.mk 501 (0 + Int.toNat i * 1) Option.none))))
 False)
 False) ∧
 (((Go.Value.int Go.IntKind.i64 (i)) = (Go.Value.int Go.IntKind.i64 (i))) ∧
 (((Go.Value.slice (Option.some (Go.Addr.mk 501 0 Option.none)) (m) (cap2)) = (Go.Value.slice (Option.some (Go.Addr.mk 501 0 Option.none)) (m) (cap2))) ∧
 (((Go.Value.int Go.IntKind.i64 (n1)) = (Go.Value.int Go.IntKind.i64 (n1))) ∧
 (((Go.Value.slice Option.none 0 0) = (Go.Value.slice Option.none 0 0)) ∧
 True)))))))))))))))) ∧
 ((((Go.Value.int Go.IntKind.i64 (Go.IntKind.wrap Go.IntKind.i64 (Go.IntKind.wrap Go.IntKind.i64 (n1 * n2) - Go.IntKind.wrap Go.IntKind.i64 (n3 * n4)))) = (Go.Value.int Go.IntKind.i64 (Go.IntKind.wrap Go.IntKind.i64 (Go.IntKind.wrap Go.IntKind.i64 (n1 * n2) - Go.IntKind.wrap Go.IntKind.i64 (n3 * n4))))) ∧
 (((Go.Value.int Go.IntKind.i64 (Go.IntKind.wrap Go.IntKind.i64 (n3 * n4))) = (Go.Value.int Go.IntKind.i64 (Go.IntKind.wrap Go.IntKind.i64 (n3 * n4)))) ∧
 ((∃ n5 : Int,
 ((At (l2) 0 1 [(Go.Value.int Go.IntKind.i64 (n5))]) ∧
 ((Go.Value.int Go.IntKind.i64 (n5)) = (Go.Value.int Go.IntKind.i64 (n4))))) ∧
 ((bcase (decide (0 < (↑m : Int)))
 ((Go.Value.pointer (Option.some (Go.Addr.mk 501 0 Option.none))) = (Go.Value.pointer (Option.some (Go.Addr.mk 501 0 Option.none))))
 False) ∧
 (((Go.Value.slice (Option.some (Go.Addr.mk 501 0 Option.none)) (m) (cap2)) = (Go.Value.slice (Option.some (Go.Addr.mk 501 0 Option.none)) (m) (cap2))) ∧
 ((∃ n5 : Int,
 ((At (l) 0 1 [(Go.Value.int Go.IntKind.i64 (n5))]) ∧
 ((Go.Value.int Go.IntKind.i64 (n5)) = (Go.Value.int Go.IntKind.i64 (n3))))) ∧
 ((bcase (decide (0 < (↑n : Int)))
 ((Go.Value.pointer (Option.some (Go.Addr.mk 500 0 Option.none))) = (Go.Value.pointer (Option.some (Go.Addr.mk 500 0 Option.none))))
 False) ∧
 (((Go.Value.slice (Option.some (Go.Addr.mk 500 0 Option.none)) (n) (cap)) = (Go.Value.slice (Option.some (Go.Addr.mk 500 0 Option.none)) (n) (cap))) ∧
 (((Go.Value.int Go.IntKind.i64 (Go.IntKind.wrap Go.IntKind.i64 (n1 * n2))) = (Go.Value.int Go.IntKind.i64 (Go.IntKind.wrap Go.IntKind.i64 (n1 * n2)))) ∧
 ((∃ n5 : Int,
 ((At (l2) (0 + Int.toNat i * 1) 1 [(Go.Value.int Go.IntKind.i64 (n5))]) ∧
 ((Go.Value.int Go.IntKind.i64 (n5)) = (Go.Value.int Go.IntKind.i64 (n2))))) ∧
 ((bcase (decide (0 ≤ i))
 (bcase (decide (i < (↑m : Int)))
 ((Go.Value.pointer (Option.some (Go.Addr.mk 501 (0 + Int.toNat i * 1) Option.none))) = (Go.Value.pointer (Option.some (Go.Addr.mk 501 (0 + Int.toNat i * 1) Option.none))))
 False)
 False) ∧
 (((Go.Value.int Go.IntKind.i64 (i)) = (Go.Value.int Go.IntKind.i64 (i))) ∧
 (((Go.Value.slice (Option.some (Go.Addr.mk 501 0 Option.none)) (m) (cap2)) = (Go.Value.slice (Option.some (Go.Addr.mk 501 0 Option.none)) (m) (cap2))) ∧
 (((Go.Value.int Go.IntKind.i64 (n1)) = (Go.Value.int Go.IntKind.i64 (n1))) ∧
 True)))))))))))))) ∧
 (True ∧
 (B [(Prod.mk 0 (Go.Value.slice (Option.some (Go.Addr.mk 500 0 Option.none)) (n) (cap))), (Prod.mk 1 (Go.Value.slice (Option.some (Go.Addr.mk 501 0 Option.none)) (m) (cap2))), (Prod.mk 7 (Go.Value.slice (Option.some (Go.Addr.mk 1000 0 Option.none)) 1 1)), (Prod.mk 29 (Go.Value.slice (Option.some (Go.Addr.mk 500 0 Option.none)) (n) (cap))), (Prod.mk 30 (Go.Value.int Go.IntKind.i64 ((↑n : Int)))), (Prod.mk 31 (Go.Value.int Go.IntKind.i64 (Go.IntKind.wrap Go.IntKind.i64 (i + 1))))] [(Prod.mk 500 (AObj.sym (l) false 1)), (Prod.mk 501 (AObj.sym (l2) false 1)), (Prod.mk 1000 (AObj.sym [(Go.Value.int Go.IntKind.i64 (Go.IntKind.wrap Go.IntKind.i64 (Go.IntKind.wrap Go.IntKind.i64 (n1 * n2) - Go.IntKind.wrap Go.IntKind.i64 (n3 * n4))))] true 1))]))))))
 False)))
 False)))
 False)
 False)))
 False)
 False)
 (X 0 [(Prod.mk 7 (Go.Value.slice Option.none 0 0))] [])) := by kernel_rfl
def rMF (C : Ct) (L : AtLoop) (n cap : Nat) (l : List Value) (m cap2 : Nat) (l2 : List Value) (j : Nat) (vs : List Value) (i : Int) (B : Bx) (X : Xx) (k : List D → Prop) : Prop := wpRound Try.prog (hG C) L 7 0 (sMF n cap m cap2 (.slice (some ⟨1000, 0, none⟩) j j) i) [Q500 l, Q501 l2, (1000, .sym vs true 1)] B X (dataK k)
theorem rMF_text (C : Ct) (L : AtLoop) (n : Nat) (cap : Nat) (l : List Go.Value) (m : Nat) (cap2 : Nat) (l2 : List Go.Value) (j : Nat) (vs : List Go.Value) (i : Int) (B : Bx) (X : Xx) (k : List D → Prop) : rMF C L n cap l m cap2 l2 j vs i B X k =
 (bcase (decide (i < (↑n : Int)))
 (bcase (decide (0 ≤ i))
 (bcase (decide (i < (↑n : Int)))
 (∃ n1 : Int,
 ((At (l) (0 + Int.toNat i * 1) 1 [(Go.Value.int Go.IntKind.i64 (n1))]) ∧
 (bcase (decide (0 ≤ i))
 (bcase (decide (i < (↑m : Int)))
 (∃ n2 : Int,
 ((At (l2) (0 + Int.toNat i * 1) 1 [(Go.Value.int Go.IntKind.i64 (n2))]) ∧
 (bcase (decide (0 < (↑n : Int)))
 (∃ n3 : Int,
 ((At (l) 0 1 [(Go.Value.int Go.IntKind.i64 (n3))]) ∧
 (bcase (decide (0 < (↑m : Int)))
 (∃ n4 : Int,
 ((At (l2) 0 1 [(Go.Value.int Go.IntKind.i64 (n4))]) ∧
 (((((Go.Value.slice (Option.some (Go.Addr.mk 1001 0 Option.none)) 1 1) = (Go.Value.slice (Option.some (Go.Addr.mk 1001 0 Option.none)) 1 1)) ∧
 ((Option.some (AObj.cells [(Go.Value.int Go.IntKind.i64 (Go.IntKind.wrap Go.IntKind.i64 (Go.IntKind.wrap Go.IntKind.i64 (n1 * n2) - Go.IntKind.wrap Go.IntKind.i64 (n3 * n4))))] 3 false 1)) = (Option.some (AObj.cells [(Go.Value.int Go.IntKind.i64 (Go.IntKind.wrap Go.IntKind.i64 (Go.IntKind.wrap Go.IntKind.i64 (n1 * n2) - Go.IntKind.wrap Go.IntKind.i64 (n3 * n4))))] 3 false 1)))) ∧
 (((Go.Value.int Go.IntKind.i64 (Go.IntKind.wrap Go.IntKind.i64 (Go.IntKind.wrap Go.IntKind.i64 (n1 * n2) - Go.IntKind.wrap Go.IntKind.i64 (n3 * n4)))) = (Go.Value.int Go.IntKind.i64 (Go.IntKind.wrap Go.IntKind.i64 (Go.IntKind.wrap Go.IntKind.i64 (n1 * n2) - Go.IntKind.wrap Go.IntKind.i64 (n3 * n4))))) ∧
 (((Go.Value.int Go.IntKind.i64 (Go.IntKind.wrap Go.IntKind.i64 (n3 * n4))) = (Go.Value.int Go.IntKind.i64 (Go.IntKind.wrap Go.IntKind.i64 (n3 * n4)))) ∧
 ((∃ n5 : Int,
 ((At (l2) 0 1 [(Go.Value.int Go.IntKind.i64 (n5))]) ∧
 ((Go.Value.int Go.IntKind.i64 (n5)) = (Go.Value.int Go.IntKind.i64 (n4))))) ∧
 ((bcase (decide (0 < (↑m : Int)))
 ((Go.Value.pointer (Option.some (Go.Addr.mk 501 0 Option.none))) = (Go.Value.pointer (Option.some (Go.Addr.mk 501 0 Option.none))))
 False) ∧
 (((Go.Value.slice (Option.some (Go.Addr.mk 501 0 Option.none)) (m) (cap2)) = (Go.Value.slice (Option.some (Go.Addr.mk 501 0 Option.none)) (m) (cap2))) ∧
 ((∃ n5 : Int,
 ((At (l) 0 1 [(Go.Value.int Go.IntKind.i64 (n5))]) ∧
 ((Go.Value.int Go.IntKind.i64 (n5)) = (Go.Value.int Go.IntKind.i64 (n3))))) ∧
 ((bcase (decide (0 < (↑n : Int)))
 ((Go.Value.pointer (Option.some (Go.Addr.mk 500 0 Option.none))) = (Go.Value.pointer (Option.some (Go.Addr.mk 500 0 Option.none))))
 False) ∧
 (((Go.Value.slice (Option.some (Go.Addr.mk 500 0 Option.none)) (n) (cap)) = (Go.Value.slice (Option.some (Go.Addr.mk 500 0 Option.none)) (n) (cap))) ∧
 (((Go.Value.int Go.IntKind.i64 (Go.IntKind.wrap Go.IntKind.i64 (n1 * n2))) = (Go.Value.int Go.IntKind.i64 (Go.IntKind.wrap Go.IntKind.i64 (n1 * n2)))) ∧
 ((∃ n5 : Int,
 ((At (l2) (0 + Int.toNat i * 1) 1 [(Go.Value.int Go.IntKind.i64 (n5))]) ∧
 ((Go.Value.int Go.IntKind.i64 (n5)) = (Go.Value.int Go.IntKind.i64 (n2))))) ∧
 ((bcase (decide (0 ≤ i))
 (bcase (decide (i < (↑m : Int)))
 ((Go.Value.pointer (Option.some (Go.Addr.mk 501 (0 + Int.toNat i * 1) Option.none))) = (Go.Value.pointer (Option.some (Go.Addr.mk 501 (0 + Int.toNat i * 1) Option.none))))
 False)
 False) ∧
 (((Go.Value.int Go.IntKind.i64 (i)) = (Go.Value.int Go.IntKind.i64 (i))) ∧
 (((Go.Value.slice (Option.some (Go.Addr.mk 501 0 Option.none)) (m) (cap2)) = (Go.Value.slice (Option.some (Go.Addr.mk 501 0 Option.none)) (m) (cap2))) ∧
 (((Go.Value.int Go.IntKind.i64 (n1)) = (Go.Value.int Go.IntKind.i64 (n1))) ∧
 (((Go.Value.slice (Option.some (Go.Addr.mk 1000 0 Option.none)) (j) (j)) = (Go.Value.slice (Option.some (Go.Addr.mk 1000 0 Option.none)) (j) (j))) ∧
 True)))))))))))))))) ∧
 (bcase (decide (j < j + 1))
 (bcase (decide ((2 * (j + 1) + 768) * 8 ≤ 281474976710656))
 (bcase (decide (j + 1 ≤ 1099511627776))
 (bcase (decide (0 + j * 1 ≤ List.length vs))
 (bcase (decide (0 + j * 1 = List.length vs))
 ((((Go.Value.int Go.IntKind.i64 (Go.IntKind.wrap Go.IntKind.i64 (Go.IntKind.wrap Go.IntKind.i64 (n1 * n2) - Go.IntKind.wrap Go.IntKind.i64 (n3 * n4)))) = (Go.Value.int Go.IntKind.i64 (Go.IntKind.wrap Go.IntKind.i64 (Go.IntKind.wrap Go.IntKind.i64 (n1 * n2) - Go.IntKind.wrap Go.IntKind.i64 (n3 * n4))))) ∧
 (((Go.Value.int Go.IntKind.i64 (Go.IntKind.wrap Go.IntKind.i64 (n3 * n4))) = (Go.Value.int Go.IntKind.i64 (Go.IntKind.wrap Go.IntKind.i64 (n3 * n4)))) ∧
 ((∃ n5 : Int,
 ((At (l2) 0 1 [(Go.Value.int Go.IntKind.i64 (n5))]) ∧
 ((Go.Value.int Go.IntKind.i64 (n5)) = (Go.Value.int Go.IntKind.i64 (n4))))) ∧
 ((bcase (decide (0 < (↑m : Int)))
 ((Go.Value.pointer (Option.some (Go.Addr.mk 501 0 Option.none))) = (Go.Value.pointer (Option.some (Go.Addr.mk 501 0 Option.none))))
 False) ∧
 (((Go.Value.slice (Option.some (Go.Addr.mk 501 0 Option.none)) (m) (cap2)) = (Go.Value.slice (Option.some (Go.Addr.mk 501 0 Option.none)) (m) (cap2))) ∧
 ((∃ n5 : Int,
 ((At (l) 0 1 [(Go.Value.int Go.IntKind.i64 (n5))]) ∧
 ((Go.Value.int Go.IntKind.i64 (n5)) = (Go.Value.int Go.IntKind.i64 (n3))))) ∧
 ((bcase (decide (0 < (↑n : Int)))
 ((Go.Value.pointer (Option.some (Go.Addr.mk 500 0 Option.none))) = (Go.Value.pointer (Option.some (Go.Addr.mk 500 0 Option.none))))
 False) ∧
 (((Go.Value.slice (Option.some (Go.Addr.mk 500 0 Option.none)) (n) (cap)) = (Go.Value.slice (Option.some (Go.Addr.mk 500 0 Option.none)) (n) (cap))) ∧
 (((Go.Value.int Go.IntKind.i64 (Go.IntKind.wrap Go.IntKind.i64 (n1 * n2))) = (Go.Value.int Go.IntKind.i64 (Go.IntKind.wrap Go.IntKind.i64 (n1 * n2)))) ∧
 ((∃ n5 : Int,
 ((At (l2) (0 + Int.toNat i * 1) 1 [(Go.Value.int Go.IntKind.i64 (n5))]) ∧
 ((Go.Value.int Go.IntKind.i64 (n5)) = (Go.Value.int Go.IntKind.i64 (n2))))) ∧
 ((bcase (decide (0 ≤ i))
 (bcase (decide (i < (↑m : Int)))
 ((Go.Value.pointer (Option.some (Go.Addr.mk 501 (0 + Int.toNat i * 1) Option.none))) = (Go.Value.pointer (Option.some (Go.Addr.mk 501 (0 + Int.toNat i * 1) Option.none))))
 False)
 False) ∧
 (((Go.Value.int Go.IntKind.i64 (i)) = (Go.Value.int Go.IntKind.i64 (i))) ∧
 (((Go.Value.slice (Option.some (Go.Addr.mk 501 0 Option.none)) (m) (cap2)) = (Go.Value.slice (Option.some (Go.Addr.mk 501 0 Option.none)) (m) (cap2))) ∧
 (((Go.Value.int Go.IntKind.i64 (n1)) = (Go.Value.int Go.IntKind.i64 (n1))) ∧
 True)))))))))))))) ∧
 (True ∧
 (B [(Prod.mk 0 (Go.Value.slice (Option.some (Go.Addr.mk 500 0 Option.none)) (n) (cap))), (Prod.mk 1 (Go.Value.slice (Option.some (Go.Addr.mk 501 0 Option.none)) (m) (cap2))), (Prod.mk 7 (Go.Value.slice (Option.some (Go.Addr.mk 1000 0 Option.none)) (j + 1) (j + 1))), (Prod.mk 29 (Go.Value.slice (Option.some (Go.Addr.mk 500 0 Option.none)) (n) (cap))), (Prod.mk 30 (Go.Value.int Go.IntKind.i64 ((↑n : Int)))), (Prod.mk 31 (Go.Value.int Go.IntKind.i64 (Go.IntKind.wrap Go.IntKind.i64 (i + 1))))] [(Prod.mk 500 (AObj.sym (l) false 1)), (Prod.mk 501 (AObj.sym (l2) false 1)), (Prod.mk 1000 (AObj.sym ((List.take (j * 1) (List.drop 0 vs)) ++ [(Go.Value.int Go.IntKind.i64 (Go.IntKind.wrap Go.IntKind.i64 (Go.IntKind.wrap Go.IntKind.i64 (n1 * n2) - Go.IntKind.wrap Go.IntKind.i64 (n3 * n4))))]) true 1))])))
 False)
 False)
 False)
 False)
 False))))
 False)))
 False)))
 False)
 False)))
 False)
 False)
 (X 0 [(Prod.mk 7 (Go.Value.slice (Option.some (Go.Addr.mk 1000 0 Option.none)) (j) (j)))] [(Prod.mk 1000 (AObj.sym (vs) true 1))])) := by kernel_rfl
def nMF (C : Ct) (L : AtLoop) (j : Nat) (vs : List Value) (k : List D → Prop) : Prop := wpNext Try.prog (hG C) L 7 0 .normal [(7, .slice (some ⟨1000, 0, none⟩) j j)] [(1000, .sym vs true 1)] (dataK k)
theorem nMF_text (C : Ct) (L : AtLoop) (j : Nat) (vs : List Go.Value) (k : List D → Prop) : nMF C L j vs k =
 ((((j) = (j)) ∧
 ((List.length vs) = (j * 1))) ∧
 (k [(D.sl (j) 1 (vs)), (D.val (Go.Value.int Go.IntKind.i64 (0 : Int)))])) := by kernel_rfl
def sRF (n cap m cap2 : Nat) (i : Int) : Slots := [(0, S500 n cap), (1, S501 m cap2), (6, vI i)]
def rRF (C : Ct) (L : AtLoop) (n cap : Nat) (l : List Value) (m cap2 : Nat) (l2 : List Value) (i : Int) (B : Bx) (X : Xx) (k : List D → Prop) : Prop := wpRound Try.prog (hG C) L 9 0 (sRF n cap m cap2 i) [Q500 l, Q501 l2] B X (dataK k)
theorem rRF_text (C : Ct) (L : AtLoop) (n : Nat) (cap : Nat) (l : List Go.Value) (m : Nat) (cap2 : Nat) (l2 : List Go.Value) (i : Int) (B : Bx) (X : Xx) (k : List D → Prop) : rRF C L n cap l m cap2 l2 i B X k =
 (bcase (decide (i < (↑n : Int)))
 (bcase (decide (0 ≤ i))
 (bcase (decide (i < (↑n : Int)))
 (∃ n1 : Int,
 ((At (l) (0 + Int.toNat i * 1) 1 [(Go.Value.int Go.IntKind.i64 (n1))]) ∧
 (((Says C 17 [(D.val (Go.Value.int Go.IntKind.i64 (n1))), (D.val (Go.Value.int Go.IntKind.i64 (0 : Int))), (D.val (Go.Value.int Go.IntKind.i64 (100000 : Int)))] [(D.val (Go.Value.bool true))]) ∧
 (bcase (decide (0 ≤ i))
 (bcase (decide (i < (↑m : Int)))
 (∃ n2 : Int,
 ((At (l2) (0 + Int.toNat i * 1) 1 [(Go.Value.int Go.IntKind.i64 (n2))]) ∧
 (∃ n3 : Int,
 ((Says C 31 [(D.val (Go.Value.int Go.IntKind.i64 (n2)))] [(D.val (Go.Value.int Go.IntKind.i64 (n3)))]) ∧
 (bcase (n3 != 0)
 (k [D.nil, (D.val (Go.Value.int Go.IntKind.i64 (n3)))])
 (B [(Prod.mk 0 (Go.Value.slice (Option.some (Go.Addr.mk 500 0 Option.none)) (n) (cap))), (Prod.mk 1 (Go.Value.slice (Option.some (Go.Addr.mk 501 0 Option.none)) (m) (cap2))), (Prod.mk 6 (Go.Value.int Go.IntKind.i64 (Go.IntKind.wrap Go.IntKind.i64 (i + 1))))] [(Prod.mk 500 (AObj.sym (l) false 1)), (Prod.mk 501 (AObj.sym (l2) false 1))]))))))
 False)
 False)) ∨
 ((Says C 17 [(D.val (Go.Value.int Go.IntKind.i64 (n1))), (D.val (Go.Value.int Go.IntKind.i64 (0 : Int))), (D.val (Go.Value.int Go.IntKind.i64 (100000 : Int)))] [(D.val (Go.Value.bool false))]) ∧
 (k [D.nil, (D.val (Go.Value.int Go.IntKind.i64 (2 : Int)))])))))
 False)
 False)
 (X 0 [(Prod.mk 0 (Go.Value.slice (Option.some (Go.Addr.mk 500 0 Option.none)) (n) (cap))), (Prod.mk 1 (Go.Value.slice (Option.some (Go.Addr.mk 501 0 Option.none)) (m) (cap2)))] [(Prod.mk 500 (AObj.sym (l) false 1)), (Prod.mk 501 (AObj.sym (l2) false 1))])) := by kernel_rfl
def nRF (C : Ct) (L : AtLoop) (n cap : Nat) (l : List Value) (m cap2 : Nat) (l2 : List Value) (k : List D → Prop) : Prop := wpNext Try.prog (hG C) L 9 0 .normal [(0, S500 n cap), (1, S501 m cap2)] [Q500 l, Q501 l2] (dataK k)
theorem nRF_text (C : Ct) (L : AtLoop) (n : Nat) (cap : Nat) (l : List Go.Value) (m : Nat) (cap2 : Nat) (l2 : List Go.Value) (k : List D → Prop) : nRF C L n cap l m cap2 l2 k =
 (L 2 [(Prod.mk 0 (Go.Value.slice (Option.some (Go.Addr.mk 500 0 Option.none)) (n) (cap))), (Prod.mk 1 (Go.Value.slice (Option.some (Go.Addr.mk 501 0 Option.none)) (m) (cap2))), (Prod.mk 8 (Go.Value.slice Option.none 0 0)), (Prod.mk 9 (Go.Value.int Go.IntKind.i64 (0 : Int)))] [(Prod.mk 500 (AObj.sym (l) false 1)), (Prod.mk 501 (AObj.sym (l2) false 1))]) := by kernel_rfl
def sRG (n cap m cap2 : Nat) (l8 : Value) (i : Int) : Slots := [(0, S500 n cap), (1, S501 m cap2), (8, l8), (9, vI i)]
def rRG0 (C : Ct) (L : AtLoop) (n cap : Nat) (l : List Value) (m cap2 : Nat) (l2 : List Value) (i : Int) (B : Bx) (X : Xx) (k : List D → Prop) : Prop := wpRound Try.prog (hG C) L 9 2 (sRG n cap m cap2 (.slice none 0 0) i) [Q500 l, Q501 l2] B X (dataK k)
theorem rRG0_text (C : Ct) (L : AtLoop) (n : Nat) (cap : Nat) (l : List Go.Value) (m : Nat) (cap2 : Nat) (l2 : List Go.Value) (i : Int) (B : Bx) (X : Xx) (k : List D → Prop) : rRG0 C L n cap l m cap2 l2 i B X k =
 (bcase (decide (i < (↑n : Int)))
 (bcase (decide (0 ≤ i))
 (bcase (decide (i < (↑n : Int)))
 (∃ n1 : Int,
 ((At (l) (0 + Int.toNat i * 1) 1 [(Go.Value.int Go.IntKind.i64 (n1))]) ∧
 (bcase (decide (0 ≤ i))
 (bcase (decide (i < (↑m : Int)))
 (∃ n2 : Int,
 ((At (l2) (0 + Int.toNat i * 1) 1 [(Go.Value.int Go.IntKind.i64 (n2))]) ∧
 (bcase (decide (0 < (↑n : Int)))
 (∃ n3 : Int,
 ((At (l) 0 1 [(Go.Value.int Go.IntKind.i64 (n3))]) ∧
 (bcase (decide (0 < (↑m : Int)))
 (∃ n4 : Int,
 ((At (l2) 0 1 [(Go.Value.int Go.IntKind.i64 (n4))]) ∧
 (((((Go.Value.slice (Option.some (Go.Addr.mk 1000 0 Option.none)) 1 1) = (Go.Value.slice (Option.some (Go.Addr.mk 1000 0 Option.none)) 1 1)) ∧
 ((Option.some (AObj.cells [(Go.Value.int Go.IntKind.i64 (Go.IntKind.wrap Go.IntKind.i64 (Go.IntKind.wrap Go.IntKind.i64 (n1 * n2) - Go.IntKind.wrap Go.IntKind.i64 (n3 * n4))))] 3 false 1)) = (Option.some (AObj.cells [(Go.Value.int Go.IntKind.i64 (Go.IntKind.wrap Go.IntKind.i64 (Go.IntKind.wrap Go.IntKind.i64 (n1 * n2) - Go.IntKind.wrap Go.IntKind.i64 (n3 * n4))))] 3 false 1)))) ∧
 (((Go.Value.int Go.IntKind.i64 (Go.IntKind.wrap Go.IntKind.i64 (Go.IntKind.wrap Go.IntKind.i64 (n1 * n2) - Go.IntKind.wrap Go.IntKind.i64 (n3 * n4)))) = (Go.Value.int Go.IntKind.i64 (Go.IntKind.wrap Go.IntKind.i64 (Go.IntKind.wrap Go.IntKind.i64 (n1 * n2) - Go.IntKind.wrap Go.IntKind.i64 (n3 * n4))))) ∧
 (((Go.Value.int Go.IntKind.i64 (Go.IntKind.wrap Go.IntKind.i64 (n3 * n4))) = (Go.Value.int Go.IntKind.i64 (Go.IntKind.wrap Go.IntKind.i64 (n3 * n4)))) ∧
 ((∃ n5 : Int,
 ((At (l2) 0 1 [(Go.Value.int Go.IntKind.i64 (n5))]) ∧
 ((Go.Value.int Go.IntKind.i64 (n5)) = (Go.Value.int Go.IntKind.i64 (n4))))) ∧
 ((bcase (decide (0 < (↑m : Int)))
 ((Go.Value.pointer (Option.some (Go.Addr.mk 501 0 Option.none))) = (Go.Value.pointer (Option.some (Go.Addr.mk 501 0 Option.none))))
 False) ∧
 (((Go.Value.slice (Option.some (Go.Addr.mk 501 0 Option.none)) (m) (cap2)) = (Go.Value.slice (Option.some (Go.Addr.mk 501 0 Option.none)) (m) (cap2))) ∧
 ((∃ n5 : Int,
 ((At (l) 0 1 [(Go.Value.int Go.IntKind.i64 (n5))]) ∧
 ((Go.Value.int Go.IntKind.i64 (n5)) = (Go.Value.int Go.IntKind.i64 (n3))))) ∧
 ((bcase (decide (0 < (↑n : Int)))
 ((Go.Value.pointer (Option.some (Go.Addr.mk 500 0 Option.none))) = (Go.Value.pointer (Option.some (Go.Addr.mk 500 0 Option.none))))
 False) ∧
 (((Go.Value.slice (Option.some (Go.Addr.mk 500 0 Option.none)) (n) (cap)) = (Go.Value.slice (Option.some (Go.Addr.mk 500 0 Option.none)) (n) (cap))) ∧
 (((Go.Value.int Go.IntKind.i64 (Go.IntKind.wrap Go.IntKind.i64 (n1 * n2))) = (Go.Value.int Go.IntKind.i64 (Go.IntKind.wrap Go.IntKind.i64 (n1 * n2)))) ∧
 ((∃ n5 : Int,
 ((At (l2) (0 + Int.toNat i * 1) 1 [(Go.Value.int Go.IntKind.i64 (n5))]) ∧
 ((Go.Value.int Go.IntKind.i64 (n5)) = (Go.Value.int Go.IntKind.i64 (n2))))) ∧
 ((bcase (decide (0 ≤ i))
 (bcase (decide (i < (↑m : Int)))
 ((Go.Value.pointer (Option.some (Go.Addr.mk 501 (0 + Int.toNat i * 1) Option.none))) = (Go.Value.pointer (Option.some (Go.Addr.mk 501 (0 + Int.toNat i * 1) Option.none))))
 False)
 False) ∧
 (((Go.Value.int Go.IntKind.i64 (i)) = (Go.Value.int Go.IntKind.i64 (i))) ∧
 (((Go.Value.slice (Option.some (Go.Addr.mk 501 0 Option.none)) (m) (cap2)) = (Go.Value.slice (Option.some (Go.Addr.mk 501 0 Option.none)) (m) (cap2))) ∧
 ((∃ n5 : Int,
 ((At (l) (0 + Int.toNat i * 1) 1 [(Go.Value.int Go.IntKind.i64 (n5))]) ∧
 ((Go.Value.int Go.IntKind.i64 (n5)) = (Go.Value.int Go.IntKind.i64 (n1))))) ∧
 ((bcase (decide (0 ≤ i))
 (bcase (decide (i < (↑n : Int)))
 ((Go.Value.pointer (Option.some (Go.Addr.mk 500 (0 + Int.toNat i * 1) Option.none))) = (Go.Value.pointer (Option.some (Go.Addr.mk 500 (0 + Int.toNat i * 1) Option.none))))
 False)
 False) ∧
 (((Go.Value.int Go.IntKind.i64 (i)) = (Go.Value.int Go.IntKind.i64 (i))) ∧
 (((Go.Value.slice (Option.some (Go.Addr.mk 500 0 Option.none)) (n) (cap)) = (Go.Value.slice (Option.some (Go.Addr.mk 500 0 Option.none)) (n) (cap))) ∧
 (((Go.Value.slice Option.none 0 0) = (Go.Value.slice Option.none 0 0)) ∧
 True))))))))))))))))))) ∧
 ((((Go.Value.int Go.IntKind.i64 (Go.IntKind.wrap Go.IntKind.i64 (Go.IntKind.wrap Go.IntKind.i64 (n1 * n2) - Go.IntKind.wrap Go.IntKind.i64 (n3 * n4)))) = (Go.Value.int Go.IntKind.i64 (Go.IntKind.wrap Go.IntKind.i64 (Go.IntKind.wrap Go.IntKind.i64 (n1 * n2) - Go.IntKind.wrap Go.IntKind.i64 (n3 * n4))))) ∧
 (((Go.Value.int Go.IntKind.i64 (Go.IntKind.wrap Go.IntKind.i64 (n3 * n4))) = (Go.Value.int Go.IntKind.i64 (Go.IntKind.wrap Go.IntKind.i64 (n3 * n4)))) ∧
 ((∃ n5 : Int,
 ((At (l2) 0 1 [(Go.Value.int Go.IntKind.i64 (n5))]) ∧
 ((Go.Value.int Go.IntKind.i64 (n5)) = (Go.Value.int Go.IntKind.i64 (n4))))) ∧
 ((bcase (decide (0 < (↑m : Int)))
 ((Go.Value.pointer (Option.some (Go.Addr.mk 501 0 Option.none))) = (Go.Value.pointer (Option.some (Go.Addr.mk 501 0 Option.none))))
 False) ∧
 (((Go.Value.slice (Option.some (Go.Addr.mk 501 0 Option.none)) (m) (cap2)) = (Go.Value.slice (Option.some (Go.Addr.mk 501 0 Option.none)) (m) (cap2))) ∧
 ((∃ n5 : Int,
 ((At (l) 0 1 [(Go.Value.int Go.IntKind.i64 (n5))]) ∧
 ((Go.Value.int Go.IntKind.i64 (n5)) = (Go.Value.int Go.IntKind.i64 (n3))))) ∧
 ((bcase (decide (0 < (↑n : Int)))
 ((Go.Value.pointer (Option.some (Go.Addr.mk 500 0 Option.none))) = (Go.Value.pointer (Option.some (Go.Addr.mk 500 0 Option.none))))
 False) ∧
 (((Go.Value.slice (Option.some (Go.Addr.mk 500 0 Option.none)) (n) (cap)) = (Go.Value.slice (Option.some (Go.Addr.mk 500 0 Option.none)) (n) (cap))) ∧
 (((Go.Value.int Go.IntKind.i64 (Go.IntKind.wrap Go.IntKind.i64 (n1 * n2))) = (Go.Value.int Go.IntKind.i64 (Go.IntKind.wrap Go.IntKind.i64 (n1 * n2)))) ∧
 ((∃ n5 : Int,
 ((At (l2) (0 + Int.toNat i * 1) 1 [(Go.Value.int Go.IntKind.i64 (n5))]) ∧
 ((Go.Value.int Go.IntKind.i64 (n5)) = (Go.Value.int Go.IntKind.i64 (n2))))) ∧
 ((bcase (decide (0 ≤ i))
 (bcase (decide (i < (↑m : Int)))
 ((Go.Value.pointer (Option.some (Go.Addr.mk 501 (0 + Int.toNat i * 1) Option.none))) = (Go.Value.pointer (Option.some (Go.Addr.mk 501 (0 + Int.toNat i * 1) Option.none))))
 False)
 False) ∧
 (((Go.Value.int Go.IntKind.i64 (i)) = (Go.Value.int Go.IntKind.i64 (i))) ∧
 (((Go.Value.slice (Option.some (Go.Addr.mk 501 0 Option.none)) (m) (cap2)) = (Go.Value.slice (Option.some (Go.Addr.mk 501 0 Option.none)) (m) (cap2))) ∧
 ((∃ n5 : Int,
 ((At (l) (0 + Int.toNat i * 1) 1 [(Go.Value.int Go.IntKind.i64 (n5))]) ∧
 ((Go.Value.int Go.IntKind.i64 (n5)) = (Go.Value.int Go.IntKind.i64 (n1))))) ∧
 ((bcase (decide (0 ≤ i))
 (bcase (decide (i < (↑n : Int)))
 ((Go.Value.pointer (Option.some (Go.Addr.mk 500 (0 + Int.toNat i * 1) Option.none))) = (Go.Value.pointer (Option.some (Go.Addr.mk 500 (0 + Int.toNat i * 1) Option.none))))
 False)
 False) ∧
 (((Go.Value.int Go.IntKind.i64 (i)) = (Go.Value.int Go.IntKind.i64 (i))) ∧
 (((Go.Value.slice (Option.some (Go.Addr.mk 500 0 Option.none)) (n) (cap)) = (Go.Value.slice (Option.some (Go.Addr.mk 500 0 Option.none)) (n) (cap))) ∧
 True))))))))))))))))) ∧
 (True ∧
 (B [(Prod.mk 0 (Go.Value.slice (Option.some (Go.Addr.mk 500 0 Option.none)) (n) (cap))), (Prod.mk 1 (Go.Value.slice (Option.some (Go.Addr.mk 501 0 Option.none)) (m) (cap2))), (Prod.mk 8 (Go.Value.slice (Option.some (Go.Addr.mk 1000 0 Option.none)) 1 1)), (Prod.mk 9 (Go.Value.int Go.IntKind.i64 (Go.IntKind.wrap Go.IntKind.i64 (i + 1))))] [(Prod.mk 500 (AObj.sym (l) false 1)), (Prod.mk 501 (AObj.sym (l2) false 1)), (Prod.mk 1000 (AObj.sym [(Go.Value.int Go.IntKind.i64 (Go.IntKind.wrap Go.IntKind.i64 (Go.IntKind.wrap Go.IntKind.i64 (n1 * n2) - Go.IntKind.wrap Go.IntKind.i64 (n3 * n4))))] true 1))]))))))
 False)))
 False)))
 False)
 False)))
 False)
 False)
 (X 2 [(Prod.mk 8 (Go.Value.slice Option.none 0 0))] [])) := by kernel_rfl
def gRFa (C : Ct) (L : AtLoop) (m cap2 : Nat) (l2 : List Value) (k : List D → Prop) : Prop := wpFn Try.prog (hG C) L 0 9 #[.slice none 0 0, S500 m cap2] (heapOf [Q500 l2]) (dataK k)
theorem gRFa_text (C : Ct) (L : AtLoop) (m : Nat) (cap2 : Nat) (l2 : List Go.Value) (k : List D → Prop) : gRFa C L m cap2 l2 k =
 (k [D.nil, (D.val (Go.Value.int Go.IntKind.i64 (10 : Int)))]) := by kernel_rfl
def gRFb (C : Ct) (L : AtLoop) (n cap : Nat) (l : List Value) (k : List D → Prop) : Prop := wpFn Try.prog (hG C) L 0 9 #[S500 n cap, .slice none 0 0] (heapOf [Q500 l]) (dataK k)
theorem gRFb_text (C : Ct) (L : AtLoop) (n : Nat) (cap : Nat) (l : List Go.Value) (k : List D → Prop) : gRFb C L n cap l k =
 (bcase ((↑n : Int) == 0)
 (k [D.nil, (D.val (Go.Value.int Go.IntKind.i64 (10 : Int)))])
 (bcase ((↑0 : Int) != (↑n : Int))
 (k [D.nil, (D.val (Go.Value.int Go.IntKind.i64 (10 : Int)))])
 (bcase (decide ((↑n : Int) > 8))
 (k [D.nil, (D.val (Go.Value.int Go.IntKind.i64 (8 : Int)))])
 (L 0 [(Prod.mk 0 (Go.Value.slice (Option.some (Go.Addr.mk 500 0 Option.none)) (n) (cap))), (Prod.mk 1 (Go.Value.slice Option.none 0 0)), (Prod.mk 6 (Go.Value.int Go.IntKind.i64 (0 : Int)))] [(Prod.mk 500 (AObj.sym (l) false 1))])))) := by kernel_rfl
def gRFc (C : Ct) (L : AtLoop) (k : List D → Prop) : Prop := wpFn Try.prog (hG C) L 0 9 #[.slice none 0 0, .slice none 0 0] (heapOf []) (dataK k)
theorem gRFc_text (C : Ct) (L : AtLoop) (k : List D → Prop) : gRFc C L k =
 (k [D.nil, (D.val (Go.Value.int Go.IntKind.i64 (10 : Int)))]) := by kernel_rfl
def rRG (C : Ct) (L : AtLoop) (n cap : Nat) (l : List Value) (m cap2 : Nat) (l2 : List Value) (j : Nat) (vs : List Value) (i : Int) (B : Bx) (X : Xx) (k : List D → Prop) : Prop := wpRound Try.prog (hG C) L 9 2 (sRG n cap m cap2 (.slice (some ⟨1000, 0, none⟩) j j) i) [Q500 l, Q501 l2, (1000, .sym vs true 1)] B X (dataK k)
theorem rRG_text (C : Ct) (L : AtLoop) (n : Nat) (cap : Nat) (l : List Go.Value) (m : Nat) (cap2 : Nat) (l2 : List Go.Value) (j : Nat) (vs : List Go.Value) (i : Int) (B : Bx) (X : Xx) (k : List D → Prop) : rRG C L n cap l m cap2 l2 j vs i B X k =
 (bcase (decide (i < (↑n : Int)))
 (bcase (decide (0 ≤ i))
 (bcase (decide (i < (↑n : Int)))
 (∃ n1 : Int,
 ((At (l) (0 + Int.toNat i * 1) 1 [(Go.Value.int Go.IntKind.i64 (n1))]) ∧
 (bcase (decide (0 ≤ i))
 (bcase (decide (i < (↑m : Int)))
 (∃ n2 : Int,
 ((At (l2) (0 + Int.toNat i * 1) 1 [(Go.Value.int Go.IntKind.i64 (n2))]) ∧
 (bcase (decide (0 < (↑n : Int)))
 (∃ n3 : Int,
 ((At (l) 0 1 [(Go.Value.int Go.IntKind.i64 (n3))]) ∧
 (bcase (decide (0 < (↑m : Int)))
 (∃ n4 : Int,
 ((At (l2) 0 1 [(Go.Value.int Go.IntKind.i64 (n4))]) ∧
 (((((Go.Value.slice (Option.some (Go.Addr.mk 1001 0 Option.none)) 1 1) = (Go.Value.slice (Option.some (Go.Addr.mk 1001 0 Option.none)) 1 1)) ∧
 ((Option.some (AObj.cells [(Go.Value.int Go.IntKind.i64 (Go.IntKind.wrap Go.IntKind.i64 (Go.IntKind.wrap Go.IntKind.i64 (n1 * n2) - Go.IntKind.wrap Go.IntKind.i64 (n3 * n4))))] 3 false 1)) = (Option.some (AObj.cells [(Go.Value.int Go.IntKind.i64 (Go.IntKind.wrap Go.IntKind.i64 (Go.IntKind.wrap Go.IntKind.i64 (n1 * n2) - Go.IntKind.wrap Go.IntKind.i64 (n3 * n4))))] 3 false 1)))) ∧
 (((Go.Value.int Go.IntKind.i64 (Go.IntKind.wrap Go.IntKind.i64 (Go.IntKind.wrap Go.IntKind.i64 (n1 * n2) - Go.IntKind.wrap Go.IntKind.i64 (n3 * n4)))) = (Go.Value.int Go.IntKind.i64 (Go.IntKind.wrap Go.IntKind.i64 (Go.IntKind.wrap Go.IntKind.i64 (n1 * n2) - Go.IntKind.wrap Go.IntKind.i64 (n3 * n4))))) ∧
 (((Go.Value.int Go.IntKind.i64 (Go.IntKind.wrap Go.IntKind.i64 (n3 * n4))) = (Go.Value.int Go.IntKind.i64 (Go.IntKind.wrap Go.IntKind.i64 (n3 * n4)))) ∧
 ((∃ n5 : Int,
 ((At (l2) 0 1 [(Go.Value.int Go.IntKind.i64 (n5))]) ∧
 ((Go.Value.int Go.IntKind.i64 (n5)) = (Go.Value.int Go.IntKind.i64 (n4))))) ∧
 ((bcase (decide (0 < (↑m : Int)))
 ((Go.Value.pointer (Option.some (Go.Addr.mk 501 0 Option.none))) = (Go.Value.pointer (Option.some (Go.Addr.mk 501 0 Option.none))))
 False) ∧
 (((Go.Value.slice (Option.some (Go.Addr.mk 501 0 Option.none)) (m) (cap2)) = (Go.Value.slice (Option.some (Go.Addr.mk 501 0 Option.none)) (m) (cap2))) ∧
 ((∃ n5 : Int,
 ((At (l) 0 1 [(Go.Value.int Go.IntKind.i64 (n5))]) ∧
 ((Go.Value.int Go.IntKind.i64 (n5)) = (Go.Value.int Go.IntKind.i64 (n3))))) ∧
 ((bcase (decide (0 < (↑n : Int)))
 ((Go.Value.pointer (Option.some (Go.Addr.mk 500 0 Option.none))) = (Go.Value.pointer (Option.some (Go.Addr.mk 500 0 Option.none))))
 False) ∧
 (((Go.Value.slice (Option.some (Go.Addr.mk 500 0 Option.none)) (n) (cap)) = (Go.Value.slice (Option.some (Go.Addr.mk 500 0 Option.none)) (n) (cap))) ∧
 (((Go.Value.int Go.IntKind.i64 (Go.IntKind.wrap Go.IntKind.i64 (n1 * n2))) = (Go.Value.int Go.IntKind.i64 (Go.IntKind.wrap Go.IntKind.i64 (n1 * n2)))) ∧
 ((∃ n5 : Int,
 ((At (l2) (0 + Int.toNat i * 1) 1 [(Go.Value.int Go.IntKind.i64 (n5))]) ∧
 ((Go.Value.int Go.IntKind.i64 (n5)) = (Go.Value.int Go.IntKind.i64 (n2))))) ∧
 ((bcase (decide (0 ≤ i))
 (bcase (decide (i < (↑m : Int)))
 ((Go.Value.pointer (Option.some (Go.Addr.mk 501 (0 + Int.toNat i * 1) Option.none))) = (Go.Value.pointer (Option.some (Go.Addr.mk 501 (0 + Int.toNat i * 1) Option.none))))
 False)
 False) ∧
 (((Go.Value.int Go.IntKind.i64 (i)) = (Go.Value.int Go.IntKind.i64 (i))) ∧
 (((Go.Value.slice (Option.some (Go.Addr.mk 501 0 Option.none)) (m) (cap2)) = (Go.Value.slice (Option.some (Go.Addr.mk 501 0 Option.none)) (m) (cap2))) ∧
 ((∃ n5 : Int,
 ((At (l) (0 + Int.toNat i * 1) 1 [(Go.Value.int Go.IntKind.i64 (n5))]) ∧
 ((Go.Value.int Go.IntKind.i64 (n5)) = (Go.Value.int Go.IntKind.i64 (n1))))) ∧
 ((bcase (decide (0 ≤ i))
 (bcase (decide (i < (↑n : Int)))
 ((Go.Value.pointer (Option.some (Go.Addr.mk 500 (0 + Int.toNat i * 1) Option.none))) = (Go.Value.pointer (Option.some (Go.Addr.mk 500 (0 + Int.toNat i * 1) Option.none))))
 False)
 False) ∧
 (((Go.Value.int Go.IntKind.i64 (i)) = (Go.Value.int Go.IntKind.i64 (i))) ∧
 (((Go.Value.slice (Option.some (Go.Addr.mk 500 0 Option.none)) (n) (cap)) = (Go.Value.slice (Option.some (Go.Addr.mk 500 0 Option.none)) (n) (cap))) ∧
 (((Go.Value.slice (Option.some (Go.Addr.mk 1000 0 Option.none)) (j) (j)) = (Go.Value.slice (Option.some (Go.Addr.mk 1000 0 Option.none)) (j) (j))) ∧
 True))))))))))))))))))) ∧
 (bcase (decide (j < j + 1))
 (bcase (decide ((2 * (j + 1) + 768) * 8 ≤ 281474976710656))
 (bcase (decide (j + 1 ≤ 1099511627776))
 (bcase (decide (0 + j * 1 ≤ List.length vs))
 (bcase (decide (0 + j * 1 = List.length vs))
 ((((Go.Value.int Go.IntKind.i64 (Go.IntKind.wrap Go.IntKind.i64 (Go.IntKind.wrap Go.IntKind.i64 (n1 * n2) - Go.IntKind.wrap Go.IntKind.i64 (n3 * n4)))) = (Go.Value.int Go.IntKind.i64 (Go.IntKind.wrap Go.IntKind.i64 (Go.IntKind.wrap Go.IntKind.i64 (n1 * n2) - Go.IntKind.wrap Go.IntKind.i64 (n3 * n4))))) ∧
 (((Go.Value.int Go.IntKind.i64 (Go.IntKind.wrap Go.IntKind.i64 (n3 * n4))) = (Go.Value.int Go.IntKind.i64 (Go.IntKind.wrap Go.IntKind.i64 (n3 * n4)))) ∧
 ((∃ n5 : Int,
 ((At (l2) 0 1 [(Go.Value.int Go.IntKind.i64 (n5))]) ∧
 ((Go.Value.int Go.IntKind.i64 (n5)) = (Go.Value.int Go.IntKind.i64 (n4))))) ∧
 ((bcase (decide (0 < (↑m : Int)))
 ((Go.Value.pointer (Option.some (Go.Addr.mk 501 0 Option.none))) = (Go.Value.pointer (Option.some (Go.Addr.mk 501 0 Option.none))))
 False) ∧
 (((Go.Value.slice (Option.some (Go.Addr.mk 501 0 Option.none)) (m) (cap2)) = (Go.Value.slice (Option.some (Go.Addr.mk 501 0 Option.none)) (m) (cap2))) ∧
 ((∃ n5 : Int,
 ((At (l) 0 1 [(Go.Value.int Go.IntKind.i64 (n5))]) ∧
 ((Go.Value.int Go.IntKind.i64 (n5)) = (Go.Value.int Go.IntKind.i64 (n3))))) ∧
 ((bcase (decide (0 < (↑n : Int)))
 ((Go.Value.pointer (Option.some (Go.Addr.mk 500 0 Option.none))) = (Go.Value.pointer (Option.some (Go.Addr.mk 500 0 Option.none))))
 False) ∧
 (((Go.Value.slice (Option.some (Go.Addr.mk 500 0 Option.none)) (n) (cap)) = (Go.Value.slice (Option.some (Go.Addr.mk 500 0 Option.none)) (n) (cap))) ∧
 (((Go.Value.int Go.IntKind.i64 (Go.IntKind.wrap Go.IntKind.i64 (n1 * n2))) = (Go.Value.int Go.IntKind.i64 (Go.IntKind.wrap Go.IntKind.i64 (n1 * n2)))) ∧
 ((∃ n5 : Int,
 ((At (l2) (0 + Int.toNat i * 1) 1 [(Go.Value.int Go.IntKind.i64 (n5))]) ∧
 ((Go.Value.int Go.IntKind.i64 (n5)) = (Go.Value.int Go.IntKind.i64 (n2))))) ∧
 ((bcase (decide (0 ≤ i))
 (bcase (decide (i < (↑m : Int)))
 ((Go.Value.pointer (Option.some (Go.Addr.mk 501 (0 + Int.toNat i * 1) Option.none))) = (Go.Value.pointer (Option.some (Go.Addr.mk 501 (0 + Int.toNat i * 1) Option.none))))
 False)
 False) ∧
 (((Go.Value.int Go.IntKind.i64 (i)) = (Go.Value.int Go.IntKind.i64 (i))) ∧
 (((Go.Value.slice (Option.some (Go.Addr.mk 501 0 Option.none)) (m) (cap2)) = (Go.Value.slice (Option.some (Go.Addr.mk 501 0 Option.none)) (m) (cap2))) ∧
 ((∃ n5 : Int,
 ((At (l) (0 + Int.toNat i * 1) 1 [(Go.Value.int Go.IntKind.i64 (n5))]) ∧
 ((Go.Value.int Go.IntKind.i64 (n5)) = (Go.Value.int Go.IntKind.i64 (n1))))) ∧
 ((bcase (decide (0 ≤ i))
 (bcase (decide (i < (↑n : Int)))
 ((Go.Value.pointer (Option.some (Go.Addr.mk 500 (0 + Int.toNat i * 1) Option.none))) = (Go.Value.pointer (Option.some (Go.Addr.mk 500 (0 + Int.toNat i * 1) Option.none))))
 False)
 False) ∧
 (((Go.Value.int Go.IntKind.i64 (i)) = (Go.Value.int Go.IntKind.i64 (i))) ∧
 (((Go.Value.slice (Option.some (Go.Addr.mk 500 0 Option.none)) (n) (cap)) = (Go.Value.slice (Option.some (Go.Addr.mk 500 0 Option.none)) (n) (cap))) ∧
 True))))))))))))))))) ∧
 (True ∧
 (B [(Prod.mk 0 (Go.Value.slice (Option.some (Go.Addr.mk 500 0 Option.none)) (n) (cap))), (Prod.mk 1 (Go.Value.slice (Option.some (Go.Addr.mk 501 0 Option.none)) (m) (cap2))), (Prod.mk 8 (Go.Value.slice (Option.some (Go.Addr.mk 1000 0 Option.none)) (j + 1) (j + 1))), (Prod.mk 9 (Go.Value.int Go.IntKind.i64 (Go.IntKind.wrap Go.IntKind.i64 (i + 1))))] [(Prod.mk 500 (AObj.sym (l) false 1)), (Prod.mk 501 (AObj.sym (l2) false 1)), (Prod.mk 1000 (AObj.sym ((List.take (j * 1) (List.drop 0 vs)) ++ [(Go.Value.int Go.IntKind.i64 (Go.IntKind.wrap Go.IntKind.i64 (Go.IntKind.wrap Go.IntKind.i64 (n1 * n2) - Go.IntKind.wrap Go.IntKind.i64 (n3 * n4))))]) true 1))])))
 False)
 False)
 False)
 False)
 False))))
 False)))
 False)))
 False)
 False)))
 False)
 False)
 (X 2 [(Prod.mk 8 (Go.Value.slice (Option.some (Go.Addr.mk 1000 0 Option.none)) (j) (j)))] [(Prod.mk 1000 (AObj.sym (vs) true 1))])) := by kernel_rfl
def nRG (C : Ct) (L : AtLoop) (j : Nat) (vs : List Value) (k : List D → Prop) : Prop := wpNext Try.prog (hG C) L 9 2 .normal [(8, .slice (some ⟨1000, 0, none⟩) j j)] [(1000, .sym vs true 1)] (dataK k)
theorem nRG_text (C : Ct) (L : AtLoop) (j : Nat) (vs : List Go.Value) (k : List D → Prop) : nRG C L j vs k =
 ((((j) = (j)) ∧
 ((List.length vs) = (j * 1))) ∧
 (k [(D.sl (j) 1 (vs)), (D.val (Go.Value.int Go.IntKind.i64 (0 : Int)))])) := by kernel_rfl
end Go.Proofs.G5a

/- One number is put before the others of an own list, where there is room: what it does (slices.Insert at 0). -/
namespace Go.Abs
def wpIns (args : Array Value) (H : Heap) (k : Value → Heap → Prop) : Prop :=
  match args.toList with
  | [.slice (some ⟨b, 0, none⟩) n cap, .int .i64 z, .slice (some ⟨vb, 0, none⟩) 1 _] =>
    match H.get b, H.get vb with
    | some (.sym cs true 1), some (.cells [x] _ false _) =>
      if z = 0 ∧ mbase ≤ b ∧ b ≠ vb ∧ 0 < n ∧ n + 1 ≤ cap ∧ cap ≤ 1000000 ∧ cs.length = cap ∧ cellP x = true then
        k (.slice (some ⟨b, 0, none⟩) (n + 1) cap) (H.set b (.sym (listSet (listSet cs 1 (cs.take n)) 0 [x]) true 1))
      else False
    | _, _ => False
  | _ => False
end Go.Abs

/- What is left to show of each function, written out; the kernel reckons it. -/
namespace Go.Proofs.G5a
open Go Go.Abs Go.Proofs
set_option maxRecDepth 100000
set_option linter.unusedVariables false
abbrev S502 (n cap : Nat) : Value := .slice (some ⟨502, 0, none⟩) n cap
def preI : FuncId → Option Handler := fun g => if g == 86 then some (fun _ args _ H k => wpIns args H k) else none
abbrev hI : Handler := handlerX Try.prog preI 12 6
def gAf (cap1 cap2 cap3 : Nat) (cs0 : List Value) (den a b d c1 c2 x : Int) (k : List D → Prop) : Prop := wpFn Try.prog hI (fun _ _ _ => False) 6 79 #[.agg #[S500 2 cap1, vI den], .agg #[S501 2 cap2, vI d], .agg #[S502 2 cap3, vI x]] (heapOf [(500, .sym cs0 false 2), (501, .sym [vI a, vI b] false 1), (502, .sym [vI c1, vI c2] false 1)]) (dataK k)
theorem gAf_text (cap1 : Nat) (cap2 : Nat) (cap3 : Nat) (cs0 : List Go.Value) (den : Int) (a : Int) (b : Int) (d : Int) (c1 : Int) (c2 : Int) (x : Int) (k : List D → Prop) : gAf cap1 cap2 cap3 cs0 den a b d c1 c2 x k =
 (∃ n1 : Int,
 ((At [(Go.Value.int Go.IntKind.i64 (a)), (Go.Value.int Go.IntKind.i64 (b))] 0 1 [(Go.Value.int Go.IntKind.i64 (n1))]) ∧
 (∃ n2 : Int,
 ((At [(Go.Value.int Go.IntKind.i64 (c1)), (Go.Value.int Go.IntKind.i64 (c2))] 0 1 [(Go.Value.int Go.IntKind.i64 (n2))]) ∧
 (∃ n3 : Int,
 ((At [(Go.Value.int Go.IntKind.i64 (a)), (Go.Value.int Go.IntKind.i64 (b))] 1 1 [(Go.Value.int Go.IntKind.i64 (n3))]) ∧
 (∃ n4 : Int,
 ((At [(Go.Value.int Go.IntKind.i64 (c1)), (Go.Value.int Go.IntKind.i64 (c2))] 1 1 [(Go.Value.int Go.IntKind.i64 (n4))]) ∧
 (((2 = 2) ∧
 (2 = 2)) ∧
 (k [(D.agg [(D.sl 2 1 [(Go.Value.int Go.IntKind.i64 (Go.IntKind.wrap Go.IntKind.i64 (Go.IntKind.wrap Go.IntKind.i64 (Go.IntKind.wrap Go.IntKind.i64 (x * Go.IntKind.wrap Go.IntKind.i64 (d * den)) + Go.IntKind.wrap Go.IntKind.i64 (n2 * n1)) + Go.IntKind.wrap Go.IntKind.i64 (n4 * n3)))), (Go.Value.int Go.IntKind.i64 (Go.IntKind.wrap Go.IntKind.i64 (n1 * den)))]), (D.val (Go.Value.int Go.IntKind.i64 (Go.IntKind.wrap Go.IntKind.i64 (d * den))))])])))))))))) := by kernel_rfl
end Go.Proofs.G5a
