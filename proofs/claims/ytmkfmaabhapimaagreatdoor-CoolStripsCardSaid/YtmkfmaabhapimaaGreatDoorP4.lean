/- Texts of the proof, put together: Gd8T1, Gd8S, AbsSame, AbsTab, Gd8J. -/
import Derived.Test.YtmkfmaabhapimaaGreatDoorP3
import Derived.Test.YtmkfmaabhapimaaGreatDoorProg
import Derived.Shelf.Strings.OnBuilder
import Derived.KernelRfl
/- What is left to show of each function, written out; the kernel reckons it. -/
namespace Go.Proofs.G5d
open Go Go.Abs Go.Proofs
set_option maxRecDepth 100000
set_option linter.unusedVariables false
abbrev Ct := FuncId → List D → List D → Prop
abbrev Bx := Slots → Blocks → Prop
abbrev Xx := Nat → Slots → Blocks → Prop
abbrev vI (n : Int) : Value := .int .i64 n
def lm1 (cap : Nat) (lo hi x : Int) (K : Value → Blocks → Prop) : Prop := wpFn Tryz.prog (fun _ _ _ _ _ => False) (fun _ _ _ => False) 6 93 #[.slice (some ⟨900, 0, none⟩) 1 cap, .pointer (some ⟨901, 0, none⟩), .pointer (some ⟨902, 0, none⟩)] (heapOf [(900, .cells [.int .i64 x] 3 false 1), (901, .cells [.int .i64 lo] 3 false 1), (902, .cells [.int .i64 hi] 3 false 1)]) (stateK K)
theorem lm1_text (cap : Nat) (lo : Int) (hi : Int) (x : Int) (K : Go.Value → Blocks → Prop) : lm1 cap lo hi x K =
 (bcase (decide (x < lo))
 (K (vI (2 : Int)) [(Prod.mk 900 (AObj.cells [(vI x)] 3 false 1)), (Prod.mk 901 (AObj.cells [(vI lo)] 3 false 1)), (Prod.mk 902 (AObj.cells [(vI hi)] 3 false 1))])
 (bcase (decide (x > hi))
 (K (vI (2 : Int)) [(Prod.mk 900 (AObj.cells [(vI x)] 3 false 1)), (Prod.mk 901 (AObj.cells [(vI lo)] 3 false 1)), (Prod.mk 902 (AObj.cells [(vI hi)] 3 false 1))])
 (K (vI (0 : Int)) [(Prod.mk 900 (AObj.cells [(vI x)] 3 false 1)), (Prod.mk 901 (AObj.cells [(vI lo)] 3 false 1)), (Prod.mk 902 (AObj.cells [(vI hi)] 3 false 1))]))) := by kernel_rfl
def lm2 (cap : Nat) (lo hi x y : Int) (K : Value → Blocks → Prop) : Prop := wpFn Tryz.prog (fun _ _ _ _ _ => False) (fun _ _ _ => False) 6 93 #[.slice (some ⟨900, 0, none⟩) 2 cap, .pointer (some ⟨901, 0, none⟩), .pointer (some ⟨902, 0, none⟩)] (heapOf [(900, .cells [.int .i64 x, .int .i64 y] 3 false 1), (901, .cells [.int .i64 lo] 3 false 1), (902, .cells [.int .i64 hi] 3 false 1)]) (stateK K)
theorem lm2_text (cap : Nat) (lo : Int) (hi : Int) (x : Int) (y : Int) (K : Go.Value → Blocks → Prop) : lm2 cap lo hi x y K =
 (bcase (decide (x < lo))
 (K (vI (2 : Int)) [(Prod.mk 900 (AObj.cells [(vI x), (vI y)] 3 false 1)), (Prod.mk 901 (AObj.cells [(vI lo)] 3 false 1)), (Prod.mk 902 (AObj.cells [(vI hi)] 3 false 1))])
 (bcase (decide (x > hi))
 (K (vI (2 : Int)) [(Prod.mk 900 (AObj.cells [(vI x), (vI y)] 3 false 1)), (Prod.mk 901 (AObj.cells [(vI lo)] 3 false 1)), (Prod.mk 902 (AObj.cells [(vI hi)] 3 false 1))])
 (bcase (decide (y < lo))
 (K (vI (2 : Int)) [(Prod.mk 900 (AObj.cells [(vI x), (vI y)] 3 false 1)), (Prod.mk 901 (AObj.cells [(vI lo)] 3 false 1)), (Prod.mk 902 (AObj.cells [(vI hi)] 3 false 1))])
 (bcase (decide (y > hi))
 (K (vI (2 : Int)) [(Prod.mk 900 (AObj.cells [(vI x), (vI y)] 3 false 1)), (Prod.mk 901 (AObj.cells [(vI lo)] 3 false 1)), (Prod.mk 902 (AObj.cells [(vI hi)] 3 false 1))])
 (K (vI (0 : Int)) [(Prod.mk 900 (AObj.cells [(vI x), (vI y)] 3 false 1)), (Prod.mk 901 (AObj.cells [(vI lo)] 3 false 1)), (Prod.mk 902 (AObj.cells [(vI hi)] 3 false 1))]))))) := by kernel_rfl
def lm3 (cap : Nat) (lo hi x y z : Int) (K : Value → Blocks → Prop) : Prop := wpFn Tryz.prog (fun _ _ _ _ _ => False) (fun _ _ _ => False) 6 93 #[.slice (some ⟨900, 0, none⟩) 3 cap, .pointer (some ⟨901, 0, none⟩), .pointer (some ⟨902, 0, none⟩)] (heapOf [(900, .cells [.int .i64 x, .int .i64 y, .int .i64 z] 3 false 1), (901, .cells [.int .i64 lo] 3 false 1), (902, .cells [.int .i64 hi] 3 false 1)]) (stateK K)
theorem lm3_text (cap : Nat) (lo : Int) (hi : Int) (x : Int) (y : Int) (z : Int) (K : Go.Value → Blocks → Prop) : lm3 cap lo hi x y z K =
 (bcase (decide (x < lo))
 (K (vI (2 : Int)) [(Prod.mk 900 (AObj.cells [(vI x), (vI y), (vI z)] 3 false 1)), (Prod.mk 901 (AObj.cells [(vI lo)] 3 false 1)), (Prod.mk 902 (AObj.cells [(vI hi)] 3 false 1))])
 (bcase (decide (x > hi))
 (K (vI (2 : Int)) [(Prod.mk 900 (AObj.cells [(vI x), (vI y), (vI z)] 3 false 1)), (Prod.mk 901 (AObj.cells [(vI lo)] 3 false 1)), (Prod.mk 902 (AObj.cells [(vI hi)] 3 false 1))])
 (bcase (decide (y < lo))
 (K (vI (2 : Int)) [(Prod.mk 900 (AObj.cells [(vI x), (vI y), (vI z)] 3 false 1)), (Prod.mk 901 (AObj.cells [(vI lo)] 3 false 1)), (Prod.mk 902 (AObj.cells [(vI hi)] 3 false 1))])
 (bcase (decide (y > hi))
 (K (vI (2 : Int)) [(Prod.mk 900 (AObj.cells [(vI x), (vI y), (vI z)] 3 false 1)), (Prod.mk 901 (AObj.cells [(vI lo)] 3 false 1)), (Prod.mk 902 (AObj.cells [(vI hi)] 3 false 1))])
 (bcase (decide (z < lo))
 (K (vI (2 : Int)) [(Prod.mk 900 (AObj.cells [(vI x), (vI y), (vI z)] 3 false 1)), (Prod.mk 901 (AObj.cells [(vI lo)] 3 false 1)), (Prod.mk 902 (AObj.cells [(vI hi)] 3 false 1))])
 (bcase (decide (z > hi))
 (K (vI (2 : Int)) [(Prod.mk 900 (AObj.cells [(vI x), (vI y), (vI z)] 3 false 1)), (Prod.mk 901 (AObj.cells [(vI lo)] 3 false 1)), (Prod.mk 902 (AObj.cells [(vI hi)] 3 false 1))])
 (K (vI (0 : Int)) [(Prod.mk 900 (AObj.cells [(vI x), (vI y), (vI z)] 3 false 1)), (Prod.mk 901 (AObj.cells [(vI lo)] 3 false 1)), (Prod.mk 902 (AObj.cells [(vI hi)] 3 false 1))]))))))) := by kernel_rfl
def lm4 (cap : Nat) (lo hi x y z u : Int) (K : Value → Blocks → Prop) : Prop := wpFn Tryz.prog (fun _ _ _ _ _ => False) (fun _ _ _ => False) 6 93 #[.slice (some ⟨900, 0, none⟩) 4 cap, .pointer (some ⟨901, 0, none⟩), .pointer (some ⟨902, 0, none⟩)] (heapOf [(900, .cells [.int .i64 x, .int .i64 y, .int .i64 z, .int .i64 u] 3 false 1), (901, .cells [.int .i64 lo] 3 false 1), (902, .cells [.int .i64 hi] 3 false 1)]) (stateK K)
theorem lm4_text (cap : Nat) (lo : Int) (hi : Int) (x : Int) (y : Int) (z : Int) (u : Int) (K : Go.Value → Blocks → Prop) : lm4 cap lo hi x y z u K =
 (bcase (decide (x < lo))
 (K (vI (2 : Int)) [(Prod.mk 900 (AObj.cells [(vI x), (vI y), (vI z), (vI u)] 3 false 1)), (Prod.mk 901 (AObj.cells [(vI lo)] 3 false 1)), (Prod.mk 902 (AObj.cells [(vI hi)] 3 false 1))])
 (bcase (decide (x > hi))
 (K (vI (2 : Int)) [(Prod.mk 900 (AObj.cells [(vI x), (vI y), (vI z), (vI u)] 3 false 1)), (Prod.mk 901 (AObj.cells [(vI lo)] 3 false 1)), (Prod.mk 902 (AObj.cells [(vI hi)] 3 false 1))])
 (bcase (decide (y < lo))
 (K (vI (2 : Int)) [(Prod.mk 900 (AObj.cells [(vI x), (vI y), (vI z), (vI u)] 3 false 1)), (Prod.mk 901 (AObj.cells [(vI lo)] 3 false 1)), (Prod.mk 902 (AObj.cells [(vI hi)] 3 false 1))])
 (bcase (decide (y > hi))
 (K (vI (2 : Int)) [(Prod.mk 900 (AObj.cells [(vI x), (vI y), (vI z), (vI u)] 3 false 1)), (Prod.mk 901 (AObj.cells [(vI lo)] 3 false 1)), (Prod.mk 902 (AObj.cells [(vI hi)] 3 false 1))])
 (bcase (decide (z < lo))
 (K (vI (2 : Int)) [(Prod.mk 900 (AObj.cells [(vI x), (vI y), (vI z), (vI u)] 3 false 1)), (Prod.mk 901 (AObj.cells [(vI lo)] 3 false 1)), (Prod.mk 902 (AObj.cells [(vI hi)] 3 false 1))])
 (bcase (decide (z > hi))
 (K (vI (2 : Int)) [(Prod.mk 900 (AObj.cells [(vI x), (vI y), (vI z), (vI u)] 3 false 1)), (Prod.mk 901 (AObj.cells [(vI lo)] 3 false 1)), (Prod.mk 902 (AObj.cells [(vI hi)] 3 false 1))])
 (bcase (decide (u < lo))
 (K (vI (2 : Int)) [(Prod.mk 900 (AObj.cells [(vI x), (vI y), (vI z), (vI u)] 3 false 1)), (Prod.mk 901 (AObj.cells [(vI lo)] 3 false 1)), (Prod.mk 902 (AObj.cells [(vI hi)] 3 false 1))])
 (bcase (decide (u > hi))
 (K (vI (2 : Int)) [(Prod.mk 900 (AObj.cells [(vI x), (vI y), (vI z), (vI u)] 3 false 1)), (Prod.mk 901 (AObj.cells [(vI lo)] 3 false 1)), (Prod.mk 902 (AObj.cells [(vI hi)] 3 false 1))])
 (K (vI (0 : Int)) [(Prod.mk 900 (AObj.cells [(vI x), (vI y), (vI z), (vI u)] 3 false 1)), (Prod.mk 901 (AObj.cells [(vI lo)] 3 false 1)), (Prod.mk 902 (AObj.cells [(vI hi)] 3 false 1))]))))))))) := by kernel_rfl
def preA (C : Ct) : FuncId → Option Handler := fun g => if g == 93 then some (stateH (limAll 3)) else if [97, 4, 29, 31, 68, 30, 98, 66, 76, 71, 72, 39, 95, 73, 38, 96].contains g then some (saidH Tryz.prog C) else none
abbrev hA (C : Ct) : Handler := handlerX Tryz.prog (preA C) 12 6
abbrev hE (C : Ct) : Handler := handlerX Tryz.prog (fun _ => none) 12 6
def gFE (C : Ct) (L : AtLoop) (n0 : Nat) (c0 : Nat) (l0 : List Value) (k : List D → Prop) : Prop := wpFn Tryz.prog (hA C) L 0 29 #[.slice (some ⟨500, 0, none⟩) n0 c0] (heapOf [(500, .sym l0 false 1)]) (dataK k)
theorem gFE_text (C : Ct) (L : AtLoop) (n0 : Nat) (c0 : Nat) (l0 : List Go.Value) (k : List D → Prop) : gFE C L n0 c0 l0 k =
 (L 0 [(Prod.mk 5 (Sl 500 (n0) (c0))), (Prod.mk 6 (vI ((↑n0 : Int)))), (Prod.mk 7 (vI (0 : Int)))] [(Prod.mk 500 (AObj.sym (l0) false 1))]) := by kernel_rfl
abbrev zFE1 (n0 : Nat) (c1 : Nat) (x2 : Int) (x3 : Int) (l4 : List Value) : Slots × Blocks := ([(5, (Value.slice (some ⟨500, 0, none⟩) n0 c1)), (6, (Value.int .i64 x2)), (7, (Value.int .i64 x3))], [(500, (AObj.sym l4 false 1))])
def rFE1 (C : Ct) (L : AtLoop) (n0 : Nat) (c1 : Nat) (x2 : Int) (x3 : Int) (l4 : List Value) (B : Bx) (X : Xx) (k : List D → Prop) : Prop := wpRound Tryz.prog (hA C) L 29 0 [(5, (Value.slice (some ⟨500, 0, none⟩) n0 c1)), (6, (Value.int .i64 x2)), (7, (Value.int .i64 x3))] [(500, (AObj.sym l4 false 1))] B X (dataK k)
theorem rFE1_text (C : Ct) (L : AtLoop) (n0 : Nat) (c1 : Nat) (x2 : Int) (x3 : Int) (l4 : List Go.Value) (B : Bx) (X : Xx) (k : List D → Prop) : rFE1 C L n0 c1 x2 x3 l4 B X k =
 (bcase (decide (x3 < x2))
 (bcase (decide (0 ≤ x3))
 (bcase (decide (x3 < (↑n0 : Int)))
 (∃ n1 : Int,
 ((At (l4) (0 + Int.toNat x3 * 1) 1 [(vI n1)]) ∧
 (bcase (n1 != 0)
 (k [(D.val (vI n1))])
 (B [(Prod.mk 5 (Sl 500 (n0) (c1))), (Prod.mk 6 (vI x2)), (Prod.mk 7 (vI (IntKind.wrap .i64 (x3 + 1))))] [(Prod.mk 500 (AObj.sym (l4) false 1))]))))
 False)
 False)
 (X 0 [] [])) := by kernel_rfl
def nFE2 (C : Ct) (L : AtLoop) (k : List D → Prop) : Prop := wpNext Tryz.prog (hA C) L 29 0 .normal [] [] (dataK k)
theorem nFE2_text (C : Ct) (L : AtLoop) (k : List D → Prop) : nFE2 C L k =
 (k [(D.val (vI (0 : Int)))]) := by kernel_rfl
def gCC (C : Ct) (L : AtLoop) (x0 : Int) (x1 : Int) (x2 : Int) (k : List D → Prop) : Prop := wpFn Tryz.prog (hA C) L 0 31 #[.int .i64 x0, .int .i64 x1, .int .i64 x2] (heapOf []) (dataK k)
theorem gCC_text (C : Ct) (L : AtLoop) (x0 : Int) (x1 : Int) (x2 : Int) (k : List D → Prop) : gCC C L x0 x1 x2 k =
 (bcase (decide (x0 < x1))
 (k [(D.val (vI (10 : Int)))])
 (bcase (decide (x0 > x2))
 (k [(D.val (vI (8 : Int)))])
 (k [(D.val (vI (0 : Int)))]))) := by kernel_rfl
def gCE (C : Ct) (L : AtLoop) (x0 : Int) (x1 : Int) (k : List D → Prop) : Prop := wpFn Tryz.prog (hA C) L 0 68 #[.agg #[.int .i64 x0, .int .i64 x1]] (heapOf []) (dataK k)
theorem gCE_text (C : Ct) (L : AtLoop) (x0 : Int) (x1 : Int) (k : List D → Prop) : gCE C L x0 x1 k =
 (bcase (decide (x0 > x1))
 (k [(D.val (vI (9 : Int)))])
 (k [(D.val (vI (0 : Int)))])) := by kernel_rfl
def gCS (C : Ct) (L : AtLoop) (x0 : Int) (n1 : Nat) (c1 : Nat) (l1 : List Value) (k : List D → Prop) : Prop := wpFn Tryz.prog (hA C) L 0 30 #[.int .i64 x0, .slice (some ⟨500, 0, none⟩) n1 c1] (heapOf [(500, .sym l1 false 1)]) (dataK k)
theorem gCS_text (C : Ct) (L : AtLoop) (x0 : Int) (n1 : Nat) (c1 : Nat) (l1 : List Go.Value) (k : List D → Prop) : gCS C L x0 n1 c1 l1 k =
 (L 0 [(Prod.mk 0 (vI x0)), (Prod.mk 7 (Sl 500 (n1) (c1))), (Prod.mk 8 (vI ((↑n1 : Int)))), (Prod.mk 9 (vI (0 : Int)))] [(Prod.mk 500 (AObj.sym (l1) false 1))]) := by kernel_rfl
abbrev zCS1 (x0 : Int) (n1 : Nat) (c2 : Nat) (x3 : Int) (x4 : Int) (l5 : List Value) : Slots × Blocks := ([(0, (Value.int .i64 x0)), (7, (Value.slice (some ⟨500, 0, none⟩) n1 c2)), (8, (Value.int .i64 x3)), (9, (Value.int .i64 x4))], [(500, (AObj.sym l5 false 1))])
def rCS1 (C : Ct) (L : AtLoop) (x0 : Int) (n1 : Nat) (c2 : Nat) (x3 : Int) (x4 : Int) (l5 : List Value) (B : Bx) (X : Xx) (k : List D → Prop) : Prop := wpRound Tryz.prog (hA C) L 30 0 [(0, (Value.int .i64 x0)), (7, (Value.slice (some ⟨500, 0, none⟩) n1 c2)), (8, (Value.int .i64 x3)), (9, (Value.int .i64 x4))] [(500, (AObj.sym l5 false 1))] B X (dataK k)
theorem rCS1_text (C : Ct) (L : AtLoop) (x0 : Int) (n1 : Nat) (c2 : Nat) (x3 : Int) (x4 : Int) (l5 : List Go.Value) (B : Bx) (X : Xx) (k : List D → Prop) : rCS1 C L x0 n1 c2 x3 x4 l5 B X k =
 (bcase (decide (x4 < x3))
 (bcase (decide (0 ≤ x4))
 (bcase (decide (x4 < (↑n1 : Int)))
 (∃ n2 : Int,
 ((At (l5) (0 + Int.toNat x4 * 1) 1 [(vI n2)]) ∧
 (bcase (n2 != x0)
 (k [(D.val (vI (10 : Int)))])
 (B [(Prod.mk 0 (vI x0)), (Prod.mk 7 (Sl 500 (n1) (c2))), (Prod.mk 8 (vI x3)), (Prod.mk 9 (vI (IntKind.wrap .i64 (x4 + 1))))] [(Prod.mk 500 (AObj.sym (l5) false 1))]))))
 False)
 False)
 (X 0 [] [])) := by kernel_rfl
def nCS2 (C : Ct) (L : AtLoop) (k : List D → Prop) : Prop := wpNext Tryz.prog (hA C) L 30 0 .normal [] [] (dataK k)
theorem nCS2_text (C : Ct) (L : AtLoop) (k : List D → Prop) : nCS2 C L k =
 (k [(D.val (vI (0 : Int)))]) := by kernel_rfl
def gK1 (C : Ct) (L : AtLoop) (x0 : Int) (x1 : Int) (x2 : Int) (k : List D → Prop) : Prop := wpFn Tryz.prog (hA C) L 0 98 #[.agg #[.int .i64 x0, .int .i64 x1, .int .i64 x2]] (heapOf []) (dataK k)
theorem gK1_text (C : Ct) (L : AtLoop) (x0 : Int) (x1 : Int) (x2 : Int) (k : List D → Prop) : gK1 C L x0 x1 x2 k =
 (((Qv (Go.Value.agg [(vI x0), (vI x1)].toArray)) ∧
 ((Qv (Pt 1000 0)) ∧
 (((Qv (Sl 1002 1 1)) ∧
 (Qv (Option.some (AObj.cells [(vI x2)] 3 false 1)))) ∧
 ((Qv (vI x2)) ∧
 ((Qv (Pt 1000 2)) ∧
 (((Qv (Sl 1001 2 2)) ∧
 (Qv (Option.some (AObj.cells [(vI x0), (vI x1)] 3 false 1)))) ∧
 ((Qv (vI x1)) ∧
 ((Qv (Pt 1000 1)) ∧
 ((Qv (Pt 1000 0)) ∧
 ((Qv (vI x0)) ∧
 ((Qv (Pt 1000 0)) ∧
 ((Qv (Pt 1000 0)) ∧
 True)))))))))))) ∧
 (((Qv (Go.Value.agg [(vI x0), (vI x1)].toArray)) ∧
 ((Qv (Pt 1000 0)) ∧
 (((Qv (Sl 1002 1 1)) ∧
 (Qv (Option.some (AObj.cells [(vI x2)] 3 false 1)))) ∧
 ((Qv (vI x2)) ∧
 ((Qv (Pt 1000 2)) ∧
 (((Qv (Sl 1001 2 2)) ∧
 (Qv (Option.some (AObj.cells [(vI x0), (vI x1)] 3 false 1)))) ∧
 ((Qv (vI x1)) ∧
 ((Qv (Pt 1000 1)) ∧
 ((Qv (Pt 1000 0)) ∧
 ((Qv (vI x0)) ∧
 ((Qv (Pt 1000 0)) ∧
 ((Qv (Pt 1000 0)) ∧
 True)))))))))))) ∧
 (∃ e1 : Int,
 ((Says limC 0 [(D.val (vI (0 : Int))), (D.val (vI (1000 : Int))), (D.sl 2 1 [(vI x0), (vI x1)])] [(D.val (vI e1))]) ∧
 (((Qv (Go.Value.agg [(vI x0), (vI x1)].toArray)) ∧
 ((Qv (Pt 1000 0)) ∧
 (((Qv (Sl 1002 1 1)) ∧
 (Qv (Option.some (AObj.cells [(vI x2)] 3 false 1)))) ∧
 ((Qv (vI x2)) ∧
 ((Qv (Pt 1000 2)) ∧
 ((Qv (vI x1)) ∧
 ((Qv (Pt 1000 1)) ∧
 ((Qv (Pt 1000 0)) ∧
 ((Qv (vI x0)) ∧
 ((Qv (Pt 1000 0)) ∧
 ((Qv (Pt 1000 0)) ∧
 True))))))))))) ∧
 (((Qv (Go.Value.agg [(vI x0), (vI x1)].toArray)) ∧
 ((Qv (Pt 1000 0)) ∧
 (((Qv (Sl 1002 1 1)) ∧
 (Qv (Option.some (AObj.cells [(vI x2)] 3 false 1)))) ∧
 ((Qv (vI x2)) ∧
 ((Qv (Pt 1000 2)) ∧
 ((Qv (vI x1)) ∧
 ((Qv (Pt 1000 1)) ∧
 ((Qv (Pt 1000 0)) ∧
 ((Qv (vI x0)) ∧
 ((Qv (Pt 1000 0)) ∧
 ((Qv (Pt 1000 0)) ∧
 True))))))))))) ∧
 (∃ e2 : Int,
 ((Says limC 0 [(D.val (vI (0 : Int))), (D.val (vI (8 : Int))), (D.sl 1 1 [(vI x2)])] [(D.val (vI e2))]) ∧
 (((Qv (Go.Value.agg [(vI x0), (vI x1)].toArray)) ∧
 ((Qv (Pt 1000 0)) ∧
 ((Qv (vI x2)) ∧
 ((Qv (Pt 1000 2)) ∧
 ((Qv (vI x1)) ∧
 ((Qv (Pt 1000 1)) ∧
 ((Qv (Pt 1000 0)) ∧
 ((Qv (vI x0)) ∧
 ((Qv (Pt 1000 0)) ∧
 ((Qv (Pt 1000 0)) ∧
 True)))))))))) ∧
 (∃ n1 : Int,
 ((Says C 68 [(D.agg [(D.val (vI x0)), (D.val (vI x1))])] [(D.val (vI n1))]) ∧
 ((((Qv (Sl 1007 3 3)) ∧
 (Qv (Option.some (AObj.cells [(vI e1), (vI e2), (vI n1)] 32 false 1)))) ∧
 ((Qv (Pt 1000 0)) ∧
 ((Qv (vI x2)) ∧
 ((Qv (Pt 1000 2)) ∧
 ((Qv (vI x1)) ∧
 ((Qv (Pt 1000 1)) ∧
 ((Qv (Pt 1000 0)) ∧
 ((Qv (vI x0)) ∧
 ((Qv (Pt 1000 0)) ∧
 ((Qv (Pt 1000 0)) ∧
 True)))))))))) ∧
 (∃ n2 : Int,
 ((Says C 29 [(D.sl 3 1 [(vI e1), (vI e2), (vI n1)])] [(D.val (vI n2))]) ∧
 (((Qv (Pt 1000 0)) ∧
 ((Qv (vI x2)) ∧
 ((Qv (Pt 1000 2)) ∧
 ((Qv (vI x1)) ∧
 ((Qv (Pt 1000 1)) ∧
 ((Qv (Pt 1000 0)) ∧
 ((Qv (vI x0)) ∧
 ((Qv (Pt 1000 0)) ∧
 ((Qv (Pt 1000 0)) ∧
 True))))))))) ∧
 (True ∧
 (k [(D.val (vI n2))]))))))))))))))))) := by kernel_rfl
def gD1 (C : Ct) (L : AtLoop) (x0 : Int) (x1 : Int) (k : List D → Prop) : Prop := wpFn Tryz.prog (hA C) L 0 66 #[.agg #[.int .i64 x0, .int .i64 x1]] (heapOf []) (dataK k)
theorem gD1_text (C : Ct) (L : AtLoop) (x0 : Int) (x1 : Int) (k : List D → Prop) : gD1 C L x0 x1 k =
 (((Qv (Go.Value.agg [(vI x0), (vI x1)].toArray)) ∧
 (((Qv (Sl 1001 2 2)) ∧
 (Qv (Option.some (AObj.cells [(vI x0), (vI x1)] 3 false 1)))) ∧
 ((Qv (vI x1)) ∧
 ((Qv (Pt 1000 1)) ∧
 ((Qv (vI x0)) ∧
 ((Qv (Pt 1000 0)) ∧
 True)))))) ∧
 (((Qv (Go.Value.agg [(vI x0), (vI x1)].toArray)) ∧
 (((Qv (Sl 1001 2 2)) ∧
 (Qv (Option.some (AObj.cells [(vI x0), (vI x1)] 3 false 1)))) ∧
 ((Qv (vI x1)) ∧
 ((Qv (Pt 1000 1)) ∧
 ((Qv (vI x0)) ∧
 ((Qv (Pt 1000 0)) ∧
 True)))))) ∧
 (∃ e1 : Int,
 ((Says limC 0 [(D.val (vI (0 : Int))), (D.val (vI (12000 : Int))), (D.sl 2 1 [(vI x0), (vI x1)])] [(D.val (vI e1))]) ∧
 (((Qv (Go.Value.agg [(vI x0), (vI x1)].toArray)) ∧
 ((Qv (vI x1)) ∧
 ((Qv (Pt 1000 1)) ∧
 ((Qv (vI x0)) ∧
 ((Qv (Pt 1000 0)) ∧
 True))))) ∧
 (∃ n1 : Int,
 ((Says C 68 [(D.agg [(D.val (vI x0)), (D.val (vI x1))])] [(D.val (vI n1))]) ∧
 ((((Qv (Sl 1004 2 2)) ∧
 (Qv (Option.some (AObj.cells [(vI e1), (vI n1)] 32 false 1)))) ∧
 ((Qv (vI x1)) ∧
 ((Qv (Pt 1000 1)) ∧
 ((Qv (vI x0)) ∧
 ((Qv (Pt 1000 0)) ∧
 True))))) ∧
 (∃ n2 : Int,
 ((Says C 29 [(D.sl 2 1 [(vI e1), (vI n1)])] [(D.val (vI n2))]) ∧
 (((Qv (vI x1)) ∧
 ((Qv (Pt 1000 1)) ∧
 ((Qv (vI x0)) ∧
 ((Qv (Pt 1000 0)) ∧
 True)))) ∧
 (True ∧
 (k [(D.val (vI n2))]))))))))))))) := by kernel_rfl
def gFB (C : Ct) (L : AtLoop) (n0 : Nat) (c0 : Nat) (l0 : List Value) (k : List D → Prop) : Prop := wpFn Tryz.prog (hA C) L 0 97 #[.slice (some ⟨500, 0, none⟩) n0 c0, .func (.func 98) #[] #[]] (heapOf [(500, .sym l0 false 3)]) (dataK k)
theorem gFB_text (C : Ct) (L : AtLoop) (n0 : Nat) (c0 : Nat) (l0 : List Go.Value) (k : List D → Prop) : gFB C L n0 c0 l0 k =
 (L 0 [(Prod.mk 1 (Go.Value.func (Go.Fn.func 98) [].toArray [].toArray)), (Prod.mk 9 (Sl 500 (n0) (c0))), (Prod.mk 10 (vI ((↑n0 : Int)))), (Prod.mk 11 (vI (0 : Int)))] [(Prod.mk 500 (AObj.sym (l0) false 3))]) := by kernel_rfl
abbrev zFB1 (n0 : Nat) (c1 : Nat) (x2 : Int) (x3 : Int) (l4 : List Value) : Slots × Blocks := ([(1, (Value.func (.func 98) #[] #[])), (9, (Value.slice (some ⟨500, 0, none⟩) n0 c1)), (10, (Value.int .i64 x2)), (11, (Value.int .i64 x3))], [(500, (AObj.sym l4 false 3))])
def rFB1 (C : Ct) (L : AtLoop) (n0 : Nat) (c1 : Nat) (x2 : Int) (x3 : Int) (l4 : List Value) (B : Bx) (X : Xx) (k : List D → Prop) : Prop := wpRound Tryz.prog (hA C) L 97 0 [(1, (Value.func (.func 98) #[] #[])), (9, (Value.slice (some ⟨500, 0, none⟩) n0 c1)), (10, (Value.int .i64 x2)), (11, (Value.int .i64 x3))] [(500, (AObj.sym l4 false 3))] B X (dataK k)
theorem rFB1_text (C : Ct) (L : AtLoop) (n0 : Nat) (c1 : Nat) (x2 : Int) (x3 : Int) (l4 : List Go.Value) (B : Bx) (X : Xx) (k : List D → Prop) : rFB1 C L n0 c1 x2 x3 l4 B X k =
 (bcase (decide (x3 < x2))
 (bcase (decide (0 ≤ x3))
 (bcase (decide (x3 < (↑n0 : Int)))
 (∃ n1 : Int,
 (∃ n2 : Int,
 (∃ n3 : Int,
 ((At (l4) (0 + Int.toNat x3 * 3) 3 [(vI n1), (vI n2), (vI n3)]) ∧
 (∃ n4 : Int,
 ((Says C 98 [(D.agg [(D.val (vI n1)), (D.val (vI n2)), (D.val (vI n3))])] [(D.val (vI n4))]) ∧
 (bcase (n4 != 0)
 (k [(D.val (vI x3)), (D.val (vI n4))])
 (B [(Prod.mk 1 (Go.Value.func (Go.Fn.func 98) [].toArray [].toArray)), (Prod.mk 9 (Sl 500 (n0) (c1))), (Prod.mk 10 (vI x2)), (Prod.mk 11 (vI (IntKind.wrap .i64 (x3 + 1))))] [(Prod.mk 500 (AObj.sym (l4) false 3))]))))))))
 False)
 False)
 (X 0 [] [])) := by kernel_rfl
def nFB2 (C : Ct) (L : AtLoop) (k : List D → Prop) : Prop := wpNext Tryz.prog (hA C) L 97 0 .normal [] [] (dataK k)
theorem nFB2_text (C : Ct) (L : AtLoop) (k : List D → Prop) : nFB2 C L k =
 (k [(D.val (vI (0 : Int))), (D.val (vI (0 : Int)))]) := by kernel_rfl
def gCT (C : Ct) (L : AtLoop) (x0 : Int) (x1 : Int) (n2 : Nat) (c2 : Nat) (l2 : List Value) (k : List D → Prop) : Prop := wpFn Tryz.prog (hA C) L 0 76 #[.agg #[.int .i64 x0, .int .i64 x1, .slice (some ⟨500, 0, none⟩) n2 c2]] (heapOf [(500, .sym l2 false 3)]) (dataK k)
theorem gCT_text (C : Ct) (L : AtLoop) (x0 : Int) (x1 : Int) (n2 : Nat) (c2 : Nat) (l2 : List Go.Value) (k : List D → Prop) : gCT C L x0 x1 n2 c2 l2 k =
 (((Qv (vI ((↑n2 : Int)))) ∧
 ((Qv (Sl 500 (n2) (c2))) ∧
 ((Qv (Pt 1000 2)) ∧
 (((Qv (Sl 1002 1 1)) ∧
 (Qv (Option.some (AObj.cells [(vI x1)] 3 false 1)))) ∧
 ((Qv (vI x1)) ∧
 ((Qv (Pt 1000 1)) ∧
 (((Qv (Sl 1001 1 1)) ∧
 (Qv (Option.some (AObj.cells [(vI x0)] 3 false 1)))) ∧
 ((Qv (vI x0)) ∧
 ((Qv (Pt 1000 0)) ∧
 True))))))))) ∧
 (((Qv (vI ((↑n2 : Int)))) ∧
 ((Qv (Sl 500 (n2) (c2))) ∧
 ((Qv (Pt 1000 2)) ∧
 (((Qv (Sl 1002 1 1)) ∧
 (Qv (Option.some (AObj.cells [(vI x1)] 3 false 1)))) ∧
 ((Qv (vI x1)) ∧
 ((Qv (Pt 1000 1)) ∧
 (((Qv (Sl 1001 1 1)) ∧
 (Qv (Option.some (AObj.cells [(vI x0)] 3 false 1)))) ∧
 ((Qv (vI x0)) ∧
 ((Qv (Pt 1000 0)) ∧
 True))))))))) ∧
 (∃ e1 : Int,
 ((Says limC 0 [(D.val (vI (0 : Int))), (D.val (vI (12000 : Int))), (D.sl 1 1 [(vI x0)])] [(D.val (vI e1))]) ∧
 (((Qv (vI ((↑n2 : Int)))) ∧
 ((Qv (Sl 500 (n2) (c2))) ∧
 ((Qv (Pt 1000 2)) ∧
 (((Qv (Sl 1002 1 1)) ∧
 (Qv (Option.some (AObj.cells [(vI x1)] 3 false 1)))) ∧
 ((Qv (vI x1)) ∧
 ((Qv (Pt 1000 1)) ∧
 ((Qv (vI x0)) ∧
 ((Qv (Pt 1000 0)) ∧
 True)))))))) ∧
 (((Qv (vI ((↑n2 : Int)))) ∧
 ((Qv (Sl 500 (n2) (c2))) ∧
 ((Qv (Pt 1000 2)) ∧
 (((Qv (Sl 1002 1 1)) ∧
 (Qv (Option.some (AObj.cells [(vI x1)] 3 false 1)))) ∧
 ((Qv (vI x1)) ∧
 ((Qv (Pt 1000 1)) ∧
 ((Qv (vI x0)) ∧
 ((Qv (Pt 1000 0)) ∧
 True)))))))) ∧
 (∃ e2 : Int,
 ((Says limC 0 [(D.val (vI (0 : Int))), (D.val (vI (100 : Int))), (D.sl 1 1 [(vI x1)])] [(D.val (vI e2))]) ∧
 (((Qv (vI ((↑n2 : Int)))) ∧
 ((Qv (Sl 500 (n2) (c2))) ∧
 ((Qv (Pt 1000 2)) ∧
 ((Qv (vI x1)) ∧
 ((Qv (Pt 1000 1)) ∧
 ((Qv (vI x0)) ∧
 ((Qv (Pt 1000 0)) ∧
 True))))))) ∧
 (∃ n1 : Int,
 ((Says C 31 [(D.val (vI ((↑n2 : Int)))), (D.val (vI (1 : Int))), (D.val (vI (4 : Int)))] [(D.val (vI n1))]) ∧
 ((((Qv (Sl 1007 3 3)) ∧
 (Qv (Option.some (AObj.cells [(vI e1), (vI e2), (vI n1)] 32 false 1)))) ∧
 ((Qv (Sl 500 (n2) (c2))) ∧
 ((Qv (Pt 1000 2)) ∧
 ((Qv (vI x1)) ∧
 ((Qv (Pt 1000 1)) ∧
 ((Qv (vI x0)) ∧
 ((Qv (Pt 1000 0)) ∧
 True))))))) ∧
 (∃ n3 : Int,
 ((Says C 29 [(D.sl 3 1 [(vI e1), (vI e2), (vI n1)])] [(D.val (vI n3))]) ∧
 (((Qv (Sl 500 (n2) (c2))) ∧
 ((Qv (Pt 1000 2)) ∧
 ((Qv (vI x1)) ∧
 ((Qv (Pt 1000 1)) ∧
 ((Qv (vI x0)) ∧
 ((Qv (Pt 1000 0)) ∧
 True)))))) ∧
 (True ∧
 (bcase (n3 != 0)
 (k [(D.val (vI (0 : Int))), (D.val (vI n3))])
 (bcase (decide (0 + n2 * 3 ≤ List.length l2))
 (∃ n4 : Int,
 (∃ n5 : Int,
 ((Says C 97 [(D.sl (n2) 3 (List.take (n2 * 3) (List.drop 0 l2))), (D.val (Go.Value.func (Go.Fn.func 98) [].toArray [].toArray))] [(D.val (vI n4)), (D.val (vI n5))]) ∧
 (k [(D.val (vI n4)), (D.val (vI n5))]))))
 False)))))))))))))))))) := by kernel_rfl
def gWi (C : Ct) (L : AtLoop) (x0 : Int) (x1 : Int) (x2 : Int) (k : List D → Prop) : Prop := wpFn Tryz.prog (hA C) L 0 71 #[.int .i64 x0, .int .i64 x1, .int .i64 x2] (heapOf []) (dataK k)
theorem gWi_text (C : Ct) (L : AtLoop) (x0 : Int) (x1 : Int) (x2 : Int) (k : List D → Prop) : gWi C L x0 x1 x2 k =
 (bcase (decide (x1 ≤ x0))
 (bcase (decide (x0 ≤ x2))
 (k [(D.val (Value.bool true))])
 (k [(D.val (Value.bool false))]))
 (k [(D.val (Value.bool false))])) := by kernel_rfl
def gRT (C : Ct) (L : AtLoop) (x0 : Int) (x1 : Int) (n2 : Nat) (c2 : Nat) (l2 : List Value) (k : List D → Prop) : Prop := wpFn Tryz.prog (hA C) L 0 72 #[.agg #[.int .i64 x0, .int .i64 x1, .slice (some ⟨500, 0, none⟩) n2 c2]] (heapOf [(500, .sym l2 false 3)]) (dataK k)
theorem gRT_text (C : Ct) (L : AtLoop) (x0 : Int) (x1 : Int) (n2 : Nat) (c2 : Nat) (l2 : List Go.Value) (k : List D → Prop) : gRT C L x0 x1 n2 c2 l2 k =
 (((Says C 71 [(D.val (vI x0)), (D.val (vI (0 : Int))), (D.val (vI (12000 : Int)))] [(D.val (Value.bool true))]) ∧
 (((Says C 71 [(D.val (vI x1)), (D.val (vI (0 : Int))), (D.val (vI (100 : Int)))] [(D.val (Value.bool true))]) ∧
 (bcase ((↑n2 : Int) == 0)
 (k [(D.val (vI (0 : Int))), (D.val (vI (10 : Int)))])
 (bcase (decide ((↑n2 : Int) > 4))
 (k [(D.val (vI (0 : Int))), (D.val (vI (8 : Int)))])
 (L 0 [(Prod.mk 1 (Pt 1000 0)), (Prod.mk 4 (vI (0 : Int)))] [(Prod.mk 1000 (AObj.cells [(vI x0), (vI x1), (Sl 500 (n2) (c2))] 24 false 1)), (Prod.mk 500 (AObj.sym (l2) false 3))])))) ∨
 ((Says C 71 [(D.val (vI x1)), (D.val (vI (0 : Int))), (D.val (vI (100 : Int)))] [(D.val (Value.bool false))]) ∧
 (k [(D.val (vI (0 : Int))), (D.val (vI (2 : Int)))])))) ∨
 ((Says C 71 [(D.val (vI x0)), (D.val (vI (0 : Int))), (D.val (vI (12000 : Int)))] [(D.val (Value.bool false))]) ∧
 (k [(D.val (vI (0 : Int))), (D.val (vI (2 : Int)))]))) := by kernel_rfl
abbrev zRT1 (x0 : Int) (x1 : Int) (x2 : Int) (n3 : Nat) (c4 : Nat) (l5 : List Value) : Slots × Blocks := ([(1, (Value.pointer (some ⟨1000, 0, none⟩))), (4, (Value.int .i64 x0))], [(1000, (AObj.cells [(Value.int .i64 x1), (Value.int .i64 x2), (Value.slice (some ⟨500, 0, none⟩) n3 c4)] 24 false 1)), (500, (AObj.sym l5 false 3))])
def rRT1 (C : Ct) (L : AtLoop) (x0 : Int) (x1 : Int) (x2 : Int) (n3 : Nat) (c4 : Nat) (l5 : List Value) (B : Bx) (X : Xx) (k : List D → Prop) : Prop := wpRound Tryz.prog (hA C) L 72 0 [(1, (Value.pointer (some ⟨1000, 0, none⟩))), (4, (Value.int .i64 x0))] [(1000, (AObj.cells [(Value.int .i64 x1), (Value.int .i64 x2), (Value.slice (some ⟨500, 0, none⟩) n3 c4)] 24 false 1)), (500, (AObj.sym l5 false 3))] B X (dataK k)
theorem rRT1_text (C : Ct) (L : AtLoop) (x0 : Int) (x1 : Int) (x2 : Int) (n3 : Nat) (c4 : Nat) (l5 : List Go.Value) (B : Bx) (X : Xx) (k : List D → Prop) : rRT1 C L x0 x1 x2 n3 c4 l5 B X k =
 (bcase (decide (x0 < (↑n3 : Int)))
 (bcase (decide (0 ≤ x0))
 (bcase (decide (x0 < (↑n3 : Int)))
 (∃ n1 : Int,
 (∃ n2 : Int,
 (∃ n4 : Int,
 ((At (l5) (0 + Int.toNat x0 * 3) 3 [(vI n1), (vI n2), (vI n4)]) ∧
 (((Says C 71 [(D.val (vI n1)), (D.val (vI (0 : Int))), (D.val (vI (1000 : Int)))] [(D.val (Value.bool true))]) ∧
 (((Says C 71 [(D.val (vI n2)), (D.val (vI (0 : Int))), (D.val (vI (1000 : Int)))] [(D.val (Value.bool true))]) ∧
 (((Says C 71 [(D.val (vI n4)), (D.val (vI (0 : Int))), (D.val (vI (8 : Int)))] [(D.val (Value.bool true))]) ∧
 (bcase (decide (n1 > n2))
 (k [(D.val (vI x0)), (D.val (vI (9 : Int)))])
 (B [(Prod.mk 1 (Pt 1000 0)), (Prod.mk 4 (vI (IntKind.wrap .i64 (x0 + 1))))] [(Prod.mk 1000 (AObj.cells [(vI x1), (vI x2), (Sl 500 (n3) (c4))] 24 false 1)), (Prod.mk 500 (AObj.sym (l5) false 3))]))) ∨
 ((Says C 71 [(D.val (vI n4)), (D.val (vI (0 : Int))), (D.val (vI (8 : Int)))] [(D.val (Value.bool false))]) ∧
 (k [(D.val (vI x0)), (D.val (vI (2 : Int)))])))) ∨
 ((Says C 71 [(D.val (vI n2)), (D.val (vI (0 : Int))), (D.val (vI (1000 : Int)))] [(D.val (Value.bool false))]) ∧
 (k [(D.val (vI x0)), (D.val (vI (2 : Int)))])))) ∨
 ((Says C 71 [(D.val (vI n1)), (D.val (vI (0 : Int))), (D.val (vI (1000 : Int)))] [(D.val (Value.bool false))]) ∧
 (k [(D.val (vI x0)), (D.val (vI (2 : Int)))])))))))
 False)
 False)
 (X 0 [] [])) := by kernel_rfl
def nRT2 (C : Ct) (L : AtLoop) (k : List D → Prop) : Prop := wpNext Tryz.prog (hA C) L 72 0 .normal [] [] (dataK k)
theorem nRT2_text (C : Ct) (L : AtLoop) (k : List D → Prop) : nRT2 C L k =
 (k [(D.val (vI (0 : Int))), (D.val (vI (0 : Int)))]) := by kernel_rfl
def gRTn (C : Ct) (L : AtLoop) (x0 : Int) (x1 : Int) (k : List D → Prop) : Prop := wpFn Tryz.prog (hA C) L 0 72 #[.agg #[.int .i64 x0, .int .i64 x1, .slice none 0 0]] (heapOf []) (dataK k)
theorem gRTn_text (C : Ct) (L : AtLoop) (x0 : Int) (x1 : Int) (k : List D → Prop) : gRTn C L x0 x1 k =
 (((Says C 71 [(D.val (vI x0)), (D.val (vI (0 : Int))), (D.val (vI (12000 : Int)))] [(D.val (Value.bool true))]) ∧
 (((Says C 71 [(D.val (vI x1)), (D.val (vI (0 : Int))), (D.val (vI (100 : Int)))] [(D.val (Value.bool true))]) ∧
 (k [(D.val (vI (0 : Int))), (D.val (vI (10 : Int)))])) ∨
 ((Says C 71 [(D.val (vI x1)), (D.val (vI (0 : Int))), (D.val (vI (100 : Int)))] [(D.val (Value.bool false))]) ∧
 (k [(D.val (vI (0 : Int))), (D.val (vI (2 : Int)))])))) ∨
 ((Says C 71 [(D.val (vI x0)), (D.val (vI (0 : Int))), (D.val (vI (12000 : Int)))] [(D.val (Value.bool false))]) ∧
 (k [(D.val (vI (0 : Int))), (D.val (vI (2 : Int)))]))) := by kernel_rfl
def gTE (C : Ct) (L : AtLoop) (x0 : Int) (x1 : Int) (n2 : Nat) (c2 : Nat) (l2 : List Value) (k : List D → Prop) : Prop := wpFn Tryz.prog (hA C) L 0 39 #[.agg #[.int .i64 x0, .int .i64 x1, .slice (some ⟨500, 0, none⟩) n2 c2]] (heapOf [(500, .sym l2 false 3)]) (dataK k)
theorem gTE_text (C : Ct) (L : AtLoop) (x0 : Int) (x1 : Int) (n2 : Nat) (c2 : Nat) (l2 : List Go.Value) (k : List D → Prop) : gTE C L x0 x1 n2 c2 l2 k =
 (bcase (decide (0 + n2 * 3 ≤ List.length l2))
 (∃ n1 : Int,
 (∃ n3 : Int,
 ((Says C 72 [(D.agg [(D.val (vI x0)), (D.val (vI x1)), (D.sl (n2) 3 (List.take (n2 * 3) (List.drop 0 l2)))])] [(D.val (vI n1)), (D.val (vI n3))]) ∧
 (k [(D.val (vI n3))]))))
 False) := by kernel_rfl
def gTEn (C : Ct) (L : AtLoop) (x0 : Int) (x1 : Int) (k : List D → Prop) : Prop := wpFn Tryz.prog (hA C) L 0 39 #[.agg #[.int .i64 x0, .int .i64 x1, .slice none 0 0]] (heapOf []) (dataK k)
theorem gTEn_text (C : Ct) (L : AtLoop) (x0 : Int) (x1 : Int) (k : List D → Prop) : gTEn C L x0 x1 k =
 (∃ n1 : Int,
 (∃ n2 : Int,
 ((Says C 72 [(D.agg [(D.val (vI x0)), (D.val (vI x1)), D.nil])] [(D.val (vI n1)), (D.val (vI n2))]) ∧
 (k [(D.val (vI n2))])))) := by kernel_rfl
def gCn (C : Ct) (L : AtLoop) (x0 : Int) (x1 : Int) (n2 : Nat) (c2 : Nat) (l2 : List Value) (k : List D → Prop) : Prop := wpFn Tryz.prog (hA C) L 0 95 #[.agg #[.int .i64 x0, .int .i64 x1, .slice (some ⟨500, 0, none⟩) n2 c2]] (heapOf [(500, .sym l2 false 3)]) (dataK k)
theorem gCn_text (C : Ct) (L : AtLoop) (x0 : Int) (x1 : Int) (n2 : Nat) (c2 : Nat) (l2 : List Go.Value) (k : List D → Prop) : gCn C L x0 x1 n2 c2 l2 k =
 (k [(D.val (vI (IntKind.wrap .i64 (1 * 2 ^ Min.min (Int.toNat (↑n2 : Int)) 64))))]) := by kernel_rfl
def gSE (C : Ct) (L : AtLoop) (x0 : Int) (x1 : Int) (n2 : Nat) (c2 : Nat) (l2 : List Value) (x3 : Int) (k : List D → Prop) : Prop := wpFn Tryz.prog (hA C) L 0 73 #[.agg #[.int .i64 x0, .int .i64 x1, .slice (some ⟨500, 0, none⟩) n2 c2], .int .i64 x3] (heapOf [(500, .sym l2 false 3)]) (dataK k)
theorem gSE_text (C : Ct) (L : AtLoop) (x0 : Int) (x1 : Int) (n2 : Nat) (c2 : Nat) (l2 : List Go.Value) (x3 : Int) (k : List D → Prop) : gSE C L x0 x1 n2 c2 l2 x3 k =
 (bcase (decide (0 + n2 * 3 ≤ List.length l2))
 (∃ n1 : Int,
 ((Says C 95 [(D.agg [(D.val (vI x0)), (D.val (vI x1)), (D.sl (n2) 3 (List.take (n2 * 3) (List.drop 0 l2)))])] [(D.val (vI n1))]) ∧
 (((Says C 71 [(D.val (vI x3)), (D.val (vI (0 : Int))), (D.val (vI (IntKind.wrap .i64 (n1 - 1))))] [(D.val (Value.bool true))]) ∧
 (k [(D.val (vI (0 : Int)))])) ∨
 ((Says C 71 [(D.val (vI x3)), (D.val (vI (0 : Int))), (D.val (vI (IntKind.wrap .i64 (n1 - 1))))] [(D.val (Value.bool false))]) ∧
 (k [(D.val (vI (2 : Int)))])))))
 False) := by kernel_rfl
def gDE (C : Ct) (L : AtLoop) (x0 : Int) (x1 : Int) (k : List D → Prop) : Prop := wpFn Tryz.prog (hA C) L 0 38 #[.agg #[.int .i64 x0, .int .i64 x1]] (heapOf []) (dataK k)
theorem gDE_text (C : Ct) (L : AtLoop) (x0 : Int) (x1 : Int) (k : List D → Prop) : gDE C L x0 x1 k =
 (((Says C 71 [(D.val (vI x0)), (D.val (vI (0 : Int))), (D.val (vI (12000 : Int)))] [(D.val (Value.bool true))]) ∧
 (((Says C 71 [(D.val (vI x1)), (D.val (vI (0 : Int))), (D.val (vI (12000 : Int)))] [(D.val (Value.bool true))]) ∧
 (bcase (decide (x0 > x1))
 (k [(D.val (vI (9 : Int)))])
 (k [(D.val (vI (0 : Int)))]))) ∨
 ((Says C 71 [(D.val (vI x1)), (D.val (vI (0 : Int))), (D.val (vI (12000 : Int)))] [(D.val (Value.bool false))]) ∧
 (k [(D.val (vI (2 : Int)))])))) ∨
 ((Says C 71 [(D.val (vI x0)), (D.val (vI (0 : Int))), (D.val (vI (12000 : Int)))] [(D.val (Value.bool false))]) ∧
 (k [(D.val (vI (2 : Int)))]))) := by kernel_rfl
def gcS (C : Ct) (L : AtLoop) (x0 : Int) (x1 : Int) (n2 : Nat) (c2 : Nat) (l2 : List Value) (x3 : Int) (k : List D → Prop) : Prop := wpFn Tryz.prog (hA C) L 0 45 #[.agg #[.int .i64 x0, .int .i64 x1, .slice (some ⟨500, 0, none⟩) n2 c2], .int .i64 x3] (heapOf [(500, .sym l2 false 3)]) (dataK k)
theorem gcS_text (C : Ct) (L : AtLoop) (x0 : Int) (x1 : Int) (n2 : Nat) (c2 : Nat) (l2 : List Go.Value) (x3 : Int) (k : List D → Prop) : gcS C L x0 x1 n2 c2 l2 x3 k =
 (∃ e1 : Int,
 ((Says limC 0 [(D.val (vI (0 : Int))), (D.val (vI (IntKind.wrap .i64 (IntKind.wrap .i64 (1 * 2 ^ Min.min (Int.toNat (↑n2 : Int)) 64) - 1)))), (D.sl 1 1 [(vI x3)])] [(D.val (vI e1))]) ∧
 (k [(D.val (vI e1))]))) := by kernel_rfl
def gcSn (C : Ct) (L : AtLoop) (x0 : Int) (x1 : Int) (x3 : Int) (k : List D → Prop) : Prop := wpFn Tryz.prog (hA C) L 0 45 #[.agg #[.int .i64 x0, .int .i64 x1, .slice none 0 0], .int .i64 x3] (heapOf []) (dataK k)
theorem gcSn_text (C : Ct) (L : AtLoop) (x0 : Int) (x1 : Int) (x3 : Int) (k : List D → Prop) : gcSn C L x0 x1 x3 k =
 (∃ e1 : Int,
 ((Says limC 0 [(D.val (vI (0 : Int))), (D.val (vI (0 : Int))), (D.sl 1 1 [(vI x3)])] [(D.val (vI e1))]) ∧
 (k [(D.val (vI e1))]))) := by kernel_rfl
def gcE2 (C : Ct) (c0 : Nat) (y0_0 : Int) (y0_1 : Int) (y0_2 : Int) (y0_3 : Int) (k : List D → Prop) : Prop := wpFn Tryz.prog (hA C) (fun _ _ _ => False) 8 32 #[.slice (some ⟨500, 0, none⟩) 2 c0] (heapOf [(500, .sym [.int .i64 y0_0, .int .i64 y0_1, .int .i64 y0_2, .int .i64 y0_3] false 2)]) (dataK k)
theorem gcE2_text (C : Ct) (c0 : Nat) (y0_0 : Int) (y0_1 : Int) (y0_2 : Int) (y0_3 : Int) (k : List D → Prop) : gcE2 C c0 y0_0 y0_1 y0_2 y0_3 k =
 (∃ n1 : Int,
 (∃ n2 : Int,
 ((At [(vI y0_0), (vI y0_1), (vI y0_2), (vI y0_3)] 0 2 [(vI n1), (vI n2)]) ∧
 (∃ n3 : Int,
 ((Says C 66 [(D.agg [(D.val (vI n1)), (D.val (vI n2))])] [(D.val (vI n3))]) ∧
 (bcase (n3 != 0)
 (k [(D.val (vI n3))])
 (∃ n4 : Int,
 (∃ n5 : Int,
 ((At [(vI y0_0), (vI y0_1), (vI y0_2), (vI y0_3)] 2 2 [(vI n4), (vI n5)]) ∧
 (∃ n6 : Int,
 ((Says C 66 [(D.agg [(D.val (vI n4)), (D.val (vI n5))])] [(D.val (vI n6))]) ∧
 (bcase (n6 != 0)
 (k [(D.val (vI n6))])
 (k [(D.val (vI (0 : Int)))]))))))))))))) := by kernel_rfl
def gCI (C : Ct) (L : AtLoop) (n0 : Nat) (c0 : Nat) (l0 : List Value) (k : List D → Prop) : Prop := wpFn Tryz.prog (hE C) L 0 11 #[.slice (some ⟨500, 0, none⟩) n0 c0] (heapOf [(500, .sym l0 false 1)]) (dataK k)
theorem gCI_text (C : Ct) (L : AtLoop) (n0 : Nat) (c0 : Nat) (l0 : List Go.Value) (k : List D → Prop) : gCI C L n0 c0 l0 k =
 (bcase (decide (0 + n0 * 1 ≤ List.length l0))
 (bcase (n0 == 0)
 (((0 = 0) ∧
 (0 = 0)) ∧
 (k [(D.sl 0 1 [])]))
 (bcase (decide (0 < 0 + n0))
 (bcase (decide ((2 * (0 + n0) + 768) * 8 ≤ 281474976710656))
 (bcase (decide (0 + n0 ≤ 1099511627776))
 (((Qv (0 + n0)) ∧
 ((List.length (List.take 0 (List.drop 0 []) ++ List.take (n0 * 1) (List.drop 0 l0))) = ((0 + n0) * 1))) ∧
 (k [(D.sl (0 + n0) 1 ([] ++ (List.take (n0 * 1) (List.drop 0 l0))))]))
 False)
 False)
 False))
 False) := by kernel_rfl
def gCIn (C : Ct) (L : AtLoop) (k : List D → Prop) : Prop := wpFn Tryz.prog (hE C) L 0 11 #[.slice none 0 0] (heapOf []) (dataK k)
theorem gCIn_text (C : Ct) (L : AtLoop) (k : List D → Prop) : gCIn C L k =
 (((0 = 0) ∧
 (0 = 0)) ∧
 (k [(D.sl 0 1 [])])) := by kernel_rfl
def gCR (C : Ct) (L : AtLoop) (n0 : Nat) (c0 : Nat) (l0 : List Value) (k : List D → Prop) : Prop := wpFn Tryz.prog (hE C) L 0 33 #[.slice (some ⟨500, 0, none⟩) n0 c0] (heapOf [(500, .sym l0 false 2)]) (dataK k)
theorem gCR_text (C : Ct) (L : AtLoop) (n0 : Nat) (c0 : Nat) (l0 : List Go.Value) (k : List D → Prop) : gCR C L n0 c0 l0 k =
 (bcase (decide (0 + n0 * 2 ≤ List.length l0))
 (bcase (n0 == 0)
 (((0 = 0) ∧
 (0 = 0)) ∧
 (k [(D.sl 0 2 [])]))
 (bcase (decide (0 < 0 + n0))
 (bcase (decide ((2 * (0 + n0) + 768) * 16 ≤ 281474976710656))
 (bcase (decide (0 + n0 ≤ 1099511627776))
 (((Qv (0 + n0)) ∧
 ((List.length (List.take 0 (List.drop 0 []) ++ List.take (n0 * 2) (List.drop 0 l0))) = ((0 + n0) * 2))) ∧
 (k [(D.sl (0 + n0) 2 ([] ++ (List.take (n0 * 2) (List.drop 0 l0))))]))
 False)
 False)
 False))
 False) := by kernel_rfl
def gCRn (C : Ct) (L : AtLoop) (k : List D → Prop) : Prop := wpFn Tryz.prog (hE C) L 0 33 #[.slice none 0 0] (heapOf []) (dataK k)
theorem gCRn_text (C : Ct) (L : AtLoop) (k : List D → Prop) : gCRn C L k =
 (((0 = 0) ∧
 (0 = 0)) ∧
 (k [(D.sl 0 2 [])])) := by kernel_rfl
def gCy (C : Ct) (L : AtLoop) (x0 : Int) (x1 : Int) (n2 : Nat) (c2 : Nat) (l2 : List Value) (k : List D → Prop) : Prop := wpFn Tryz.prog (hE C) L 0 10 #[.agg #[.int .i64 x0, .int .i64 x1, .slice (some ⟨500, 0, none⟩) n2 c2]] (heapOf [(500, .sym l2 false 3)]) (dataK k)
theorem gCy_text (C : Ct) (L : AtLoop) (x0 : Int) (x1 : Int) (n2 : Nat) (c2 : Nat) (l2 : List Go.Value) (k : List D → Prop) : gCy C L x0 x1 n2 c2 l2 k =
 (bcase (decide (0 + n2 * 3 ≤ List.length l2))
 (bcase (n2 == 0)
 (((0 = 0) ∧
 (0 = 0)) ∧
 (k [(D.agg [(D.val (vI x0)), (D.val (vI x1)), (D.sl 0 3 [])])]))
 (bcase (decide (0 < 0 + n2))
 (bcase (decide ((2 * (0 + n2) + 768) * 24 ≤ 281474976710656))
 (bcase (decide (0 + n2 ≤ 1099511627776))
 (((Qv (0 + n2)) ∧
 ((List.length (List.take 0 (List.drop 0 []) ++ List.take (n2 * 3) (List.drop 0 l2))) = ((0 + n2) * 3))) ∧
 (k [(D.agg [(D.val (vI x0)), (D.val (vI x1)), (D.sl (0 + n2) 3 ([] ++ (List.take (n2 * 3) (List.drop 0 l2))))])]))
 False)
 False)
 False))
 False) := by kernel_rfl
def gCyn (C : Ct) (L : AtLoop) (x0 : Int) (x1 : Int) (k : List D → Prop) : Prop := wpFn Tryz.prog (hE C) L 0 10 #[.agg #[.int .i64 x0, .int .i64 x1, .slice none 0 0]] (heapOf []) (dataK k)
theorem gCyn_text (C : Ct) (L : AtLoop) (x0 : Int) (x1 : Int) (k : List D → Prop) : gCyn C L x0 x1 k =
 (((0 = 0) ∧
 (0 = 0)) ∧
 (k [(D.agg [(D.val (vI x0)), (D.val (vI x1)), (D.sl 0 3 [])])])) := by kernel_rfl
def gIn (C : Ct) (L : AtLoop) (x0 : Int) (x1 : Int) (k : List D → Prop) : Prop := wpFn Tryz.prog (hA C) L 0 96 #[.int .i64 x0, .int .i64 x1] (heapOf []) (dataK k)
theorem gIn_text (C : Ct) (L : AtLoop) (x0 : Int) (x1 : Int) (k : List D → Prop) : gIn C L x0 x1 k =
 (bcase (decide (0 ≤ x1))
 (bcase (Int.tmod (Int.fdiv x0 (2 ^ Min.min (Int.toNat x1) 64)) 2 == 1)
 (k [(D.val (Value.bool true))])
 (k [(D.val (Value.bool false))]))
 False) := by kernel_rfl
def gHa (C : Ct) (L : AtLoop) (x0 : Int) (x1 : Int) (k : List D → Prop) : Prop := wpFn Tryz.prog (hA C) L 0 57 #[.int .i64 x0, .int .i64 x1] (heapOf []) (dataK k)
theorem gHa_text (C : Ct) (L : AtLoop) (x0 : Int) (x1 : Int) (k : List D → Prop) : gHa C L x0 x1 k =
 (bcase (decide (0 ≤ x1))
 (bcase (IntKind.wrap .i64 (↑(BitVec.toNat (BitVec.ofInt 64 (Int.fdiv x0 (2 ^ Min.min (Int.toNat x1) 64)) &&& BitVec.ofInt 64 1)) : Int) == 1)
 (k [(D.val (Value.bool true))])
 (k [(D.val (Value.bool false))]))
 False) := by kernel_rfl
end Go.Proofs.G5d

/-
  DERIVED: THE SHELF's CONTRACTS AT THIS DUMP, IN PLAIN WORDS (tools/lay-plain.mjs out of 'TryzShelf.lean', which tools/lay-shelf.mjs wrote): THE SAME DECLARATIONS UNDER THE SAME NAMES: 'import', 'namespace', 'open', 'def', 'theorem' AND NOTHING ELSE: no command of the shelf's: FOR A HAND-IN. Each laying: the table of numbers ('.._ren') and one theorem, a field a fact of the dump's own or the kernel's comparison; each contract: ONE APPLICATION.
-/
namespace Go.Proofs
open Go.Shelf
def Tryz.lays156_ren : Go.Shelf.Ren := ⟨fun | 156 => 64 | 165 => 90 | 166 => 91 | 169 => 92 | 240 => 108 | 241 => 109 | 276 => 115 | 277 => 116 | n => n, fun | 31 => 116 | 9 => 9 | 3 => 3 | 4 => 4 | 0 => 0 | 20 => 20 | 72 => 145 | 76 => 149 | 70 => 142 | 37 => 143 | 75 => 148 | 127 => 159 | 164 => 163 | 5 => 5 | 80 => 151 | n => n, fun | n => n⟩
theorem Tryz.lays156 : Go.Proofs.Lays.n156 Tryz.prog Tryz.lays156_ren := {
  mixed := by kernel_rfl
  f156 := Tryz.func64.trans (congrArg some (by kernel_rfl))
  f165 := Tryz.func90.trans (congrArg some (by kernel_rfl))
  f166 := Tryz.func91.trans (congrArg some (by kernel_rfl))
  f169 := Tryz.func92.trans (congrArg some (by kernel_rfl))
  f240 := Tryz.func108.trans (congrArg some (by kernel_rfl))
  f241 := Tryz.func109.trans (congrArg some (by kernel_rfl))
  f276 := Tryz.func115.trans (congrArg some (by kernel_rfl))
  f277 := Tryz.func116.trans (congrArg some (by kernel_rfl))
  t0 := Tryz.underlying0
  a0 := Tryz.isAgg0
  z0 := Tryz.sizeOf0
  v0 := Tryz.zeroValue0
  t3 := Tryz.underlying3
  a3 := Tryz.isAgg3
  z3 := Tryz.sizeOf3
  v3 := Tryz.zeroValue3
  t4 := Tryz.underlying4
  a4 := Tryz.isAgg4
  z4 := Tryz.sizeOf4
  v4 := Tryz.zeroValue4
  t9 := Tryz.underlying9
  a9 := Tryz.isAgg9
  z9 := Tryz.sizeOf9
  v9 := Tryz.zeroValue9
  t20 := Tryz.underlying20
  a20 := Tryz.isAgg20
  z20 := Tryz.sizeOf20
  v20 := Tryz.zeroValue20
  t31 := Tryz.underlying116
  a31 := Tryz.isAgg116
  z31 := Tryz.sizeOf116
  v31 := Tryz.zeroValue116
  t37 := Tryz.underlying143
  a37 := Tryz.isAgg143
  z37 := Tryz.sizeOf143
  v37 := Tryz.zeroValue143
  t70 := Tryz.underlying142
  a70 := Tryz.isAgg142
  z70 := Tryz.sizeOf142
  v70 := Tryz.zeroValue142
  t72 := Tryz.underlying145
  a72 := Tryz.isAgg145
  z72 := Tryz.sizeOf145
  v72 := Tryz.zeroValue145
  t75 := Tryz.underlying148
  a75 := Tryz.isAgg148
  z75 := Tryz.sizeOf148
  v75 := Tryz.zeroValue148
  t76 := Tryz.underlying149
  a76 := Tryz.isAgg149
  z76 := Tryz.sizeOf149
  v76 := Tryz.zeroValue149
  t127 := Tryz.underlying159
  a127 := Tryz.isAgg159
  z127 := Tryz.sizeOf159
  v127 := Tryz.zeroValue159
  t164 := Tryz.underlying163
  a164 := Tryz.isAgg163
  z164 := Tryz.sizeOf163
  v164 := Tryz.zeroValue163 }
theorem Tryz.Builder_Extra_156 : Builder.Extra Tryz.prog Tryz.lays156_ren := {
  sizeBuilder := by kernel_rfl
  liesBuilder := by kernel_rfl
  t5 := Tryz.underlying5
  a5 := Tryz.isAgg5
  z5 := Tryz.sizeOf5
  v5 := Tryz.zeroValue5
  infoByte := by kernel_rfl
  cellsByte := by kernel_rfl
  sizeByte := by kernel_rfl
  neB5 := by decide }
open Go.RowKit in
/-- No element: the empty string; the world is as it was. (Whatever the slice's address and capacity: a nil slice too.) (LAID: no walk: one application.) -/
theorem Tryz.strings_Join_none (a : Option Addr) (c : Nat) (sep : ByteArray) (w : World) :
    Calls Tryz.prog 64 #[.slice a 0 c, .string sep] w fun e w' => e = .returned (.string ⟨#[]⟩) ∧ w' = w := Any.strings_Join_none Tryz.lays156 Tryz.Builder_Extra_156 a c sep w
open Go.RowKit in
/-- strings.Join: "Join concatenates the elements of its first argument to create a single string. The separator string sep is placed between elements in the resulting string.": HOWEVER MANY ELEMENTS. Below the heap's end the world is as it was. (LAID: no walk: one application.) -/
theorem Tryz.strings_Join (bk o c : Nat) (xs : List ByteArray) (sep : ByteArray) (w : World) (hcells : ∀ (j : Nat) x, xs[j]? = some x → w.cell? ⟨bk, o + j, none⟩ = some (.string x)) (hbk : bk < w.heap.size) (hN : xs.length ≤ 140737488355328) (hcap : xs.length ≤ c) (hlen : (Lib.join (xs.map (·.data.toList)) sep.data.toList).length ≤ 140737488355328) :
    Calls Tryz.prog 64 #[.slice (some ⟨bk, o, none⟩) xs.length c, .string sep] w fun e w' => e = .returned (.string ⟨(Lib.join (xs.map (·.data.toList)) sep.data.toList).toArray⟩) ∧ Below w.heap.size w w' := Any.strings_Join Tryz.lays156 Tryz.Builder_Extra_156 bk o c xs sep w hcells hbk hN hcap hlen
end Go.Proofs

/- A call that gives back what it was handed: it holds. -/
namespace Go.Abs
open Go.RowKit
variable {P : Program} {H : Heap}
theorem layC_out : ∀ (ds : List D) {H : Heap} {k : List Value → Heap → Prop}, layC ds H k → ∃ vs H', LaidC H ds vs H' ∧ k vs H'
  | [], H, k, h => ⟨_, _, .nil H, h⟩
  | .nil :: r, H, k, h => by
    obtain ⟨vs, H', h1, h2⟩ := layC_out r h
    exact ⟨_, _, .nilS h1, h2⟩
  | .sl n es cs :: r, H, k, h => by
    obtain ⟨vs, H', h1, h2⟩ := layC_out r h
    exact ⟨_, _, .sl n es cs h1, h2⟩
  | .val v :: r, H, k, h => by
    unfold layC at h
    split at h
    · cases h
    · rename_i hv
      obtain ⟨vs, H', h1, h2⟩ := layC_out r h
      exact ⟨_, _, .val _ (fun cs e => hv cs e) h1, h2⟩
  | .agg _ :: _, H, k, h => by cases h
theorem layV_out : ∀ (ds : List D) {H : Heap} {k : List Value → Heap → Prop}, layV ds H k → ∃ vs H', LaidV H ds vs H' ∧ k vs H'
  | [], H, k, h => ⟨_, _, .nil H, h⟩
  | d :: r, H, k, h => by
    unfold layV at h
    split at h
    · rename_i e; cases e
    · rename_i e; cases e
      obtain ⟨vs, H1, h1, h⟩ := layC_out _ h
      obtain ⟨us, H2, h2, h3⟩ := layV_out _ h
      exact ⟨_, _, .agg h1 h2, h3⟩
    · rename_i e; cases e
      obtain ⟨vs, H1, h1, h⟩ := layC_out _ h
      split at h
      · obtain ⟨us, H2, h2, h3⟩ := layV_out _ h
        exact ⟨_, _, .one h1 h2, h3⟩
      · cases h
theorem wpFix_call {C : FuncId → List D → List D → Prop} (hC : ∀ f ds rs, C f ds rs → Con P f ds rs) {f : FuncId} {fix : List D → Option (List D)} {args : Array Value} {k : Value → Heap → Prop} (hk : wpFix C f fix args H k) : CallH P f args H k := by
  intro w0 ρ w args' n g ha
  obtain ⟨ds, hr, hk⟩ := readVals_out g _ ha hk
  split at hk
  · rename_i rs _
    obtain ⟨hs, hk⟩ := hk
    obtain ⟨vs, H', hl, hk⟩ := layV_out rs hk
    refine callsIn_wide.2 ((hC f ds rs hs.out w args' hr).mono ?_)
    rintro e w' ⟨⟨vs', u, rfl, hg⟩, hb⟩
    obtain ⟨ρ', g', l', e', _⟩ := laidV_sound hl (g.grow hb) g.below.size (fun i m hm => .inl (g.own i m hm).1) hg
    exact ⟨_, H', ρ', _, hk, rfl, tupleOf_R l', g', e'⟩
  · exact hk.elim
end Go.Abs

/- The evaluator with a table: calls whose outcome on some data is known are not entered. -/
namespace Go.Abs
open Go.RowKit
variable {P : Program} {ρ : Ren} {w0 : Start} {w : World} {H : Heap}

/-! ### Data of values, computed -/
def readCO (H : Heap) : List Value → Option (List D)
  | [] => some []
  | v :: r =>
    match v with
    | .slice none 0 0 => (readCO H r).map (.nil :: ·)
    | .slice (some ⟨i, o, none⟩) len _ =>
      match H.get i with
      | some (.sym cs _ es) => if o + len * es ≤ cs.length then (readCO H r).map (.sl len es ((cs.drop o).take (len * es)) :: ·) else none
      | some (.cells cs _ _ es) => if o + len * es ≤ cs.length then (if ((cs.drop o).take (len * es)).all cellP then (readCO H r).map (.sl len es ((cs.drop o).take (len * es)) :: ·) else none) else none
      | _ => none
    | v => if plain 8 v then (readCO H r).map (.val v :: ·) else none
def readVO (H : Heap) : List Value → Option (List D)
  | [] => some []
  | .agg cs :: r => (readCO H cs.toList).bind fun ds => (readVO H r).map (.agg ds :: ·)
  | v :: r => (readCO H [v]).bind fun ds => (readVO H r).map (ds ++ ·)
theorem readCO_ok : ∀ {l : List Value} {ds : List D}, readCO H l = some ds → ∀ k : List D → Prop, k ds → readCells H l k
  | [], ds, h, k, hk => by
    simp only [readCO, Option.some.injEq] at h; subst h; exact hk
  | v :: r, ds, h, k, hk => by
    unfold readCO at h
    unfold readCells
    split at h
    · obtain ⟨x, hx, rfl⟩ := Option.map_eq_some_iff.1 h
      exact readCO_ok hx _ hk
    · simp only
      split at h
      · rename_i hg
        simp only [hg]
        split at h
        · rename_i hle
          obtain ⟨x, hx, rfl⟩ := Option.map_eq_some_iff.1 h
          exact bcase_intro (fun _ => readCO_ok hx _ hk) (fun hf => absurd hle (of_decide_eq_false hf))
        · cases h
      · rename_i hg
        simp only [hg]
        split at h
        · rename_i hle
          split at h
          · rename_i hall
            obtain ⟨x, hx, rfl⟩ := Option.map_eq_some_iff.1 h
            exact bcase_intro (fun _ => bcase_intro (fun _ => readCO_ok hx _ hk) (fun hf => by rw [hall] at hf; cases hf)) (fun hf => absurd hle (of_decide_eq_false hf))
          · cases h
        · cases h
      · cases h
    · rename_i h1 h2
      split
      · exact absurd rfl h1
      · exact absurd rfl (h2 _ _ _ _)
      · split at h
        · rename_i hp
          obtain ⟨x, hx, rfl⟩ := Option.map_eq_some_iff.1 h
          rw [if_pos hp]
          exact readCO_ok hx _ hk
        · cases h
theorem readVO_ok : ∀ {l : List Value} {ds : List D}, readVO H l = some ds → ∀ k : List D → Prop, k ds → readVals H l k
  | [], ds, h, k, hk => by
    simp only [readVO, Option.some.injEq] at h; subst h; exact hk
  | v :: r, ds, h, k, hk => by
    unfold readVO at h
    unfold readVals
    split at h
    · rename_i e; cases e
    · rename_i e; cases e
      obtain ⟨x, hx, h⟩ := Option.bind_eq_some_iff.1 h
      obtain ⟨y, hy, rfl⟩ := Option.map_eq_some_iff.1 h
      exact readCO_ok hx _ (readVO_ok hy _ hk)
    · rename_i h1 e; cases e
      obtain ⟨x, hx, h⟩ := Option.bind_eq_some_iff.1 h
      obtain ⟨y, hy, rfl⟩ := Option.map_eq_some_iff.1 h
      split
      · rename_i e; cases e
      · rename_i e; cases e; exact absurd rfl (h1 _)
      · rename_i e; cases e
        exact readCO_ok hx _ (readVO_ok hy _ hk)

/-! ### Data laid, computed -/
def layCO : List D → Heap → Option (List Value × Heap)
  | [], H => some ([], H)
  | .nil :: r, H => (layCO r H).map fun x => (.slice none 0 0 :: x.1, x.2)
  | .sl n es cs :: r, H => (layCO r (H.new (.sym cs true es))).map fun x => (.slice (some ⟨H.next, 0, none⟩) n n :: x.1, x.2)
  | .val v :: r, H => match v with
    | .agg _ => none
    | v => (layCO r H).map fun x => (v :: x.1, x.2)
  | .agg _ :: _, _ => none
def layVO : List D → Heap → Option (List Value × Heap)
  | [], H => some ([], H)
  | .agg ds :: r, H => (layCO ds H).bind fun x => (layVO r x.2).map fun y => (.agg x.1.toArray :: y.1, y.2)
  | d :: r, H => (layCO [d] H).bind fun x => match x.1 with
    | [v] => (layVO r x.2).map fun y => (v :: y.1, y.2)
    | _ => none
theorem layCO_ok : ∀ {ds : List D} {H : Heap} {x : List Value × Heap}, layCO ds H = some x → ∀ k : List Value → Heap → Prop, k x.1 x.2 → layC ds H k
  | [], H, x, h, k, hk => by
    simp only [layCO, Option.some.injEq] at h; subst h; exact hk
  | .nil :: r, H, x, h, k, hk => by
    obtain ⟨y, hy, rfl⟩ := Option.map_eq_some_iff.1 h
    exact layCO_ok hy _ hk
  | .sl n es cs :: r, H, x, h, k, hk => by
    obtain ⟨y, hy, rfl⟩ := Option.map_eq_some_iff.1 h
    exact layCO_ok hy _ hk
  | .val v :: r, H, x, h, k, hk => by
    unfold layCO at h
    unfold layC
    split at h
    · cases h
    · rename_i hv
      split
      · exact absurd rfl (hv _)
      · obtain ⟨y, hy, rfl⟩ := Option.map_eq_some_iff.1 h
        exact layCO_ok hy _ hk
  | .agg _ :: _, H, x, h, k, hk => by cases h
theorem layVO_ok : ∀ {ds : List D} {H : Heap} {x : List Value × Heap}, layVO ds H = some x → ∀ k : List Value → Heap → Prop, k x.1 x.2 → layV ds H k
  | [], H, x, h, k, hk => by
    simp only [layVO, Option.some.injEq] at h; subst h; exact hk
  | d :: r, H, x, h, k, hk => by
    unfold layVO at h
    unfold layV
    split at h
    · rename_i e; cases e
    · rename_i e; cases e
      obtain ⟨y, hy, h⟩ := Option.bind_eq_some_iff.1 h
      obtain ⟨z, hz, rfl⟩ := Option.map_eq_some_iff.1 h
      exact layCO_ok hy _ (layVO_ok hz _ hk)
    · rename_i h1 e; cases e
      obtain ⟨y, hy, h⟩ := Option.bind_eq_some_iff.1 h
      split at h
      · rename_i he
        obtain ⟨z, hz, rfl⟩ := Option.map_eq_some_iff.1 h
        split
        · rename_i e; cases e
        · rename_i e; cases e; exact absurd rfl (h1 _)
        · rename_i e; cases e
          refine layCO_ok hy _ ?_
          simp only [he]
          exact layVO_ok hz _ hk
      · cases h

/-! ### Data given, computed -/
def giveCO (H : Heap) : List Nat → List Value → Option (List Nat × List D)
  | used, [] => some (used, [])
  | used, v :: r =>
    match v with
    | .slice none 0 0 => (giveCO H used r).map fun x => (x.1, .nil :: x.2)
    | .slice (some ⟨i, 0, none⟩) len cap =>
      if gbase ≤ i ∧ used.contains i = false then
        match H.get i with
        | some (.sym cs true es) => if len = cap ∧ cs.length = len * es then (giveCO H (i :: used) r).map fun x => (x.1, .sl len es cs :: x.2) else none
        | some (.cells cs _ _ es) => if len = cap ∧ cs.length = len * es then (if cs.all cellP then (giveCO H (i :: used) r).map fun x => (x.1, .sl len es cs :: x.2) else none) else none
        | _ => none
      else none
    | v => if plain 8 v then (giveCO H used r).map fun x => (x.1, .val v :: x.2) else none
def giveVO (H : Heap) : List Nat → List Value → Option (List D)
  | _, [] => some []
  | used, .agg cs :: r => (giveCO H used cs.toList).bind fun x => (giveVO H x.1 r).map (.agg x.2 :: ·)
  | used, v :: r => (giveCO H used [v]).bind fun x => (giveVO H x.1 r).map (x.2 ++ ·)
def giveO (v : Value) (H : Heap) : Option (List D) :=
  match v with
  | .tuple vs => if vs.size = 1 then none else giveVO H [] vs.toList
  | v => giveVO H [] [v]
theorem giveCO_ok : ∀ {l : List Value} {used : List Nat} {x : List Nat × List D}, giveCO H used l = some x → ∀ k : List Nat → List D → Prop, k x.1 x.2 → giveCells H used l k
  | [], used, x, h, k, hk => by
    simp only [giveCO, Option.some.injEq] at h; subst h; exact hk
  | v :: r, used, x, h, k, hk => by
    unfold giveCO at h
    unfold giveCells
    split at h
    · obtain ⟨y, hy, rfl⟩ := Option.map_eq_some_iff.1 h
      exact giveCO_ok hy _ hk
    · simp only
      split at h
      · rename_i hc
        rw [if_pos hc]
        split at h
        · rename_i hg
          simp only [hg]
          split at h
          · rename_i hl
            obtain ⟨y, hy, rfl⟩ := Option.map_eq_some_iff.1 h
            exact ⟨hl, giveCO_ok hy _ hk⟩
          · cases h
        · rename_i hg
          simp only [hg]
          split at h
          · rename_i hl
            split at h
            · rename_i hall
              obtain ⟨y, hy, rfl⟩ := Option.map_eq_some_iff.1 h
              exact ⟨hl, bcase_intro (fun _ => giveCO_ok hy _ hk) (fun hf => by rw [hall] at hf; cases hf)⟩
            · cases h
          · cases h
        · cases h
      · cases h
    · rename_i h1 h2
      split
      · exact absurd rfl h1
      · exact absurd rfl (h2 _ _ _)
      · split at h
        · rename_i hp
          obtain ⟨y, hy, rfl⟩ := Option.map_eq_some_iff.1 h
          rw [if_pos hp]
          exact giveCO_ok hy _ hk
        · cases h
theorem giveVO_ok : ∀ {l : List Value} {used : List Nat} {ds : List D}, giveVO H used l = some ds → ∀ k : List D → Prop, k ds → giveVals H used l k
  | [], used, ds, h, k, hk => by
    simp only [giveVO, Option.some.injEq] at h; subst h; exact hk
  | v :: r, used, ds, h, k, hk => by
    unfold giveVO at h
    unfold giveVals
    split at h
    · rename_i e; cases e
    · rename_i e; cases e
      obtain ⟨x, hx, h⟩ := Option.bind_eq_some_iff.1 h
      obtain ⟨y, hy, rfl⟩ := Option.map_eq_some_iff.1 h
      exact giveCO_ok hx _ (giveVO_ok hy _ hk)
    · rename_i h1 e; cases e
      obtain ⟨x, hx, h⟩ := Option.bind_eq_some_iff.1 h
      obtain ⟨y, hy, rfl⟩ := Option.map_eq_some_iff.1 h
      split
      · rename_i e; cases e
      · rename_i e; cases e; exact absurd rfl (h1 _)
      · rename_i e; cases e
        exact giveCO_ok hx _ (giveVO_ok hy _ hk)
theorem giveO_ok {v : Value} {ds : List D} (h : giveO v H = some ds) : dataK (· = ds) v H := by
  unfold giveO at h
  unfold dataK
  split at h
  · split at h
    · cases h
    · rename_i hs
      simp only [if_neg hs]
      exact giveVO_ok h _ rfl
  · rename_i hn
    split
    · exact absurd rfl (hn _)
    · exact giveVO_ok h _ rfl

/-! ### Data compared -/
def cEq : Value → Value → Bool
  | .int j a, .int k b => j == k && a == b
  | .bool a, .bool b => a == b
  | .string a, .string b => a.data.toList == b.data.toList
  | _, _ => false
def csEq : List Value → List Value → Bool
  | [], [] => true
  | a :: xs, b :: bs => cEq a b && csEq xs bs
  | _, _ => false
def d1Eq : D → D → Bool
  | .nil, .nil => true
  | .val a, .val b => cEq a b
  | .sl n es cs, .sl m fs bs => n == m && es == fs && csEq cs bs
  | _, _ => false
def d2Eq : List D → List D → Bool
  | [], [] => true
  | a :: xs, b :: bs => d1Eq a b && d2Eq xs bs
  | _, _ => false
def dEq : D → D → Bool
  | .agg a, .agg b => d2Eq a b
  | a, b => d1Eq a b
def dsEq : List D → List D → Bool
  | [], [] => true
  | a :: xs, b :: bs => dEq a b && dsEq xs bs
  | _, _ => false
theorem cEq_ok : ∀ {a b : Value}, cEq a b = true → a = b := by
  intro a b h
  unfold cEq at h
  split at h
  · simp only [Bool.and_eq_true, beq_iff_eq] at h; rw [h.1, h.2]
  · rw [eq_of_beq h]
  · rename_i x y
    have e := eq_of_beq h
    obtain ⟨x⟩ := x
    obtain ⟨y⟩ := y
    have : x = y := Array.ext' e
    rw [this]
  · cases h
theorem csEq_ok : ∀ {a b : List Value}, csEq a b = true → a = b
  | [], [], _ => rfl
  | a :: xs, b :: bs, h => by
    simp only [csEq, Bool.and_eq_true] at h
    rw [cEq_ok h.1, csEq_ok h.2]
  | [], _ :: _, h => by cases h
  | _ :: _, [], h => by cases h
theorem d1Eq_ok {a b : D} (h : d1Eq a b = true) : a = b := by
  unfold d1Eq at h
  split at h
  · rfl
  · rw [cEq_ok h]
  · simp only [Bool.and_eq_true, beq_iff_eq] at h
    rw [h.1.1, h.1.2, csEq_ok h.2]
  · cases h
theorem d2Eq_ok : ∀ {a b : List D}, d2Eq a b = true → a = b
  | [], [], _ => rfl
  | a :: xs, b :: bs, h => by
    simp only [d2Eq, Bool.and_eq_true] at h
    rw [d1Eq_ok h.1, d2Eq_ok h.2]
  | [], _ :: _, h => by cases h
  | _ :: _, [], h => by cases h
theorem dEq_ok {a b : D} (h : dEq a b = true) : a = b := by
  unfold dEq at h
  split at h
  · rw [d2Eq_ok h]
  · exact d1Eq_ok h
theorem dsEq_ok : ∀ {a b : List D}, dsEq a b = true → a = b
  | [], [], _ => rfl
  | a :: xs, b :: bs, h => by
    simp only [dsEq, Bool.and_eq_true] at h
    rw [dEq_ok h.1, dsEq_ok h.2]
  | [], _ :: _, h => by cases h
  | _ :: _, [], h => by cases h

/-! ### The evaluator with a table -/
abbrev Tab := FuncId → Option (List D → Option (List D))
/-- (a list of what is known) -/
def tabLook : List (List D × List D) → List D → Option (List D)
  | [], _ => none
  | p :: r, ds => if dsEq p.1 ds then some p.2 else tabLook r ds
theorem tabLook_ok : ∀ {t : List (List D × List D)} {ds rs : List D}, tabLook t ds = some rs → (ds, rs) ∈ t
  | [], _, _, h => by cases h
  | p :: r, ds, rs, h => by
    unfold tabLook at h
    split at h
    · rename_i he
      simp only [Option.some.injEq] at h
      rw [← dsEq_ok he, ← h]
      exact List.mem_cons_self ..
    · exact List.mem_cons_of_mem _ (tabLook_ok h)
def tabCall (t : List D → Option (List D)) (args : Array Value) (H : Heap) : Option (Value × Heap) :=
  (readVO H args.toList).bind fun ds => (t ds).bind fun rs => (layVO rs H).map fun x => (tupleOf x.1, x.2)
def evalT (P : Program) (tab : Tab) : Nat → Self
  | 0 => ⟨fun _ _ _ => none, fun _ _ _ _ => none⟩
  | n + 1 => ⟨fun f args H => match tab f with | none => callBody P (evalT P tab n) f args H | some t => tabCall t args H, fun round c A H => codeA P (evalT P tab n) round c A H⟩
def TabOK (P : Program) (tab : Tab) : Prop := ∀ f t, tab f = some t → ∀ ds rs, t ds = some rs → Con P f ds rs
theorem tabCall_sound {f : FuncId} {t : List D → Option (List D)} (ht : ∀ ds rs, t ds = some rs → Con P f ds rs) {args : Array Value} {v : Value} {H' : Heap} (h : tabCall t args H = some (v, H')) : CallH P f args H (fun u K => u = v ∧ K = H') := by
  obtain ⟨ds, h1, h⟩ := Option.bind_eq_some_iff.1 h
  obtain ⟨rs, h2, h⟩ := Option.bind_eq_some_iff.1 h
  obtain ⟨x, h3, h⟩ := Option.map_eq_some_iff.1 h
  simp only [Prod.mk.injEq] at h
  obtain ⟨rfl, rfl⟩ := h
  refine wpFix_call (C := fun g ds rs => g = f ∧ t ds = some rs ∨ Con P g ds rs) (fun g ds rs hc => ?_) (fix := t) ?_
  · rcases hc with ⟨rfl, hm⟩ | hc
    · exact ht _ _ hm
    · exact hc
  · unfold wpFix
    refine readVO_ok h1 _ ?_
    simp only [h2]
    exact ⟨⟨.inl ⟨rfl, h2⟩⟩, layVO_ok h3 _ ⟨rfl, rfl⟩⟩
theorem evalT_sound {tab : Tab} (htab : TabOK P tab) (hmix : P.follows .mixedOrders = true) : ∀ n, SelfS P w0 (evalT P tab n)
  | 0 => ⟨fun n _ _ h => by simp [evalT] at h, fun n _ _ _ h => by simp [evalT] at h, fun n _ _ _ h => by simp [evalT] at h⟩
  | k + 1 => ⟨fun {ρ H w f args args' v H'} n g ha h => by
      simp only [evalT] at h
      split at h
      · exact callBody_sound (evalT_sound htab hmix k) g n ha h
      · rename_i t ht
        refine (tabCall_sound (htab f t ht) h w0 ρ w args' n g ha).mono ?_
        rintro e w' ⟨u, K, ρ', v', ⟨rfl, rfl⟩, h1, h2, h3, h4⟩
        exact ⟨ρ', v', h1, h2, h3, h4⟩, fun n g rr ra h => codeA_sound (evalT_sound htab hmix k) hmix n _ g rr ra h,
      fun n g rr ra h => loopIn_once (loop_body (evalT_sound htab hmix k) n _ (fun g rr ra h => codeA_sound (evalT_sound htab hmix k) hmix n _ g rr ra h) g rr ra h)⟩
/-- A call of known data is run. -/
def runOK (P : Program) (tab : Tab) (n : Nat) (f : FuncId) (ds rs : List D) (caps : Nat → Nat) : Bool :=
  match (evalT P tab n).call f (layVals caps 500 ds).1.toArray (heapOf (layVals caps 500 ds).2) with
  | some (v, H) => (match giveO v H with | some rs' => dsEq rs' rs | none => false)
  | none => false
theorem con_run {tab : Tab} (htab : TabOK P tab) (hmix : P.follows .mixedOrders = true) {n : Nat} {f : FuncId} {ds rs : List D} (hcount : countV ds ≤ 400) (h : ∀ caps, runOK P tab n f ds rs caps = true) : Con P f ds rs := by
  intro w args hr
  obtain ⟨caps, ρ, hst, g, ha⟩ := lay_gam hr hcount
  have h := h caps
  unfold runOK at h
  split at h
  · rename_i v H hc
    split at h
    · rename_i rs' hg
      have e := dsEq_ok h
      subst e
      refine callsIn_wide.1 (((evalT_sound htab hmix n).call 0 g (by simpa using ha) hc).mono ?_)
      rintro e w' ⟨ρ', v', rfl, hv, g', ext'⟩
      obtain ⟨vs, ds', u, rfl, h1, rfl⟩ := dataK_out g' hv (giveO_ok hg)
      exact ⟨⟨vs, u, rfl, h1⟩, g'.below.below hst⟩
    · cases h
  · cases h
end Go.Abs

/- strings.Join in data, by the library's own contract. -/
namespace Go.Proofs.G5d
open Go Go.Abs Go.Proofs Go.RowKit
set_option maxRecDepth 100000
theorem mixed : Tryz.prog.follows .mixedOrders = true := by kernel_rfl
abbrev C5 : FuncId → List D → List D → Prop := Con Tryz.prog
def joined (xs : List ByteArray) (sep : ByteArray) : ByteArray := ⟨(Lib.join (xs.map (·.data.toList)) sep.data.toList).toArray⟩
theorem conJ (xs : List ByteArray) (sep : ByteArray) (hN : xs.length ≤ 140737488355328) (hlen : (Lib.join (xs.map (·.data.toList)) sep.data.toList).length ≤ 140737488355328) :
    C5 64 [.sl xs.length 1 (xs.map Value.string), .val (.string sep)] [.val (.string (joined xs sep))] := by
  intro w args hr
  obtain ⟨l⟩ := args
  replace hr : ReadsL w _ l := hr
  cases hr with | cons h1 t => cases t with | cons h2 t =>
  cases t
  cases h2
  cases h1 with | sl _ _ _ b o cap c ty fz hb hs hc hn hp hl =>
  refine (Tryz.strings_Join b o cap xs sep w (fun j x hj => ?_) ((Array.getElem?_eq_some_iff.1 hb).1) hN hl hlen).mono ?_
  · have h1 : ((c.toList.drop o).take (xs.map Value.string).length)[j]? = some (.string x) := by rw [hc]; simp [hj]
    have hj' : j < xs.length := (List.getElem?_eq_some_iff.1 hj).1
    rw [List.getElem?_take, if_pos (by simpa using hj'), List.getElem?_drop, Array.getElem?_toList] at h1
    simp [World.cell?, hb, h1]
  · rintro e w' ⟨rfl, hb⟩
    exact ⟨⟨[.string _], [], rfl, .cons (.val _ _ rfl) (.nil _)⟩, hb⟩
theorem conJn (sep : ByteArray) : C5 64 [.nil, .val (.string sep)] [.val (.string ⟨#[]⟩)] := by
  intro w args hr
  obtain ⟨l⟩ := args
  replace hr : ReadsL w _ l := hr
  cases hr with | cons h1 t => cases t with | cons h2 t =>
  cases t
  cases h2
  cases h1
  refine (Tryz.strings_Join_none none 0 sep w).mono ?_
  rintro e w' ⟨rfl, rfl⟩
  exact ⟨⟨[.string _], [], rfl, .cons (.val _ _ rfl) (.nil _)⟩, Below.refl _ _⟩
def strsOf : List Value → Option (List ByteArray)
  | [] => some []
  | .string s :: r => (strsOf r).map (s :: ·)
  | _ => none
theorem strsOf_ok : ∀ {cs : List Value} {l : List ByteArray}, strsOf cs = some l → cs = l.map Value.string
  | [], l, h => by simp only [strsOf, Option.some.injEq] at h; subst h; rfl
  | v :: r, l, h => by
    unfold strsOf at h
    split at h
    · rename_i e; cases e
    · rename_i s r' e
      obtain ⟨rfl, rfl⟩ := List.cons.inj e
      obtain ⟨l', h1, rfl⟩ := Option.map_eq_some_iff.1 h
      rw [strsOf_ok h1]; rfl
    · cases h
def joinT : List D → Option (List D) := fun ds => match ds with
  | [.nil, .val (.string _)] => some [.val (.string ⟨#[]⟩)]
  | [.sl n 1 cs, .val (.string sep)] => (strsOf cs).bind fun xs => if n = xs.length ∧ n ≤ 140737488355328 ∧ (Lib.join (xs.map (·.data.toList)) sep.data.toList).length ≤ 140737488355328 then some [.val (.string (joined xs sep))] else none
  | _ => none
theorem joinT_ok {ds rs : List D} (h : joinT ds = some rs) : C5 64 ds rs := by
  unfold joinT at h
  split at h
  · obtain rfl := Option.some.inj h
    exact conJn _
  · obtain ⟨xs, h1, h2⟩ := Option.bind_eq_some_iff.1 h
    split at h2
    · rename_i hc
      obtain ⟨rfl, h3, h4⟩ := hc
      obtain rfl := Option.some.inj h2
      rw [strsOf_ok h1]
      exact conJ _ _ h3 h4
    · cases h2
  · cases h
def tabJ : Tab := fun f => if f == 64 then some joinT else none
theorem tabJ_ok : TabOK Tryz.prog tabJ := by
  intro f t ht ds rs h
  unfold tabJ at ht
  split at ht
  · rename_i e
    obtain rfl := Option.some.inj ht
    rw [beq_iff_eq] at e
    subst e
    exact joinT_ok h
  · cases ht
end Go.Proofs.G5d
