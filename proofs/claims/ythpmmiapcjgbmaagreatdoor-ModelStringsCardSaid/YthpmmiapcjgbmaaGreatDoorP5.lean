/- Texts of the proof, put together: GvMT, GvS1r, AbsNum, AbsLow, GvVL1, GStr3, GName, GvVL2, G4S, GvVL3, GvVL4, GvVL5, AbsShort2. -/
import Derived.Test.YthpmmiapcjgbmaaGreatDoorP4
import Derived.Test.YthpmmiapcjgbmaaGreatDoorP3
import Derived.Test.YthpmmiapcjgbmaaGreatDoorProg
/- What is left to show of each function, written out; the kernel reckons it. -/
namespace Go.Proofs.G5v
open Go Go.Abs Go.Proofs
set_option maxRecDepth 100000
set_option linter.unusedVariables false
abbrev P1 (b o : Nat) : Value := .pointer (some ⟨b, o, none⟩)
def lm1 (cap : Nat) (lo hi x : Int) (K : Value → Blocks → Prop) : Prop := wpFn Tryz.prog (fun _ _ _ _ _ => False) (fun _ _ _ => False) 6 86 #[.slice (some ⟨900, 0, none⟩) 1 cap, .pointer (some ⟨901, 0, none⟩), .pointer (some ⟨902, 0, none⟩)] (heapOf [(900, .cells [.int .i64 x] 3 false 1), (901, .cells [.int .i64 lo] 3 false 1), (902, .cells [.int .i64 hi] 3 false 1)]) (stateK K)
theorem lm1_text (cap : Nat) (lo : Int) (hi : Int) (x : Int) (K : Go.Value → Blocks → Prop) : lm1 cap lo hi x K =
 (bcase (decide (x < lo))
 (K (vI 2) [(Prod.mk 900 (AObj.cells [(vI x)] 3 false 1)), (Prod.mk 901 (AObj.cells [(vI lo)] 3 false 1)), (Prod.mk 902 (AObj.cells [(vI hi)] 3 false 1))])
 (bcase (decide (x > hi))
 (K (vI 2) [(Prod.mk 900 (AObj.cells [(vI x)] 3 false 1)), (Prod.mk 901 (AObj.cells [(vI lo)] 3 false 1)), (Prod.mk 902 (AObj.cells [(vI hi)] 3 false 1))])
 (K (vI 0) [(Prod.mk 900 (AObj.cells [(vI x)] 3 false 1)), (Prod.mk 901 (AObj.cells [(vI lo)] 3 false 1)), (Prod.mk 902 (AObj.cells [(vI hi)] 3 false 1))]))) := by kernel_rfl
def lm2 (cap : Nat) (lo hi x y : Int) (K : Value → Blocks → Prop) : Prop := wpFn Tryz.prog (fun _ _ _ _ _ => False) (fun _ _ _ => False) 6 86 #[.slice (some ⟨900, 0, none⟩) 2 cap, .pointer (some ⟨901, 0, none⟩), .pointer (some ⟨902, 0, none⟩)] (heapOf [(900, .cells [.int .i64 x, .int .i64 y] 3 false 1), (901, .cells [.int .i64 lo] 3 false 1), (902, .cells [.int .i64 hi] 3 false 1)]) (stateK K)
theorem lm2_text (cap : Nat) (lo : Int) (hi : Int) (x : Int) (y : Int) (K : Go.Value → Blocks → Prop) : lm2 cap lo hi x y K =
 (bcase (decide (x < lo))
 (K (vI 2) [(Prod.mk 900 (AObj.cells [(vI x), (vI y)] 3 false 1)), (Prod.mk 901 (AObj.cells [(vI lo)] 3 false 1)), (Prod.mk 902 (AObj.cells [(vI hi)] 3 false 1))])
 (bcase (decide (x > hi))
 (K (vI 2) [(Prod.mk 900 (AObj.cells [(vI x), (vI y)] 3 false 1)), (Prod.mk 901 (AObj.cells [(vI lo)] 3 false 1)), (Prod.mk 902 (AObj.cells [(vI hi)] 3 false 1))])
 (bcase (decide (y < lo))
 (K (vI 2) [(Prod.mk 900 (AObj.cells [(vI x), (vI y)] 3 false 1)), (Prod.mk 901 (AObj.cells [(vI lo)] 3 false 1)), (Prod.mk 902 (AObj.cells [(vI hi)] 3 false 1))])
 (bcase (decide (y > hi))
 (K (vI 2) [(Prod.mk 900 (AObj.cells [(vI x), (vI y)] 3 false 1)), (Prod.mk 901 (AObj.cells [(vI lo)] 3 false 1)), (Prod.mk 902 (AObj.cells [(vI hi)] 3 false 1))])
 (K (vI 0) [(Prod.mk 900 (AObj.cells [(vI x), (vI y)] 3 false 1)), (Prod.mk 901 (AObj.cells [(vI lo)] 3 false 1)), (Prod.mk 902 (AObj.cells [(vI hi)] 3 false 1))]))))) := by kernel_rfl
def lm3 (cap : Nat) (lo hi x y z : Int) (K : Value → Blocks → Prop) : Prop := wpFn Tryz.prog (fun _ _ _ _ _ => False) (fun _ _ _ => False) 6 86 #[.slice (some ⟨900, 0, none⟩) 3 cap, .pointer (some ⟨901, 0, none⟩), .pointer (some ⟨902, 0, none⟩)] (heapOf [(900, .cells [.int .i64 x, .int .i64 y, .int .i64 z] 3 false 1), (901, .cells [.int .i64 lo] 3 false 1), (902, .cells [.int .i64 hi] 3 false 1)]) (stateK K)
theorem lm3_text (cap : Nat) (lo : Int) (hi : Int) (x : Int) (y : Int) (z : Int) (K : Go.Value → Blocks → Prop) : lm3 cap lo hi x y z K =
 (bcase (decide (x < lo))
 (K (vI 2) [(Prod.mk 900 (AObj.cells [(vI x), (vI y), (vI z)] 3 false 1)), (Prod.mk 901 (AObj.cells [(vI lo)] 3 false 1)), (Prod.mk 902 (AObj.cells [(vI hi)] 3 false 1))])
 (bcase (decide (x > hi))
 (K (vI 2) [(Prod.mk 900 (AObj.cells [(vI x), (vI y), (vI z)] 3 false 1)), (Prod.mk 901 (AObj.cells [(vI lo)] 3 false 1)), (Prod.mk 902 (AObj.cells [(vI hi)] 3 false 1))])
 (bcase (decide (y < lo))
 (K (vI 2) [(Prod.mk 900 (AObj.cells [(vI x), (vI y), (vI z)] 3 false 1)), (Prod.mk 901 (AObj.cells [(vI lo)] 3 false 1)), (Prod.mk 902 (AObj.cells [(vI hi)] 3 false 1))])
 (bcase (decide (y > hi))
 (K (vI 2) [(Prod.mk 900 (AObj.cells [(vI x), (vI y), (vI z)] 3 false 1)), (Prod.mk 901 (AObj.cells [(vI lo)] 3 false 1)), (Prod.mk 902 (AObj.cells [(vI hi)] 3 false 1))])
 (bcase (decide (z < lo))
 (K (vI 2) [(Prod.mk 900 (AObj.cells [(vI x), (vI y), (vI z)] 3 false 1)), (Prod.mk 901 (AObj.cells [(vI lo)] 3 false 1)), (Prod.mk 902 (AObj.cells [(vI hi)] 3 false 1))])
 (bcase (decide (z > hi))
 (K (vI 2) [(Prod.mk 900 (AObj.cells [(vI x), (vI y), (vI z)] 3 false 1)), (Prod.mk 901 (AObj.cells [(vI lo)] 3 false 1)), (Prod.mk 902 (AObj.cells [(vI hi)] 3 false 1))])
 (K (vI 0) [(Prod.mk 900 (AObj.cells [(vI x), (vI y), (vI z)] 3 false 1)), (Prod.mk 901 (AObj.cells [(vI lo)] 3 false 1)), (Prod.mk 902 (AObj.cells [(vI hi)] 3 false 1))]))))))) := by kernel_rfl
def lm4 (cap : Nat) (lo hi x y z u : Int) (K : Value → Blocks → Prop) : Prop := wpFn Tryz.prog (fun _ _ _ _ _ => False) (fun _ _ _ => False) 6 86 #[.slice (some ⟨900, 0, none⟩) 4 cap, .pointer (some ⟨901, 0, none⟩), .pointer (some ⟨902, 0, none⟩)] (heapOf [(900, .cells [.int .i64 x, .int .i64 y, .int .i64 z, .int .i64 u] 3 false 1), (901, .cells [.int .i64 lo] 3 false 1), (902, .cells [.int .i64 hi] 3 false 1)]) (stateK K)
theorem lm4_text (cap : Nat) (lo : Int) (hi : Int) (x : Int) (y : Int) (z : Int) (u : Int) (K : Go.Value → Blocks → Prop) : lm4 cap lo hi x y z u K =
 (bcase (decide (x < lo))
 (K (vI 2) [(Prod.mk 900 (AObj.cells [(vI x), (vI y), (vI z), (vI u)] 3 false 1)), (Prod.mk 901 (AObj.cells [(vI lo)] 3 false 1)), (Prod.mk 902 (AObj.cells [(vI hi)] 3 false 1))])
 (bcase (decide (x > hi))
 (K (vI 2) [(Prod.mk 900 (AObj.cells [(vI x), (vI y), (vI z), (vI u)] 3 false 1)), (Prod.mk 901 (AObj.cells [(vI lo)] 3 false 1)), (Prod.mk 902 (AObj.cells [(vI hi)] 3 false 1))])
 (bcase (decide (y < lo))
 (K (vI 2) [(Prod.mk 900 (AObj.cells [(vI x), (vI y), (vI z), (vI u)] 3 false 1)), (Prod.mk 901 (AObj.cells [(vI lo)] 3 false 1)), (Prod.mk 902 (AObj.cells [(vI hi)] 3 false 1))])
 (bcase (decide (y > hi))
 (K (vI 2) [(Prod.mk 900 (AObj.cells [(vI x), (vI y), (vI z), (vI u)] 3 false 1)), (Prod.mk 901 (AObj.cells [(vI lo)] 3 false 1)), (Prod.mk 902 (AObj.cells [(vI hi)] 3 false 1))])
 (bcase (decide (z < lo))
 (K (vI 2) [(Prod.mk 900 (AObj.cells [(vI x), (vI y), (vI z), (vI u)] 3 false 1)), (Prod.mk 901 (AObj.cells [(vI lo)] 3 false 1)), (Prod.mk 902 (AObj.cells [(vI hi)] 3 false 1))])
 (bcase (decide (z > hi))
 (K (vI 2) [(Prod.mk 900 (AObj.cells [(vI x), (vI y), (vI z), (vI u)] 3 false 1)), (Prod.mk 901 (AObj.cells [(vI lo)] 3 false 1)), (Prod.mk 902 (AObj.cells [(vI hi)] 3 false 1))])
 (bcase (decide (u < lo))
 (K (vI 2) [(Prod.mk 900 (AObj.cells [(vI x), (vI y), (vI z), (vI u)] 3 false 1)), (Prod.mk 901 (AObj.cells [(vI lo)] 3 false 1)), (Prod.mk 902 (AObj.cells [(vI hi)] 3 false 1))])
 (bcase (decide (u > hi))
 (K (vI 2) [(Prod.mk 900 (AObj.cells [(vI x), (vI y), (vI z), (vI u)] 3 false 1)), (Prod.mk 901 (AObj.cells [(vI lo)] 3 false 1)), (Prod.mk 902 (AObj.cells [(vI hi)] 3 false 1))])
 (K (vI 0) [(Prod.mk 900 (AObj.cells [(vI x), (vI y), (vI z), (vI u)] 3 false 1)), (Prod.mk 901 (AObj.cells [(vI lo)] 3 false 1)), (Prod.mk 902 (AObj.cells [(vI hi)] 3 false 1))]))))))))) := by kernel_rfl
def preM (C : Ct) : FuncId → Option Handler := fun g => if g == 86 then some (stateH (limL 3)) else if g == 94 then some (stateH (minP 95 116 31)) else if g == 9 then some (fixH C copyMR) else if g == 12 then some (fixH C copyMC) else if [5, 48, 55, 88, 85, 113, 91, 59, 114, 110, 87, 54, 56, 47, 93, 50, 61, 60, 29, 999999, 31, 999999, 77, 81, 999999, 79, 41, 16, 17, 999999, 43, 18, 999999, 999999, 999999, 999999, 42, 76, 999999, 90, 57, 78, 999999, 80].contains g then some (saidH Tryz.prog C) else none
def preL (C : Ct) : FuncId → Option Handler := fun g => if g == 94 then none else preM C g
abbrev hL (C : Ct) : Handler := handlerX Tryz.prog (preL C) 12 6
def gLo (C : Ct) (L : AtLoop) (lo : Int) (hi : Int) (n0 : Nat) (c0 : Nat) (l0 : List Value) (K : Value → Blocks → Prop) : Prop := wpFn Tryz.prog (hE C) L 0 86 #[.slice (some ⟨500, 0, none⟩) n0 c0, .pointer (some ⟨900, 0, none⟩), .pointer (some ⟨901, 0, none⟩)] (heapOf [(500, .sym l0 false 1), (900, .cells [.int .i64 lo] 3 false 1), (901, .cells [.int .i64 hi] 3 false 1)]) (stateK K)
theorem gLo_text (C : Ct) (L : AtLoop) (lo : Int) (hi : Int) (n0 : Nat) (c0 : Nat) (l0 : List Go.Value) (K : Go.Value → Blocks → Prop) : gLo C L lo hi n0 c0 l0 K =
 (L 0 [(Prod.mk 1 (Pt 900 0)), (Prod.mk 2 (Pt 901 0)), (Prod.mk 7 (Sl 500 (n0) (c0))), (Prod.mk 8 (vI ((↑n0 : Int)))), (Prod.mk 9 (vI 0))] [(Prod.mk 900 (AObj.cells [(vI lo)] 3 false 1)), (Prod.mk 901 (AObj.cells [(vI hi)] 3 false 1)), (Prod.mk 500 (AObj.sym (l0) false 1))]) := by kernel_rfl
abbrev zLo1 (n0 : Nat) (c1 : Nat) (x2 : Int) (x3 : Int) (x4 : Int) (x5 : Int) (l6 : List Value) : Slots × Blocks := ([(1, (Value.pointer (some ⟨900, 0, none⟩))), (2, (Value.pointer (some ⟨901, 0, none⟩))), (7, (Value.slice (some ⟨500, 0, none⟩) n0 c1)), (8, (Value.int .i64 x2)), (9, (Value.int .i64 x3))], [(900, (AObj.cells [(Value.int .i64 x4)] 3 false 1)), (901, (AObj.cells [(Value.int .i64 x5)] 3 false 1)), (500, (AObj.sym l6 false 1))])
def rLo1 (C : Ct) (L : AtLoop) (n0 : Nat) (c1 : Nat) (x2 : Int) (x3 : Int) (x4 : Int) (x5 : Int) (l6 : List Value) (B : Bx) (X : Xx) (K : Value → Blocks → Prop) : Prop := wpRound Tryz.prog (hE C) L 86 0 [(1, (Value.pointer (some ⟨900, 0, none⟩))), (2, (Value.pointer (some ⟨901, 0, none⟩))), (7, (Value.slice (some ⟨500, 0, none⟩) n0 c1)), (8, (Value.int .i64 x2)), (9, (Value.int .i64 x3))] [(900, (AObj.cells [(Value.int .i64 x4)] 3 false 1)), (901, (AObj.cells [(Value.int .i64 x5)] 3 false 1)), (500, (AObj.sym l6 false 1))] B X (stateK K)
theorem rLo1_text (C : Ct) (L : AtLoop) (n0 : Nat) (c1 : Nat) (x2 : Int) (x3 : Int) (x4 : Int) (x5 : Int) (l6 : List Go.Value) (B : Bx) (X : Xx) (K : Go.Value → Blocks → Prop) : rLo1 C L n0 c1 x2 x3 x4 x5 l6 B X K =
 (bcase (decide (x3 < x2))
 (bcase (decide (0 ≤ x3))
 (bcase (decide (x3 < (↑n0 : Int)))
 (∃ n1 : Int,
 ((At (l6) (0 + Int.toNat x3 * 1) 1 [(vI n1)]) ∧
 (bcase (decide (n1 < x4))
 (K (vI 2) [(Prod.mk 900 (AObj.cells [(vI x4)] 3 false 1)), (Prod.mk 901 (AObj.cells [(vI x5)] 3 false 1))])
 (bcase (decide (n1 > x5))
 (K (vI 2) [(Prod.mk 900 (AObj.cells [(vI x4)] 3 false 1)), (Prod.mk 901 (AObj.cells [(vI x5)] 3 false 1))])
 (B [(Prod.mk 1 (Pt 900 0)), (Prod.mk 2 (Pt 901 0)), (Prod.mk 7 (Sl 500 (n0) (c1))), (Prod.mk 8 (vI x2)), (Prod.mk 9 (vI (IntKind.wrap .i64 (x3 + 1))))] [(Prod.mk 900 (AObj.cells [(vI x4)] 3 false 1)), (Prod.mk 901 (AObj.cells [(vI x5)] 3 false 1)), (Prod.mk 500 (AObj.sym (l6) false 1))])))))
 False)
 False)
 (X 0 [] [(Prod.mk 900 (AObj.cells [(vI x4)] 3 false 1)), (Prod.mk 901 (AObj.cells [(vI x5)] 3 false 1))])) := by kernel_rfl
def nLo2 (C : Ct) (L : AtLoop) (x0 : Int) (x1 : Int) (K : Value → Blocks → Prop) : Prop := wpNext Tryz.prog (hE C) L 86 0 .normal [] [(900, (AObj.cells [(Value.int .i64 x0)] 3 false 1)), (901, (AObj.cells [(Value.int .i64 x1)] 3 false 1))] (stateK K)
theorem nLo2_text (C : Ct) (L : AtLoop) (x0 : Int) (x1 : Int) (K : Go.Value → Blocks → Prop) : nLo2 C L x0 x1 K =
 (K (vI 0) [(Prod.mk 900 (AObj.cells [(vI x0)] 3 false 1)), (Prod.mk 901 (AObj.cells [(vI x1)] 3 false 1))]) := by kernel_rfl
def gFE (C : Ct) (L : AtLoop) (n0 : Nat) (c0 : Nat) (l0 : List Value) (k : List D → Prop) : Prop := wpFn Tryz.prog (hE C) L 0 48 #[.slice (some ⟨500, 0, none⟩) n0 c0] (heapOf [(500, .sym l0 false 1)]) (dataK k)
theorem gFE_text (C : Ct) (L : AtLoop) (n0 : Nat) (c0 : Nat) (l0 : List Go.Value) (k : List D → Prop) : gFE C L n0 c0 l0 k =
 (L 0 [(Prod.mk 5 (Sl 500 (n0) (c0))), (Prod.mk 6 (vI ((↑n0 : Int)))), (Prod.mk 7 (vI 0))] [(Prod.mk 500 (AObj.sym (l0) false 1))]) := by kernel_rfl
abbrev zFE1 (n0 : Nat) (c1 : Nat) (x2 : Int) (x3 : Int) (l4 : List Value) : Slots × Blocks := ([(5, (Value.slice (some ⟨500, 0, none⟩) n0 c1)), (6, (Value.int .i64 x2)), (7, (Value.int .i64 x3))], [(500, (AObj.sym l4 false 1))])
def rFE1 (C : Ct) (L : AtLoop) (n0 : Nat) (c1 : Nat) (x2 : Int) (x3 : Int) (l4 : List Value) (B : Bx) (X : Xx) (k : List D → Prop) : Prop := wpRound Tryz.prog (hE C) L 48 0 [(5, (Value.slice (some ⟨500, 0, none⟩) n0 c1)), (6, (Value.int .i64 x2)), (7, (Value.int .i64 x3))] [(500, (AObj.sym l4 false 1))] B X (dataK k)
theorem rFE1_text (C : Ct) (L : AtLoop) (n0 : Nat) (c1 : Nat) (x2 : Int) (x3 : Int) (l4 : List Go.Value) (B : Bx) (X : Xx) (k : List D → Prop) : rFE1 C L n0 c1 x2 x3 l4 B X k =
 (bcase (decide (x3 < x2))
 (bcase (decide (0 ≤ x3))
 (bcase (decide (x3 < (↑n0 : Int)))
 (∃ n1 : Int,
 ((At (l4) (0 + Int.toNat x3 * 1) 1 [(vI n1)]) ∧
 (bcase (n1 != 0)
 (k [(D.val (vI n1))])
 (B [(Prod.mk 5 (Sl 500 (n0) (c1))), (Prod.mk 6 (vI x2)), (Prod.mk 7 (vI (IntKind.wrap .i64 (x3 + 1))))] [(Prod.mk 500 (AObj.sym (l4) false 1))]))))
 False)
 False)
 (X 0 [] [])) := by kernel_rfl
def nFE2 (C : Ct) (L : AtLoop) (k : List D → Prop) : Prop := wpNext Tryz.prog (hE C) L 48 0 .normal [] [] (dataK k)
theorem nFE2_text (C : Ct) (L : AtLoop) (k : List D → Prop) : nFE2 C L k =
 (k [(D.val (vI 0))]) := by kernel_rfl
def gcT (C : Ct) (L : AtLoop) (n0 : Nat) (c0 : Nat) (l0 : List Value) (k : List D → Prop) : Prop := wpFn Tryz.prog (hL C) L 0 55 #[.slice (some ⟨500, 0, none⟩) n0 c0] (heapOf [(500, .sym l0 false 1)]) (dataK k)
theorem gcT_text (C : Ct) (L : AtLoop) (n0 : Nat) (c0 : Nat) (l0 : List Go.Value) (k : List D → Prop) : gcT C L n0 c0 l0 k =
 (∃ l1 : List Int,
 (((l0) = (List.map (vI) l1)) ∧
 (((n0) = (List.length l1)) ∧
 (((List.length l1) < 1000000000) ∧
 (∃ e1 : Int,
 ((Says limC 0 [(D.val (vI 0)), (D.val (vI 20000)), (D.sl (n0) 1 (l0))] [(D.val (vI e1))]) ∧
 (k [(D.val (vI e1))]))))))) := by kernel_rfl
def gcC (C : Ct) (L : AtLoop) (x0 : Int) (x1 : Int) (k : List D → Prop) : Prop := wpFn Tryz.prog (hE C) L 0 88 #[.int .i64 x0, .int .i64 x1] (heapOf []) (dataK k)
theorem gcC_text (C : Ct) (L : AtLoop) (x0 : Int) (x1 : Int) (k : List D → Prop) : gcC C L x0 x1 k =
 (bcase (x0 == 0)
 (k [(D.val (vI 10))])
 (bcase (decide (x0 > x1))
 (k [(D.val (vI 8))])
 (k [(D.val (vI 0))]))) := by kernel_rfl
def gcF (C : Ct) (c0 : Nat) (y0_0 : Int) (y0_1 : Int) (y0_2 : Int) (y0_3 : Int) (k : List D → Prop) : Prop := wpFn Tryz.prog (hL C) (fun _ _ _ => False) 8 85 #[.slice (some ⟨500, 0, none⟩) 2 c0] (heapOf [(500, .sym [.int .i64 y0_0, .int .i64 y0_1, .int .i64 y0_2, .int .i64 y0_3] false 2)]) (dataK k)
theorem gcF_text (C : Ct) (c0 : Nat) (y0_0 : Int) (y0_1 : Int) (y0_2 : Int) (y0_3 : Int) (k : List D → Prop) : gcF C c0 y0_0 y0_1 y0_2 y0_3 k =
 (∃ n1 : Int,
 (∃ n2 : Int,
 ((At [(vI y0_0), (vI y0_1), (vI y0_2), (vI y0_3)] 0 2 [(vI n1), (vI n2)]) ∧
 (bcase (decide (n2 ≤ 0))
 (k [(D.val (vI 3))])
 (∃ n3 : Int,
 ((Says C 113 [(D.val (vI n1)), (D.val (vI n2))] [(D.val (vI n3))]) ∧
 (bcase (n3 != 1)
 (k [(D.val (vI 3))])
 (∃ n4 : Int,
 (∃ n5 : Int,
 ((At [(vI y0_0), (vI y0_1), (vI y0_2), (vI y0_3)] 2 2 [(vI n4), (vI n5)]) ∧
 (bcase (decide (n5 ≤ 0))
 (k [(D.val (vI 3))])
 (∃ n6 : Int,
 ((Says C 113 [(D.val (vI n4)), (D.val (vI n5))] [(D.val (vI n6))]) ∧
 (bcase (n6 != 1)
 (k [(D.val (vI 3))])
 (k [(D.val (vI 0))]))))))))))))))) := by kernel_rfl
def gdv (C : Ct) (L : AtLoop) (x0 : Int) (x1 : Int) (k : List D → Prop) : Prop := wpFn Tryz.prog (hE C) L 0 113 #[.int .i64 x0, .int .i64 x1] (heapOf []) (dataK k)
theorem gdv_text (C : Ct) (L : AtLoop) (x0 : Int) (x1 : Int) (k : List D → Prop) : gdv C L x0 x1 k =
 (bcase (x1 != 0)
 (L 0 [(Prod.mk 6 (vI x1)), (Prod.mk 7 (vI (if IntKind.wrap .i64 (0 - Int.tmod x0 x1) > Int.tmod x0 x1 then IntKind.wrap .i64 (0 - Int.tmod x0 x1) else Int.tmod x0 x1)))] [])
 False) := by kernel_rfl
abbrev zdv1 (x0 : Int) (x1 : Int) : Slots × Blocks := ([(6, (Value.int .i64 x0)), (7, (Value.int .i64 x1))], [])
def rdv1 (C : Ct) (L : AtLoop) (x0 : Int) (x1 : Int) (B : Bx) (X : Xx) (k : List D → Prop) : Prop := wpRound Tryz.prog (hE C) L 113 0 [(6, (Value.int .i64 x0)), (7, (Value.int .i64 x1))] [] B X (dataK k)
theorem rdv1_text (C : Ct) (L : AtLoop) (x0 : Int) (x1 : Int) (B : Bx) (X : Xx) (k : List D → Prop) : rdv1 C L x0 x1 B X k =
 (bcase (decide (x1 > 0))
 (bcase (x1 != 0)
 (((bcase (x1 != 0)
 (Qv (vI (Int.tmod x0 x1)))
 False) ∧
 ((Qv (vI x1)) ∧
 ((Qv (vI x0)) ∧
 ((Qv (vI x1)) ∧
 True)))) ∧
 (((bcase (x1 != 0)
 (Qv (vI (Int.tmod x0 x1)))
 False) ∧
 ((Qv (vI x1)) ∧
 True)) ∧
 (True ∧
 (B [(Prod.mk 6 (vI x1)), (Prod.mk 7 (vI (Int.tmod x0 x1)))] []))))
 False)
 (X 0 [(Prod.mk 6 (vI x0))] [])) := by kernel_rfl
def ndv2 (C : Ct) (L : AtLoop) (x0 : Int) (k : List D → Prop) : Prop := wpNext Tryz.prog (hE C) L 113 0 .normal [(6, (Value.int .i64 x0))] [] (dataK k)
theorem ndv2_text (C : Ct) (L : AtLoop) (x0 : Int) (k : List D → Prop) : ndv2 C L x0 k =
 (k [(D.val (vI x0))]) := by kernel_rfl
def glT (C : Ct) (L : AtLoop) (x0 : Int) (x1 : Int) (k : List D → Prop) : Prop := wpFn Tryz.prog (hL C) L 0 91 #[.int .i64 x0, .int .i64 x1] (heapOf []) (dataK k)
theorem glT_text (C : Ct) (L : AtLoop) (x0 : Int) (x1 : Int) (k : List D → Prop) : glT C L x0 x1 k =
 (bcase (decide (x1 < 0))
 (∃ n1 : Int,
 ((Says C 113 [(D.val (vI (IntKind.wrap .i64 (0 - x0)))), (D.val (vI (IntKind.wrap .i64 (0 - x1))))] [(D.val (vI n1))]) ∧
 (bcase (n1 != 0)
 (bcase (n1 != 0)
 (((Qv (Value.agg [(vI (IntKind.wrap .i64 (Int.tdiv (IntKind.wrap .i64 (0 - x0)) n1))), (vI (IntKind.wrap .i64 (Int.tdiv (IntKind.wrap .i64 (0 - x1)) n1)))].toArray)) ∧
 ((bcase (n1 != 0)
 (Qv (vI (IntKind.wrap .i64 (Int.tdiv (IntKind.wrap .i64 (0 - x1)) n1))))
 False) ∧
 ((Qv (vI n1)) ∧
 ((Qv (vI (IntKind.wrap .i64 (0 - x1)))) ∧
 ((bcase (n1 != 0)
 (Qv (vI (IntKind.wrap .i64 (Int.tdiv (IntKind.wrap .i64 (0 - x0)) n1))))
 False) ∧
 ((Qv (vI n1)) ∧
 ((Qv (vI (IntKind.wrap .i64 (0 - x0)))) ∧
 True))))))) ∧
 (True ∧
 (k [(D.agg [(D.val (vI (IntKind.wrap .i64 (Int.tdiv (IntKind.wrap .i64 (0 - x0)) n1)))), (D.val (vI (IntKind.wrap .i64 (Int.tdiv (IntKind.wrap .i64 (0 - x1)) n1))))])])))
 False)
 False)))
 (∃ n1 : Int,
 ((Says C 113 [(D.val (vI x0)), (D.val (vI x1))] [(D.val (vI n1))]) ∧
 (bcase (n1 != 0)
 (bcase (n1 != 0)
 (((Qv (Value.agg [(vI (IntKind.wrap .i64 (Int.tdiv x0 n1))), (vI (IntKind.wrap .i64 (Int.tdiv x1 n1)))].toArray)) ∧
 ((bcase (n1 != 0)
 (Qv (vI (IntKind.wrap .i64 (Int.tdiv x1 n1))))
 False) ∧
 ((Qv (vI n1)) ∧
 ((Qv (vI x1)) ∧
 ((bcase (n1 != 0)
 (Qv (vI (IntKind.wrap .i64 (Int.tdiv x0 n1))))
 False) ∧
 ((Qv (vI n1)) ∧
 ((Qv (vI x0)) ∧
 True))))))) ∧
 (True ∧
 (k [(D.agg [(D.val (vI (IntKind.wrap .i64 (Int.tdiv x0 n1)))), (D.val (vI (IntKind.wrap .i64 (Int.tdiv x1 n1))))])])))
 False)
 False)))) := by kernel_rfl
def giL (C : Ct) (L : AtLoop) (x0 : Int) (k : List D → Prop) : Prop := wpFn Tryz.prog (hL C) L 0 114 #[.int .u8 x0] (heapOf []) (dataK k)
theorem giL_text (C : Ct) (L : AtLoop) (x0 : Int) (k : List D → Prop) : giL C L x0 k =
 (bcase (decide (97 ≤ x0))
 (bcase (decide (x0 ≤ 122))
 (k [(D.val (Value.bool true))])
 (bcase (decide (65 ≤ x0))
 (bcase (decide (x0 ≤ 90))
 (k [(D.val (Value.bool true))])
 (k [(D.val (Value.bool false))]))
 (k [(D.val (Value.bool false))])))
 (bcase (decide (65 ≤ x0))
 (bcase (decide (x0 ≤ 90))
 (k [(D.val (Value.bool true))])
 (k [(D.val (Value.bool false))]))
 (k [(D.val (Value.bool false))]))) := by kernel_rfl
def giD (C : Ct) (L : AtLoop) (x0 : Int) (k : List D → Prop) : Prop := wpFn Tryz.prog (hL C) L 0 110 #[.int .u8 x0] (heapOf []) (dataK k)
theorem giD_text (C : Ct) (L : AtLoop) (x0 : Int) (k : List D → Prop) : giD C L x0 k =
 (bcase (decide (48 ≤ x0))
 (bcase (decide (x0 ≤ 57))
 (k [(D.val (Value.bool true))])
 (k [(D.val (Value.bool false))]))
 (k [(D.val (Value.bool false))])) := by kernel_rfl
def gcN (C : Ct) (L : AtLoop) (s0 : ByteArray) (k : List D → Prop) : Prop := wpFn Tryz.prog (hL C) L 0 87 #[.string s0] (heapOf []) (dataK k)
theorem gcN_text (C : Ct) (L : AtLoop) (s0 : ByteArray) (k : List D → Prop) : gcN C L s0 k =
 (bcase ((↑(ByteArray.size s0) : Int) == 0)
 (k [(D.val (vI 4))])
 (bcase (decide ((↑(ByteArray.size s0) : Int) > 12))
 (k [(D.val (vI 4))])
 (∃ b1 : UInt8,
 ((ByteAt (s0) 0 (b1)) ∧
 (((Says C 114 [(D.val (Value.int IntKind.u8 ((↑(UInt8.toNat b1) : Int))))] [(D.val (Value.bool true))]) ∧
 (L 0 [(Prod.mk 0 (Value.string (s0))), (Prod.mk 19 (vI ((↑(ByteArray.size s0) : Int)))), (Prod.mk 20 (vI 0))] [])) ∨
 ((Says C 114 [(D.val (Value.int IntKind.u8 ((↑(UInt8.toNat b1) : Int))))] [(D.val (Value.bool false))]) ∧
 (k [(D.val (vI 4))]))))))) := by kernel_rfl
abbrev zcN1 (s0 : ByteArray) (x1 : Int) (x2 : Int) : Slots × Blocks := ([(0, (Value.string s0)), (19, (Value.int .i64 x1)), (20, (Value.int .i64 x2))], [])
def rcN1 (C : Ct) (L : AtLoop) (s0 : ByteArray) (x1 : Int) (x2 : Int) (B : Bx) (X : Xx) (k : List D → Prop) : Prop := wpRound Tryz.prog (hL C) L 87 0 [(0, (Value.string s0)), (19, (Value.int .i64 x1)), (20, (Value.int .i64 x2))] [] B X (dataK k)
theorem rcN1_text (C : Ct) (L : AtLoop) (s0 : ByteArray) (x1 : Int) (x2 : Int) (B : Bx) (X : Xx) (k : List D → Prop) : rcN1 C L s0 x1 x2 B X k =
 (bcase (decide (x2 < x1))
 (bcase (decide (0 ≤ x2))
 (∃ b1 : UInt8,
 ((ByteAt (s0) (Int.toNat x2) (b1)) ∧
 (((Says C 114 [(D.val (Value.int IntKind.u8 ((↑(UInt8.toNat b1) : Int))))] [(D.val (Value.bool true))]) ∧
 (B [(Prod.mk 0 (Value.string (s0))), (Prod.mk 19 (vI x1)), (Prod.mk 20 (vI (IntKind.wrap .i64 (x2 + 1))))] [])) ∨
 ((Says C 114 [(D.val (Value.int IntKind.u8 ((↑(UInt8.toNat b1) : Int))))] [(D.val (Value.bool false))]) ∧
 (bcase (decide (0 ≤ x2))
 (∃ b2 : UInt8,
 ((ByteAt (s0) (Int.toNat x2) (b2)) ∧
 (((Says C 110 [(D.val (Value.int IntKind.u8 ((↑(UInt8.toNat b2) : Int))))] [(D.val (Value.bool true))]) ∧
 (B [(Prod.mk 0 (Value.string (s0))), (Prod.mk 19 (vI x1)), (Prod.mk 20 (vI (IntKind.wrap .i64 (x2 + 1))))] [])) ∨
 ((Says C 110 [(D.val (Value.int IntKind.u8 ((↑(UInt8.toNat b2) : Int))))] [(D.val (Value.bool false))]) ∧
 (bcase (decide (0 ≤ x2))
 (∃ b3 : UInt8,
 ((ByteAt (s0) (Int.toNat x2) (b3)) ∧
 (bcase ((↑(UInt8.toNat b3) : Int) != 45)
 (k [(D.val (vI 4))])
 (B [(Prod.mk 0 (Value.string (s0))), (Prod.mk 19 (vI x1)), (Prod.mk 20 (vI (IntKind.wrap .i64 (x2 + 1))))] []))))
 False)))))
 False)))))
 False)
 (X 0 [] [])) := by kernel_rfl
def ncN2 (C : Ct) (L : AtLoop) (k : List D → Prop) : Prop := wpNext Tryz.prog (hL C) L 87 0 .normal [] [] (dataK k)
theorem ncN2_text (C : Ct) (L : AtLoop) (k : List D → Prop) : ncN2 C L k =
 (k [(D.val (vI 0))]) := by kernel_rfl
def gIN (C : Ct) (L : AtLoop) (s0 : ByteArray) (k : List D → Prop) : Prop := wpFn Tryz.prog (hL C) L 0 80 #[.string s0] (heapOf []) (dataK k)
theorem gIN_text (C : Ct) (L : AtLoop) (s0 : ByteArray) (k : List D → Prop) : gIN C L s0 k =
 (bcase (decide ((↑(ByteArray.size s0) : Int) < 1))
 (k [(D.val (Value.bool false))])
 (bcase (decide ((↑(ByteArray.size s0) : Int) > 12))
 (k [(D.val (Value.bool false))])
 (L 0 [(Prod.mk 0 (Value.string (s0))), (Prod.mk 3 (vI 0))] []))) := by kernel_rfl
abbrev zIN1 (s0 : ByteArray) (x1 : Int) : Slots × Blocks := ([(0, (Value.string s0)), (3, (Value.int .i64 x1))], [])
def rIN1 (C : Ct) (L : AtLoop) (s0 : ByteArray) (x1 : Int) (B : Bx) (X : Xx) (k : List D → Prop) : Prop := wpRound Tryz.prog (hL C) L 80 0 [(0, (Value.string s0)), (3, (Value.int .i64 x1))] [] B X (dataK k)
theorem rIN1_text (C : Ct) (L : AtLoop) (s0 : ByteArray) (x1 : Int) (B : Bx) (X : Xx) (k : List D → Prop) : rIN1 C L s0 x1 B X k =
 (bcase (decide (x1 < (↑(ByteArray.size s0) : Int)))
 (bcase (decide (0 ≤ x1))
 (∃ b1 : UInt8,
 ((ByteAt (s0) (Int.toNat x1) (b1)) ∧
 (bcase (decide ((↑(UInt8.toNat b1) : Int) ≥ 97))
 (bcase (decide ((↑(UInt8.toNat b1) : Int) ≤ 122))
 (B [(Prod.mk 0 (Value.string (s0))), (Prod.mk 3 (vI (IntKind.wrap .i64 (x1 + 1))))] [])
 (bcase (decide ((↑(UInt8.toNat b1) : Int) ≥ 65))
 (bcase (decide ((↑(UInt8.toNat b1) : Int) ≤ 90))
 (B [(Prod.mk 0 (Value.string (s0))), (Prod.mk 3 (vI (IntKind.wrap .i64 (x1 + 1))))] [])
 (bcase (x1 == 0)
 (k [(D.val (Value.bool false))])
 (bcase ((↑(UInt8.toNat b1) : Int) != 45)
 (bcase (decide ((↑(UInt8.toNat b1) : Int) < 48))
 (k [(D.val (Value.bool false))])
 (bcase (decide ((↑(UInt8.toNat b1) : Int) > 57))
 (k [(D.val (Value.bool false))])
 (B [(Prod.mk 0 (Value.string (s0))), (Prod.mk 3 (vI (IntKind.wrap .i64 (x1 + 1))))] [])))
 (B [(Prod.mk 0 (Value.string (s0))), (Prod.mk 3 (vI (IntKind.wrap .i64 (x1 + 1))))] []))))
 (bcase (x1 == 0)
 (k [(D.val (Value.bool false))])
 (bcase ((↑(UInt8.toNat b1) : Int) != 45)
 (bcase (decide ((↑(UInt8.toNat b1) : Int) < 48))
 (k [(D.val (Value.bool false))])
 (bcase (decide ((↑(UInt8.toNat b1) : Int) > 57))
 (k [(D.val (Value.bool false))])
 (B [(Prod.mk 0 (Value.string (s0))), (Prod.mk 3 (vI (IntKind.wrap .i64 (x1 + 1))))] [])))
 (B [(Prod.mk 0 (Value.string (s0))), (Prod.mk 3 (vI (IntKind.wrap .i64 (x1 + 1))))] [])))))
 (bcase (decide ((↑(UInt8.toNat b1) : Int) ≥ 65))
 (bcase (decide ((↑(UInt8.toNat b1) : Int) ≤ 90))
 (B [(Prod.mk 0 (Value.string (s0))), (Prod.mk 3 (vI (IntKind.wrap .i64 (x1 + 1))))] [])
 (bcase (x1 == 0)
 (k [(D.val (Value.bool false))])
 (bcase ((↑(UInt8.toNat b1) : Int) != 45)
 (bcase (decide ((↑(UInt8.toNat b1) : Int) < 48))
 (k [(D.val (Value.bool false))])
 (bcase (decide ((↑(UInt8.toNat b1) : Int) > 57))
 (k [(D.val (Value.bool false))])
 (B [(Prod.mk 0 (Value.string (s0))), (Prod.mk 3 (vI (IntKind.wrap .i64 (x1 + 1))))] [])))
 (B [(Prod.mk 0 (Value.string (s0))), (Prod.mk 3 (vI (IntKind.wrap .i64 (x1 + 1))))] []))))
 (bcase (x1 == 0)
 (k [(D.val (Value.bool false))])
 (bcase ((↑(UInt8.toNat b1) : Int) != 45)
 (bcase (decide ((↑(UInt8.toNat b1) : Int) < 48))
 (k [(D.val (Value.bool false))])
 (bcase (decide ((↑(UInt8.toNat b1) : Int) > 57))
 (k [(D.val (Value.bool false))])
 (B [(Prod.mk 0 (Value.string (s0))), (Prod.mk 3 (vI (IntKind.wrap .i64 (x1 + 1))))] [])))
 (B [(Prod.mk 0 (Value.string (s0))), (Prod.mk 3 (vI (IntKind.wrap .i64 (x1 + 1))))] [])))))))
 False)
 (X 0 [] [])) := by kernel_rfl
def nIN2 (C : Ct) (L : AtLoop) (k : List D → Prop) : Prop := wpNext Tryz.prog (hL C) L 80 0 .normal [] [] (dataK k)
theorem nIN2_text (C : Ct) (L : AtLoop) (k : List D → Prop) : nIN2 C L k =
 (k [(D.val (Value.bool true))]) := by kernel_rfl
def gKT (C : Ct) (L : AtLoop) (n0 : Nat) (c0 : Nat) (l0 : List Value) (k : List D → Prop) : Prop := wpFn Tryz.prog (hL C) L 0 54 #[.slice (some ⟨500, 0, none⟩) n0 c0] (heapOf [(500, .sym l0 false 2)]) (dataK k)
theorem gKT_text (C : Ct) (L : AtLoop) (n0 : Nat) (c0 : Nat) (l0 : List Go.Value) (k : List D → Prop) : gKT C L n0 c0 l0 k =
 (∃ n1 : Int,
 ((Says C 88 [(D.val (vI ((↑n0 : Int)))), (D.val (vI 12))] [(D.val (vI n1))]) ∧
 (bcase (n1 != 0)
 (k [(D.val (vI 0)), (D.val (vI n1))])
 (L 0 [(Prod.mk 0 (Sl 500 (n0) (c0))), (Prod.mk 14 (Sl 500 (n0) (c0))), (Prod.mk 15 (vI ((↑n0 : Int)))), (Prod.mk 16 (vI 0))] [(Prod.mk 500 (AObj.sym (l0) false 2))])))) := by kernel_rfl
abbrev zKT1 (n0 : Nat) (c1 : Nat) (n2 : Nat) (c3 : Nat) (x4 : Int) (x5 : Int) (l6 : List Value) : Slots × Blocks := ([(0, (Value.slice (some ⟨500, 0, none⟩) n0 c1)), (14, (Value.slice (some ⟨500, 0, none⟩) n2 c3)), (15, (Value.int .i64 x4)), (16, (Value.int .i64 x5))], [(500, (AObj.sym l6 false 2))])
def rKT1 (C : Ct) (L : AtLoop) (n0 : Nat) (c1 : Nat) (n2 : Nat) (c3 : Nat) (x4 : Int) (x5 : Int) (l6 : List Value) (B : Bx) (X : Xx) (k : List D → Prop) : Prop := wpRound Tryz.prog (hL C) L 54 0 [(0, (Value.slice (some ⟨500, 0, none⟩) n0 c1)), (14, (Value.slice (some ⟨500, 0, none⟩) n2 c3)), (15, (Value.int .i64 x4)), (16, (Value.int .i64 x5))] [(500, (AObj.sym l6 false 2))] B X (dataK k)
theorem rKT1_text (C : Ct) (L : AtLoop) (n0 : Nat) (c1 : Nat) (n2 : Nat) (c3 : Nat) (x4 : Int) (x5 : Int) (l6 : List Go.Value) (B : Bx) (X : Xx) (k : List D → Prop) : rKT1 C L n0 c1 n2 c3 x4 x5 l6 B X k =
 (bcase (decide (x5 < x4))
 (bcase (decide (0 ≤ x5))
 (bcase (decide (x5 < (↑n2 : Int)))
 (∃ n1 : Int,
 (∃ n3 : Int,
 ((At (l6) (0 + Int.toNat x5 * 2) 2 [(vI n1), (vI n3)]) ∧
 ((((Qv (Sl 1002 1 1)) ∧
 (Qv (some (AObj.cells [(vI n3)] 3 false 1)))) ∧
 ((Qv (vI n3)) ∧
 ((Qv (Pt 1000 1)) ∧
 (((Qv (Sl 1001 1 1)) ∧
 (Qv (some (AObj.cells [(vI n1)] 3 false 1)))) ∧
 ((Qv (vI n1)) ∧
 ((Qv (Pt 1000 0)) ∧
 True)))))) ∧
 (∃ n4 : Int,
 ((Says C 55 [(D.sl 1 1 [(vI n1)])] [(D.val (vI n4))]) ∧
 ((((Qv (Sl 1002 1 1)) ∧
 (Qv (some (AObj.cells [(vI n3)] 3 false 1)))) ∧
 ((Qv (vI n3)) ∧
 ((Qv (Pt 1000 1)) ∧
 ((Qv (vI n1)) ∧
 ((Qv (Pt 1000 0)) ∧
 True))))) ∧
 ((((Qv (Sl 1002 1 1)) ∧
 (Qv (some (AObj.cells [(vI n3)] 3 false 1)))) ∧
 ((Qv (vI n3)) ∧
 ((Qv (Pt 1000 1)) ∧
 ((Qv (vI n1)) ∧
 ((Qv (Pt 1000 0)) ∧
 True))))) ∧
 (∃ e1 : Int,
 ((Says limC 0 [(D.val (vI 1)), (D.val (vI 100000)), (D.sl 1 1 [(vI n3)])] [(D.val (vI e1))]) ∧
 ((((Qv (Sl 1005 2 2)) ∧
 (Qv (some (AObj.cells [(vI n4), (vI e1)] 43 false 1)))) ∧
 ((Qv (vI n3)) ∧
 ((Qv (Pt 1000 1)) ∧
 ((Qv (vI n1)) ∧
 ((Qv (Pt 1000 0)) ∧
 True))))) ∧
 (∃ n5 : Int,
 ((Says C 48 [(D.sl 2 1 [(vI n4), (vI e1)])] [(D.val (vI n5))]) ∧
 (((Qv (vI n3)) ∧
 ((Qv (Pt 1000 1)) ∧
 ((Qv (vI n1)) ∧
 ((Qv (Pt 1000 0)) ∧
 True)))) ∧
 (True ∧
 (bcase (n5 != 0)
 (k [(D.val (vI x5)), (D.val (vI n5))])
 (bcase (decide (x5 > 0))
 (bcase (decide (0 ≤ IntKind.wrap .i64 (x5 - 1)))
 (bcase (decide (IntKind.wrap .i64 (x5 - 1) < (↑n0 : Int)))
 (∃ n6 : Int,
 ((At (l6) (0 + Int.toNat (IntKind.wrap .i64 (x5 - 1)) * 2) 1 [(vI n6)]) ∧
 (bcase (decide (n1 ≤ n6))
 (((Qv (Value.bool true)) ∧
 ((bcase (decide (n1 ≤ n6))
 (Qv (Value.bool true))
 ((Value.bool false) = (Value.bool true))) ∧
 ((∃ n7 : Int,
 ((At (l6) (0 + Int.toNat (IntKind.wrap .i64 (x5 - 1)) * 2) 1 [(vI n7)]) ∧
 ((vI n7) = (vI n6)))) ∧
 ((Qv (Pt 500 (0 + Int.toNat (IntKind.wrap .i64 (x5 - 1)) * 2))) ∧
 ((bcase (decide (0 ≤ IntKind.wrap .i64 (x5 - 1)))
 (bcase (decide (IntKind.wrap .i64 (x5 - 1) < (↑n0 : Int)))
 (Qv (Pt 500 (0 + Int.toNat (IntKind.wrap .i64 (x5 - 1)) * 2)))
 False)
 False) ∧
 ((Qv (vI (IntKind.wrap .i64 (x5 - 1)))) ∧
 ((Qv (vI x5)) ∧
 ((Qv (Sl 500 (n0) (c1))) ∧
 ((Qv (vI n1)) ∧
 ((Qv (Pt 1000 0)) ∧
 ((Qv (Value.bool true)) ∧
 ((bcase (decide (x5 > 0))
 (Qv (Value.bool true))
 ((Value.bool false) = (Value.bool true))) ∧
 ((Qv (vI x5)) ∧
 True))))))))))))) ∧
 (k [(D.val (vI x5)), (D.val (vI 9))]))
 (((Qv (Value.bool false)) ∧
 ((bcase (decide (n1 ≤ n6))
 ((Value.bool true) = (Value.bool false))
 (Qv (Value.bool false))) ∧
 ((∃ n7 : Int,
 ((At (l6) (0 + Int.toNat (IntKind.wrap .i64 (x5 - 1)) * 2) 1 [(vI n7)]) ∧
 ((vI n7) = (vI n6)))) ∧
 ((Qv (Pt 500 (0 + Int.toNat (IntKind.wrap .i64 (x5 - 1)) * 2))) ∧
 ((bcase (decide (0 ≤ IntKind.wrap .i64 (x5 - 1)))
 (bcase (decide (IntKind.wrap .i64 (x5 - 1) < (↑n0 : Int)))
 (Qv (Pt 500 (0 + Int.toNat (IntKind.wrap .i64 (x5 - 1)) * 2)))
 False)
 False) ∧
 ((Qv (vI (IntKind.wrap .i64 (x5 - 1)))) ∧
 ((Qv (vI x5)) ∧
 ((Qv (Sl 500 (n0) (c1))) ∧
 ((Qv (vI n1)) ∧
 ((Qv (Pt 1000 0)) ∧
 ((Qv (Value.bool true)) ∧
 ((bcase (decide (x5 > 0))
 (Qv (Value.bool true))
 ((Value.bool false) = (Value.bool true))) ∧
 ((Qv (vI x5)) ∧
 True))))))))))))) ∧
 (B [(Prod.mk 0 (Sl 500 (n0) (c1))), (Prod.mk 14 (Sl 500 (n2) (c3))), (Prod.mk 15 (vI x4)), (Prod.mk 16 (vI (IntKind.wrap .i64 (x5 + 1))))] [(Prod.mk 500 (AObj.sym (l6) false 2))])))))
 False)
 False)
 (((Qv (Value.bool false)) ∧
 ((Qv (Value.tuple [].toArray)) ∧
 ((Qv (Value.tuple [].toArray)) ∧
 ((Qv (Value.tuple [].toArray)) ∧
 ((Qv (Value.tuple [].toArray)) ∧
 ((Qv (Value.tuple [].toArray)) ∧
 ((Qv (Value.tuple [].toArray)) ∧
 ((Qv (Value.tuple [].toArray)) ∧
 ((Qv (Value.tuple [].toArray)) ∧
 ((Qv (Value.tuple [].toArray)) ∧
 ((Qv (Value.bool false)) ∧
 ((bcase (decide (x5 > 0))
 ((Value.bool true) = (Value.bool false))
 (Qv (Value.bool false))) ∧
 ((Qv (vI x5)) ∧
 True))))))))))))) ∧
 (B [(Prod.mk 0 (Sl 500 (n0) (c1))), (Prod.mk 14 (Sl 500 (n2) (c3))), (Prod.mk 15 (vI x4)), (Prod.mk 16 (vI (IntKind.wrap .i64 (x5 + 1))))] [(Prod.mk 500 (AObj.sym (l6) false 2))])))))))))))))))))))
 False)
 False)
 (X 0 [] [])) := by kernel_rfl
def nKT2 (C : Ct) (L : AtLoop) (k : List D → Prop) : Prop := wpNext Tryz.prog (hL C) L 54 0 .normal [] [] (dataK k)
theorem nKT2_text (C : Ct) (L : AtLoop) (k : List D → Prop) : nKT2 C L k =
 (k [(D.val (vI 0)), (D.val (vI 0))]) := by kernel_rfl
def gRK (C : Ct) (L : AtLoop) (n0 : Nat) (c0 : Nat) (l0 : List Value) (k : List D → Prop) : Prop := wpFn Tryz.prog (hL C) L 0 77 #[.slice (some ⟨500, 0, none⟩) n0 c0] (heapOf [(500, .sym l0 false 2)]) (dataK k)
theorem gRK_text (C : Ct) (L : AtLoop) (n0 : Nat) (c0 : Nat) (l0 : List Go.Value) (k : List D → Prop) : gRK C L n0 c0 l0 k =
 (bcase ((↑n0 : Int) == 0)
 (k [(D.val (vI 0)), (D.val (vI 10))])
 (bcase (decide ((↑n0 : Int) > 12))
 (k [(D.val (vI 0)), (D.val (vI 8))])
 (L 0 [(Prod.mk 0 (Sl 500 (n0) (c0))), (Prod.mk 4 (vI 0))] [(Prod.mk 500 (AObj.sym (l0) false 2))]))) := by kernel_rfl
abbrev zRK1 (n0 : Nat) (c1 : Nat) (x2 : Int) (l3 : List Value) : Slots × Blocks := ([(0, (Value.slice (some ⟨500, 0, none⟩) n0 c1)), (4, (Value.int .i64 x2))], [(500, (AObj.sym l3 false 2))])
def rRK1 (C : Ct) (L : AtLoop) (n0 : Nat) (c1 : Nat) (x2 : Int) (l3 : List Value) (B : Bx) (X : Xx) (k : List D → Prop) : Prop := wpRound Tryz.prog (hL C) L 77 0 [(0, (Value.slice (some ⟨500, 0, none⟩) n0 c1)), (4, (Value.int .i64 x2))] [(500, (AObj.sym l3 false 2))] B X (dataK k)
theorem rRK1_text (C : Ct) (L : AtLoop) (n0 : Nat) (c1 : Nat) (x2 : Int) (l3 : List Go.Value) (B : Bx) (X : Xx) (k : List D → Prop) : rRK1 C L n0 c1 x2 l3 B X k =
 (bcase (decide (x2 < (↑n0 : Int)))
 (bcase (decide (0 ≤ x2))
 (bcase (decide (x2 < (↑n0 : Int)))
 (∃ n1 : Int,
 ((At (l3) (0 + Int.toNat x2 * 2) 1 [(vI n1)]) ∧
 (∃ n2 : Int,
 ((Says C 81 [(D.val (vI n1))] [(D.val (vI n2))]) ∧
 (bcase (n2 != 0)
 (k [(D.val (vI x2)), (D.val (vI 2))])
 (bcase (decide (0 ≤ x2))
 (bcase (decide (x2 < (↑n0 : Int)))
 (∃ n3 : Int,
 ((At (l3) (Addr.off { block := 500, off := 0 + Int.toNat x2 * 2 } + 1) 1 [(vI n3)]) ∧
 (((Says C 42 [(D.val (vI n3)), (D.val (vI 1)), (D.val (vI 100000))] [(D.val (Value.bool true))]) ∧
 (bcase (decide (x2 > 0))
 (bcase (decide (0 ≤ x2))
 (bcase (decide (x2 < (↑n0 : Int)))
 (∃ n4 : Int,
 ((At (l3) (0 + Int.toNat x2 * 2) 1 [(vI n4)]) ∧
 (bcase (decide (0 ≤ IntKind.wrap .i64 (x2 - 1)))
 (bcase (decide (IntKind.wrap .i64 (x2 - 1) < (↑n0 : Int)))
 (∃ n5 : Int,
 ((At (l3) (0 + Int.toNat (IntKind.wrap .i64 (x2 - 1)) * 2) 1 [(vI n5)]) ∧
 (bcase (decide (n4 ≤ n5))
 (((Qv (Value.bool true)) ∧
 ((bcase (decide (n4 ≤ n5))
 (Qv (Value.bool true))
 ((Value.bool false) = (Value.bool true))) ∧
 ((∃ n6 : Int,
 ((At (l3) (0 + Int.toNat (IntKind.wrap .i64 (x2 - 1)) * 2) 1 [(vI n6)]) ∧
 ((vI n6) = (vI n5)))) ∧
 ((Qv (Pt 500 (0 + Int.toNat (IntKind.wrap .i64 (x2 - 1)) * 2))) ∧
 ((bcase (decide (0 ≤ IntKind.wrap .i64 (x2 - 1)))
 (bcase (decide (IntKind.wrap .i64 (x2 - 1) < (↑n0 : Int)))
 (Qv (Pt 500 (0 + Int.toNat (IntKind.wrap .i64 (x2 - 1)) * 2)))
 False)
 False) ∧
 ((Qv (vI (IntKind.wrap .i64 (x2 - 1)))) ∧
 ((Qv (vI x2)) ∧
 ((Qv (Sl 500 (n0) (c1))) ∧
 ((∃ n6 : Int,
 ((At (l3) (0 + Int.toNat x2 * 2) 1 [(vI n6)]) ∧
 ((vI n6) = (vI n4)))) ∧
 ((Qv (Pt 500 (0 + Int.toNat x2 * 2))) ∧
 ((bcase (decide (0 ≤ x2))
 (bcase (decide (x2 < (↑n0 : Int)))
 (Qv (Pt 500 (0 + Int.toNat x2 * 2)))
 False)
 False) ∧
 ((Qv (vI x2)) ∧
 ((Qv (Sl 500 (n0) (c1))) ∧
 ((Qv (Value.bool true)) ∧
 ((bcase (decide (x2 > 0))
 (Qv (Value.bool true))
 ((Value.bool false) = (Value.bool true))) ∧
 ((Qv (vI x2)) ∧
 True)))))))))))))))) ∧
 (k [(D.val (vI x2)), (D.val (vI 9))]))
 (((Qv (Value.bool false)) ∧
 ((bcase (decide (n4 ≤ n5))
 ((Value.bool true) = (Value.bool false))
 (Qv (Value.bool false))) ∧
 ((∃ n6 : Int,
 ((At (l3) (0 + Int.toNat (IntKind.wrap .i64 (x2 - 1)) * 2) 1 [(vI n6)]) ∧
 ((vI n6) = (vI n5)))) ∧
 ((Qv (Pt 500 (0 + Int.toNat (IntKind.wrap .i64 (x2 - 1)) * 2))) ∧
 ((bcase (decide (0 ≤ IntKind.wrap .i64 (x2 - 1)))
 (bcase (decide (IntKind.wrap .i64 (x2 - 1) < (↑n0 : Int)))
 (Qv (Pt 500 (0 + Int.toNat (IntKind.wrap .i64 (x2 - 1)) * 2)))
 False)
 False) ∧
 ((Qv (vI (IntKind.wrap .i64 (x2 - 1)))) ∧
 ((Qv (vI x2)) ∧
 ((Qv (Sl 500 (n0) (c1))) ∧
 ((∃ n6 : Int,
 ((At (l3) (0 + Int.toNat x2 * 2) 1 [(vI n6)]) ∧
 ((vI n6) = (vI n4)))) ∧
 ((Qv (Pt 500 (0 + Int.toNat x2 * 2))) ∧
 ((bcase (decide (0 ≤ x2))
 (bcase (decide (x2 < (↑n0 : Int)))
 (Qv (Pt 500 (0 + Int.toNat x2 * 2)))
 False)
 False) ∧
 ((Qv (vI x2)) ∧
 ((Qv (Sl 500 (n0) (c1))) ∧
 ((Qv (Value.bool true)) ∧
 ((bcase (decide (x2 > 0))
 (Qv (Value.bool true))
 ((Value.bool false) = (Value.bool true))) ∧
 ((Qv (vI x2)) ∧
 True)))))))))))))))) ∧
 (B [(Prod.mk 0 (Sl 500 (n0) (c1))), (Prod.mk 4 (vI (IntKind.wrap .i64 (x2 + 1))))] [(Prod.mk 500 (AObj.sym (l3) false 2))])))))
 False)
 False)))
 False)
 False)
 (((Qv (Value.bool false)) ∧
 ((Qv (Value.tuple [].toArray)) ∧
 ((Qv (Value.tuple [].toArray)) ∧
 ((Qv (Value.tuple [].toArray)) ∧
 ((Qv (Value.tuple [].toArray)) ∧
 ((Qv (Value.tuple [].toArray)) ∧
 ((Qv (Value.tuple [].toArray)) ∧
 ((Qv (Value.tuple [].toArray)) ∧
 ((Qv (Value.tuple [].toArray)) ∧
 ((Qv (Value.tuple [].toArray)) ∧
 ((Qv (Value.tuple [].toArray)) ∧
 ((Qv (Value.tuple [].toArray)) ∧
 ((Qv (Value.tuple [].toArray)) ∧
 ((Qv (Value.bool false)) ∧
 ((bcase (decide (x2 > 0))
 ((Value.bool true) = (Value.bool false))
 (Qv (Value.bool false))) ∧
 ((Qv (vI x2)) ∧
 True)))))))))))))))) ∧
 (B [(Prod.mk 0 (Sl 500 (n0) (c1))), (Prod.mk 4 (vI (IntKind.wrap .i64 (x2 + 1))))] [(Prod.mk 500 (AObj.sym (l3) false 2))])))) ∨
 ((Says C 42 [(D.val (vI n3)), (D.val (vI 1)), (D.val (vI 100000))] [(D.val (Value.bool false))]) ∧
 (k [(D.val (vI x2)), (D.val (vI 2))])))))
 False)
 False))))))
 False)
 False)
 (X 0 [] [])) := by kernel_rfl
def nRK2 (C : Ct) (L : AtLoop) (k : List D → Prop) : Prop := wpNext Tryz.prog (hL C) L 77 0 .normal [] [] (dataK k)
theorem nRK2_text (C : Ct) (L : AtLoop) (k : List D → Prop) : nRK2 C L k =
 (k [(D.val (vI 0)), (D.val (vI 0))]) := by kernel_rfl
def gRKn (C : Ct) (L : AtLoop) (k : List D → Prop) : Prop := wpFn Tryz.prog (hL C) L 0 77 #[.slice none 0 0] (heapOf []) (dataK k)
theorem gRKn_text (C : Ct) (L : AtLoop) (k : List D → Prop) : gRKn C L k =
 (k [(D.val (vI 0)), (D.val (vI 10))]) := by kernel_rfl
def gXE (C : Ct) (L : AtLoop) (x0 : Int) (k : List D → Prop) : Prop := wpFn Tryz.prog (hL C) L 0 81 #[.int .i64 x0] (heapOf []) (dataK k)
theorem gXE_text (C : Ct) (L : AtLoop) (x0 : Int) (k : List D → Prop) : gXE C L x0 k =
 (((Says C 42 [(D.val (vI x0)), (D.val (vI 0)), (D.val (vI 20000))] [(D.val (Value.bool true))]) ∧
 (k [(D.val (vI 0))])) ∨
 ((Says C 42 [(D.val (vI x0)), (D.val (vI 0)), (D.val (vI 20000))] [(D.val (Value.bool false))]) ∧
 (k [(D.val (vI 2))]))) := by kernel_rfl
def giG (C : Ct) (L : AtLoop) (x0 : Int) (x1 : Int) (k : List D → Prop) : Prop := wpFn Tryz.prog (hL C) L 0 79 #[.agg #[.int .i64 x0, .int .i64 x1]] (heapOf []) (dataK k)
theorem giG_text (C : Ct) (L : AtLoop) (x0 : Int) (x1 : Int) (k : List D → Prop) : giG C L x0 x1 k =
 (((Says C 42 [(D.val (vI x0)), (D.val (vI 1)), (D.val (vI 900))] [(D.val (Value.bool true))]) ∧
 (bcase (decide (x1 ≤ 900))
 (k [(D.val (Value.bool true))])
 (k [(D.val (Value.bool false))]))) ∨
 ((Says C 42 [(D.val (vI x0)), (D.val (vI 1)), (D.val (vI 900))] [(D.val (Value.bool false))]) ∧
 (k [(D.val (Value.bool false))]))) := by kernel_rfl
def gIL (C : Ct) (L : AtLoop) (x0 : Int) (x1 : Int) (k : List D → Prop) : Prop := wpFn Tryz.prog (hL C) L 0 78 #[.agg #[.int .i64 x0, .int .i64 x1]] (heapOf []) (dataK k)
theorem gIL_text (C : Ct) (L : AtLoop) (x0 : Int) (x1 : Int) (k : List D → Prop) : gIL C L x0 x1 k =
 (bcase (decide (x1 > 0))
 (∃ n1 : Int,
 ((Says C 90 [(D.val (vI x0)), (D.val (vI x1))] [(D.val (vI n1))]) ∧
 (bcase (n1 == 1)
 (k [(D.val (Value.bool true))])
 (k [(D.val (Value.bool false))]))))
 (k [(D.val (Value.bool false))])) := by kernel_rfl
def gKR (C : Ct) (L : AtLoop) (n0 : Nat) (c0 : Nat) (l0 : List Value) (x1 : Int) (x2 : Int) (x3 : Int) (x4 : Int) (x5 : Int) (k : List D → Prop) : Prop := wpFn Tryz.prog (hL C) L 0 47 #[.agg #[.slice (some ⟨500, 0, none⟩) n0 c0, .int .i64 x1, .int .i64 x2, .int .i64 x3, .int .i64 x4, .int .i64 x5]] (heapOf [(500, .sym l0 false 2)]) (dataK k)
theorem gKR_text (C : Ct) (L : AtLoop) (n0 : Nat) (c0 : Nat) (l0 : List Go.Value) (x1 : Int) (x2 : Int) (x3 : Int) (x4 : Int) (x5 : Int) (k : List D → Prop) : gKR C L n0 c0 l0 x1 x2 x3 x4 x5 k =
 (bcase (decide (0 + n0 * 2 ≤ List.length l0))
 (∃ n1 : Int,
 (∃ n2 : Int,
 ((Says C 54 [(D.sl (n0) 2 (List.take (n0 * 2) (List.drop 0 l0)))] [(D.val (vI n1)), (D.val (vI n2))]) ∧
 (bcase (n2 != 0)
 (k [(D.val (vI n1)), (D.val (vI n2))])
 ((((Qv (Sl 1003 1 1)) ∧
 (Qv (some (AObj.cells [(vI x5)] 3 false 1)))) ∧
 ((Qv (vI x5)) ∧
 ((Qv (Pt 1000 5)) ∧
 (((Qv (Sl 1002 4 4)) ∧
 (Qv (some (AObj.cells [(vI x1), (vI x2), (vI x3), (vI x4)] 3 false 1)))) ∧
 ((Qv (vI x4)) ∧
 ((Qv (Pt 1000 4)) ∧
 ((Qv (Pt 1000 3)) ∧
 ((Qv (vI x3)) ∧
 ((Qv (Pt 1000 3)) ∧
 ((Qv (Pt 1000 3)) ∧
 ((Qv (vI x2)) ∧
 ((Qv (Pt 1000 2)) ∧
 ((Qv (Pt 1000 1)) ∧
 ((Qv (vI x1)) ∧
 ((Qv (Pt 1000 1)) ∧
 ((Qv (Pt 1000 1)) ∧
 (((Qv (Sl 1001 2 2)) ∧
 (Qv (some (AObj.cells [(vI x1), (vI x2), (vI x3), (vI x4)] 24 false 2)))) ∧
 ((Qv (Value.agg [(vI x3), (vI x4)].toArray)) ∧
 ((Qv (Pt 1000 3)) ∧
 ((Qv (Value.agg [(vI x1), (vI x2)].toArray)) ∧
 ((Qv (Pt 1000 1)) ∧
 True))))))))))))))))))))) ∧
 (∃ n3 : Int,
 ((Says C 85 [(D.sl 2 2 [(vI x1), (vI x2), (vI x3), (vI x4)])] [(D.val (vI n3))]) ∧
 ((((Qv (Sl 1003 1 1)) ∧
 (Qv (some (AObj.cells [(vI x5)] 3 false 1)))) ∧
 ((Qv (vI x5)) ∧
 ((Qv (Pt 1000 5)) ∧
 (((Qv (Sl 1002 4 4)) ∧
 (Qv (some (AObj.cells [(vI x1), (vI x2), (vI x3), (vI x4)] 3 false 1)))) ∧
 ((Qv (vI x4)) ∧
 ((Qv (Pt 1000 4)) ∧
 ((Qv (Pt 1000 3)) ∧
 ((Qv (vI x3)) ∧
 ((Qv (Pt 1000 3)) ∧
 ((Qv (Pt 1000 3)) ∧
 ((Qv (vI x2)) ∧
 ((Qv (Pt 1000 2)) ∧
 ((Qv (Pt 1000 1)) ∧
 ((Qv (vI x1)) ∧
 ((Qv (Pt 1000 1)) ∧
 ((Qv (Pt 1000 1)) ∧
 ((Qv (Value.agg [(vI x3), (vI x4)].toArray)) ∧
 ((Qv (Pt 1000 3)) ∧
 ((Qv (Value.agg [(vI x1), (vI x2)].toArray)) ∧
 ((Qv (Pt 1000 1)) ∧
 True)))))))))))))))))))) ∧
 ((((Qv (Sl 1003 1 1)) ∧
 (Qv (some (AObj.cells [(vI x5)] 3 false 1)))) ∧
 ((Qv (vI x5)) ∧
 ((Qv (Pt 1000 5)) ∧
 (((Qv (Sl 1002 4 4)) ∧
 (Qv (some (AObj.cells [(vI x1), (vI x2), (vI x3), (vI x4)] 3 false 1)))) ∧
 ((Qv (vI x4)) ∧
 ((Qv (Pt 1000 4)) ∧
 ((Qv (Pt 1000 3)) ∧
 ((Qv (vI x3)) ∧
 ((Qv (Pt 1000 3)) ∧
 ((Qv (Pt 1000 3)) ∧
 ((Qv (vI x2)) ∧
 ((Qv (Pt 1000 2)) ∧
 ((Qv (Pt 1000 1)) ∧
 ((Qv (vI x1)) ∧
 ((Qv (Pt 1000 1)) ∧
 ((Qv (Pt 1000 1)) ∧
 ((Qv (Value.agg [(vI x3), (vI x4)].toArray)) ∧
 ((Qv (Pt 1000 3)) ∧
 ((Qv (Value.agg [(vI x1), (vI x2)].toArray)) ∧
 ((Qv (Pt 1000 1)) ∧
 True)))))))))))))))))))) ∧
 (∃ e1 : Int,
 ((Says limC 0 [(D.val (vI 1)), (D.val (vI 900)), (D.sl 4 1 [(vI x1), (vI x2), (vI x3), (vI x4)])] [(D.val (vI e1))]) ∧
 ((((Qv (Sl 1003 1 1)) ∧
 (Qv (some (AObj.cells [(vI x5)] 3 false 1)))) ∧
 ((Qv (vI x5)) ∧
 ((Qv (Pt 1000 5)) ∧
 ((Qv (vI x4)) ∧
 ((Qv (Pt 1000 4)) ∧
 ((Qv (Pt 1000 3)) ∧
 ((Qv (vI x3)) ∧
 ((Qv (Pt 1000 3)) ∧
 ((Qv (Pt 1000 3)) ∧
 ((Qv (vI x2)) ∧
 ((Qv (Pt 1000 2)) ∧
 ((Qv (Pt 1000 1)) ∧
 ((Qv (vI x1)) ∧
 ((Qv (Pt 1000 1)) ∧
 ((Qv (Pt 1000 1)) ∧
 ((Qv (Value.agg [(vI x3), (vI x4)].toArray)) ∧
 ((Qv (Pt 1000 3)) ∧
 ((Qv (Value.agg [(vI x1), (vI x2)].toArray)) ∧
 ((Qv (Pt 1000 1)) ∧
 True))))))))))))))))))) ∧
 ((((Qv (Sl 1003 1 1)) ∧
 (Qv (some (AObj.cells [(vI x5)] 3 false 1)))) ∧
 ((Qv (vI x5)) ∧
 ((Qv (Pt 1000 5)) ∧
 ((Qv (vI x4)) ∧
 ((Qv (Pt 1000 4)) ∧
 ((Qv (Pt 1000 3)) ∧
 ((Qv (vI x3)) ∧
 ((Qv (Pt 1000 3)) ∧
 ((Qv (Pt 1000 3)) ∧
 ((Qv (vI x2)) ∧
 ((Qv (Pt 1000 2)) ∧
 ((Qv (Pt 1000 1)) ∧
 ((Qv (vI x1)) ∧
 ((Qv (Pt 1000 1)) ∧
 ((Qv (Pt 1000 1)) ∧
 ((Qv (Value.agg [(vI x3), (vI x4)].toArray)) ∧
 ((Qv (Pt 1000 3)) ∧
 ((Qv (Value.agg [(vI x1), (vI x2)].toArray)) ∧
 ((Qv (Pt 1000 1)) ∧
 True))))))))))))))))))) ∧
 (∃ e2 : Int,
 ((Says limC 0 [(D.val (vI 0)), (D.val (vI 900)), (D.sl 1 1 [(vI x5)])] [(D.val (vI e2))]) ∧
 ((((Qv (Sl 1008 3 3)) ∧
 (Qv (some (AObj.cells [(vI n3), (vI e1), (vI e2)] 43 false 1)))) ∧
 ((Qv (vI x5)) ∧
 ((Qv (Pt 1000 5)) ∧
 ((Qv (vI x4)) ∧
 ((Qv (Pt 1000 4)) ∧
 ((Qv (Pt 1000 3)) ∧
 ((Qv (vI x3)) ∧
 ((Qv (Pt 1000 3)) ∧
 ((Qv (Pt 1000 3)) ∧
 ((Qv (vI x2)) ∧
 ((Qv (Pt 1000 2)) ∧
 ((Qv (Pt 1000 1)) ∧
 ((Qv (vI x1)) ∧
 ((Qv (Pt 1000 1)) ∧
 ((Qv (Pt 1000 1)) ∧
 ((Qv (Value.agg [(vI x3), (vI x4)].toArray)) ∧
 ((Qv (Pt 1000 3)) ∧
 ((Qv (Value.agg [(vI x1), (vI x2)].toArray)) ∧
 ((Qv (Pt 1000 1)) ∧
 True))))))))))))))))))) ∧
 (∃ n4 : Int,
 ((Says C 48 [(D.sl 3 1 [(vI n3), (vI e1), (vI e2)])] [(D.val (vI n4))]) ∧
 (((Qv (vI x5)) ∧
 ((Qv (Pt 1000 5)) ∧
 ((Qv (vI x4)) ∧
 ((Qv (Pt 1000 4)) ∧
 ((Qv (Pt 1000 3)) ∧
 ((Qv (vI x3)) ∧
 ((Qv (Pt 1000 3)) ∧
 ((Qv (Pt 1000 3)) ∧
 ((Qv (vI x2)) ∧
 ((Qv (Pt 1000 2)) ∧
 ((Qv (Pt 1000 1)) ∧
 ((Qv (vI x1)) ∧
 ((Qv (Pt 1000 1)) ∧
 ((Qv (Pt 1000 1)) ∧
 ((Qv (Value.agg [(vI x3), (vI x4)].toArray)) ∧
 ((Qv (Pt 1000 3)) ∧
 ((Qv (Value.agg [(vI x1), (vI x2)].toArray)) ∧
 ((Qv (Pt 1000 1)) ∧
 True)))))))))))))))))) ∧
 (((Qv (vI x5)) ∧
 ((Qv (Pt 1000 5)) ∧
 ((Qv (vI x4)) ∧
 ((Qv (Pt 1000 4)) ∧
 ((Qv (Pt 1000 3)) ∧
 ((Qv (vI x3)) ∧
 ((Qv (Pt 1000 3)) ∧
 ((Qv (Pt 1000 3)) ∧
 ((Qv (vI x2)) ∧
 ((Qv (Pt 1000 2)) ∧
 ((Qv (Pt 1000 1)) ∧
 ((Qv (vI x1)) ∧
 ((Qv (Pt 1000 1)) ∧
 ((Qv (Pt 1000 1)) ∧
 ((Qv (Value.agg [(vI x3), (vI x4)].toArray)) ∧
 ((Qv (Pt 1000 3)) ∧
 ((Qv (Value.agg [(vI x1), (vI x2)].toArray)) ∧
 ((Qv (Pt 1000 1)) ∧
 True)))))))))))))))))) ∧
 (True ∧
 (k [(D.val (vI 0)), (D.val (vI n4))]))))))))))))))))))))))
 False) := by kernel_rfl
def gRR (C : Ct) (L : AtLoop) (n0 : Nat) (c0 : Nat) (l0 : List Value) (x1 : Int) (x2 : Int) (x3 : Int) (x4 : Int) (x5 : Int) (k : List D → Prop) : Prop := wpFn Tryz.prog (hL C) L 0 41 #[.agg #[.slice (some ⟨500, 0, none⟩) n0 c0, .int .i64 x1, .int .i64 x2, .int .i64 x3, .int .i64 x4, .int .i64 x5]] (heapOf [(500, .sym l0 false 2)]) (dataK k)
theorem gRR_text (C : Ct) (L : AtLoop) (n0 : Nat) (c0 : Nat) (l0 : List Go.Value) (x1 : Int) (x2 : Int) (x3 : Int) (x4 : Int) (x5 : Int) (k : List D → Prop) : gRR C L n0 c0 l0 x1 x2 x3 x4 x5 k =
 (bcase (decide (0 + n0 * 2 ≤ List.length l0))
 (∃ n1 : Int,
 (∃ n2 : Int,
 ((Says C 77 [(D.sl (n0) 2 (List.take (n0 * 2) (List.drop 0 l0)))] [(D.val (vI n1)), (D.val (vI n2))]) ∧
 (bcase (n2 != 0)
 (k [(D.val (vI n1)), (D.val (vI n2))])
 (((Says C 78 [(D.agg [(D.val (vI x1)), (D.val (vI x2))])] [(D.val (Value.bool true))]) ∧
 (((Says C 78 [(D.agg [(D.val (vI x3)), (D.val (vI x4))])] [(D.val (Value.bool true))]) ∧
 (((Says C 79 [(D.agg [(D.val (vI x1)), (D.val (vI x2))])] [(D.val (Value.bool true))]) ∧
 (((Says C 79 [(D.agg [(D.val (vI x3)), (D.val (vI x4))])] [(D.val (Value.bool true))]) ∧
 (((Says C 42 [(D.val (vI x5)), (D.val (vI 0)), (D.val (vI 900))] [(D.val (Value.bool true))]) ∧
 (k [(D.val (vI 0)), (D.val (vI 0))])) ∨
 ((Says C 42 [(D.val (vI x5)), (D.val (vI 0)), (D.val (vI 900))] [(D.val (Value.bool false))]) ∧
 (k [(D.val (vI 0)), (D.val (vI 2))])))) ∨
 ((Says C 79 [(D.agg [(D.val (vI x3)), (D.val (vI x4))])] [(D.val (Value.bool false))]) ∧
 (k [(D.val (vI 0)), (D.val (vI 2))])))) ∨
 ((Says C 79 [(D.agg [(D.val (vI x1)), (D.val (vI x2))])] [(D.val (Value.bool false))]) ∧
 (k [(D.val (vI 0)), (D.val (vI 2))])))) ∨
 ((Says C 78 [(D.agg [(D.val (vI x3)), (D.val (vI x4))])] [(D.val (Value.bool false))]) ∧
 (k [(D.val (vI 0)), (D.val (vI 3))])))) ∨
 ((Says C 78 [(D.agg [(D.val (vI x1)), (D.val (vI x2))])] [(D.val (Value.bool false))]) ∧
 (k [(D.val (vI 0)), (D.val (vI 3))])))))))
 False) := by kernel_rfl
def gRRn (C : Ct) (L : AtLoop) (x1 : Int) (x2 : Int) (x3 : Int) (x4 : Int) (x5 : Int) (k : List D → Prop) : Prop := wpFn Tryz.prog (hL C) L 0 41 #[.agg #[.slice none 0 0, .int .i64 x1, .int .i64 x2, .int .i64 x3, .int .i64 x4, .int .i64 x5]] (heapOf []) (dataK k)
theorem gRRn_text (C : Ct) (L : AtLoop) (x1 : Int) (x2 : Int) (x3 : Int) (x4 : Int) (x5 : Int) (k : List D → Prop) : gRRn C L x1 x2 x3 x4 x5 k =
 (∃ n1 : Int,
 (∃ n2 : Int,
 ((Says C 77 [D.nil] [(D.val (vI n1)), (D.val (vI n2))]) ∧
 (bcase (n2 != 0)
 (k [(D.val (vI n1)), (D.val (vI n2))])
 (((Says C 78 [(D.agg [(D.val (vI x1)), (D.val (vI x2))])] [(D.val (Value.bool true))]) ∧
 (((Says C 78 [(D.agg [(D.val (vI x3)), (D.val (vI x4))])] [(D.val (Value.bool true))]) ∧
 (((Says C 79 [(D.agg [(D.val (vI x1)), (D.val (vI x2))])] [(D.val (Value.bool true))]) ∧
 (((Says C 79 [(D.agg [(D.val (vI x3)), (D.val (vI x4))])] [(D.val (Value.bool true))]) ∧
 (((Says C 42 [(D.val (vI x5)), (D.val (vI 0)), (D.val (vI 900))] [(D.val (Value.bool true))]) ∧
 (k [(D.val (vI 0)), (D.val (vI 0))])) ∨
 ((Says C 42 [(D.val (vI x5)), (D.val (vI 0)), (D.val (vI 900))] [(D.val (Value.bool false))]) ∧
 (k [(D.val (vI 0)), (D.val (vI 2))])))) ∨
 ((Says C 79 [(D.agg [(D.val (vI x3)), (D.val (vI x4))])] [(D.val (Value.bool false))]) ∧
 (k [(D.val (vI 0)), (D.val (vI 2))])))) ∨
 ((Says C 79 [(D.agg [(D.val (vI x1)), (D.val (vI x2))])] [(D.val (Value.bool false))]) ∧
 (k [(D.val (vI 0)), (D.val (vI 2))])))) ∨
 ((Says C 78 [(D.agg [(D.val (vI x3)), (D.val (vI x4))])] [(D.val (Value.bool false))]) ∧
 (k [(D.val (vI 0)), (D.val (vI 3))])))) ∨
 ((Says C 78 [(D.agg [(D.val (vI x1)), (D.val (vI x2))])] [(D.val (Value.bool false))]) ∧
 (k [(D.val (vI 0)), (D.val (vI 3))]))))))) := by kernel_rfl
def gRE (C : Ct) (L : AtLoop) (n0 : Nat) (c0 : Nat) (l0 : List Value) (x1 : Int) (x2 : Int) (x3 : Int) (x4 : Int) (x5 : Int) (k : List D → Prop) : Prop := wpFn Tryz.prog (hL C) L 0 16 #[.agg #[.slice (some ⟨500, 0, none⟩) n0 c0, .int .i64 x1, .int .i64 x2, .int .i64 x3, .int .i64 x4, .int .i64 x5]] (heapOf [(500, .sym l0 false 2)]) (dataK k)
theorem gRE_text (C : Ct) (L : AtLoop) (n0 : Nat) (c0 : Nat) (l0 : List Go.Value) (x1 : Int) (x2 : Int) (x3 : Int) (x4 : Int) (x5 : Int) (k : List D → Prop) : gRE C L n0 c0 l0 x1 x2 x3 x4 x5 k =
 (bcase (decide (0 + n0 * 2 ≤ List.length l0))
 (∃ n1 : Int,
 (∃ n2 : Int,
 ((Says C 41 [(D.agg [(D.sl (n0) 2 (List.take (n0 * 2) (List.drop 0 l0))), (D.val (vI x1)), (D.val (vI x2)), (D.val (vI x3)), (D.val (vI x4)), (D.val (vI x5))])] [(D.val (vI n1)), (D.val (vI n2))]) ∧
 (k [(D.val (vI n2))]))))
 False) := by kernel_rfl
def gREn (C : Ct) (L : AtLoop) (x1 : Int) (x2 : Int) (x3 : Int) (x4 : Int) (x5 : Int) (k : List D → Prop) : Prop := wpFn Tryz.prog (hL C) L 0 16 #[.agg #[.slice none 0 0, .int .i64 x1, .int .i64 x2, .int .i64 x3, .int .i64 x4, .int .i64 x5]] (heapOf []) (dataK k)
theorem gREn_text (C : Ct) (L : AtLoop) (x1 : Int) (x2 : Int) (x3 : Int) (x4 : Int) (x5 : Int) (k : List D → Prop) : gREn C L x1 x2 x3 x4 x5 k =
 (∃ n1 : Int,
 (∃ n2 : Int,
 ((Says C 41 [(D.agg [D.nil, (D.val (vI x1)), (D.val (vI x2)), (D.val (vI x3)), (D.val (vI x4)), (D.val (vI x5))])] [(D.val (vI n1)), (D.val (vI n2))]) ∧
 (k [(D.val (vI n2))])))) := by kernel_rfl
def gCE (C : Ct) (L : AtLoop) (n0 : Nat) (c0 : Nat) (l0 : List Value) (x1 : Int) (x2 : Int) (x3 : Int) (x4 : Int) (x5 : Int) (x6 : Int) (x7 : Int) (k : List D → Prop) : Prop := wpFn Tryz.prog (hL C) L 0 17 #[.agg #[.slice (some ⟨500, 0, none⟩) n0 c0, .int .i64 x1, .int .i64 x2, .int .i64 x3, .int .i64 x4, .int .i64 x5], .agg #[.int .i64 x6, .int .i64 x7]] (heapOf [(500, .sym l0 false 2)]) (dataK k)
theorem gCE_text (C : Ct) (L : AtLoop) (n0 : Nat) (c0 : Nat) (l0 : List Go.Value) (x1 : Int) (x2 : Int) (x3 : Int) (x4 : Int) (x5 : Int) (x6 : Int) (x7 : Int) (k : List D → Prop) : gCE C L n0 c0 l0 x1 x2 x3 x4 x5 x6 x7 k =
 (((Says C 42 [(D.val (vI x6)), (D.val (vI 0)), (D.val (vI 1000000))] [(D.val (Value.bool true))]) ∧
 (((Says C 42 [(D.val (vI x7)), (D.val (vI 0)), (D.val (vI x5))] [(D.val (Value.bool true))]) ∧
 (k [(D.val (vI 0))])) ∨
 ((Says C 42 [(D.val (vI x7)), (D.val (vI 0)), (D.val (vI x5))] [(D.val (Value.bool false))]) ∧
 (k [(D.val (vI 2))])))) ∨
 ((Says C 42 [(D.val (vI x6)), (D.val (vI 0)), (D.val (vI 1000000))] [(D.val (Value.bool false))]) ∧
 (k [(D.val (vI 2))]))) := by kernel_rfl
def gkC (C : Ct) (L : AtLoop) (s0 : ByteArray) (n1 : Nat) (c1 : Nat) (l1 : List Value) (k : List D → Prop) : Prop := wpFn Tryz.prog (hL C) L 0 50 #[.agg #[.string s0, .slice (some ⟨500, 0, none⟩) n1 c1]] (heapOf [(500, .sym l1 false 2)]) (dataK k)
theorem gkC_text (C : Ct) (L : AtLoop) (s0 : ByteArray) (n1 : Nat) (c1 : Nat) (l1 : List Go.Value) (k : List D → Prop) : gkC C L s0 n1 c1 l1 k =
 (((Qv (vI ((↑n1 : Int)))) ∧
 ((Qv (Sl 500 (n1) (c1))) ∧
 ((Qv (Pt 1000 1)) ∧
 ((Qv (Value.string (s0))) ∧
 ((Qv (Pt 1000 0)) ∧
 True))))) ∧
 (∃ n2 : Int,
 ((Says C 87 [(D.val (Value.string (s0)))] [(D.val (vI n2))]) ∧
 (((Qv (vI ((↑n1 : Int)))) ∧
 ((Qv (Sl 500 (n1) (c1))) ∧
 ((Qv (Pt 1000 1)) ∧
 ((Qv (Pt 1000 0)) ∧
 True)))) ∧
 (∃ n3 : Int,
 ((Says C 88 [(D.val (vI ((↑n1 : Int)))), (D.val (vI 12))] [(D.val (vI n3))]) ∧
 ((((Qv (Sl 1001 2 2)) ∧
 (Qv (some (AObj.cells [(vI n2), (vI n3)] 43 false 1)))) ∧
 ((Qv (Sl 500 (n1) (c1))) ∧
 ((Qv (Pt 1000 1)) ∧
 ((Qv (Pt 1000 0)) ∧
 True)))) ∧
 (∃ n4 : Int,
 ((Says C 48 [(D.sl 2 1 [(vI n2), (vI n3)])] [(D.val (vI n4))]) ∧
 (((Qv (Sl 500 (n1) (c1))) ∧
 ((Qv (Pt 1000 1)) ∧
 ((Qv (Pt 1000 0)) ∧
 True))) ∧
 (True ∧
 (bcase (n4 != 0)
 (k [(D.val (vI 0)), (D.val (vI n4))])
 (L 0 [(Prod.mk 21 (Sl 500 (n1) (c1))), (Prod.mk 22 (vI ((↑n1 : Int)))), (Prod.mk 23 (vI 0))] [(Prod.mk 500 (AObj.sym (l1) false 2))]))))))))))))) := by kernel_rfl
abbrev zkC1 (n0 : Nat) (c1 : Nat) (x2 : Int) (x3 : Int) (l4 : List Value) : Slots × Blocks := ([(21, (Value.slice (some ⟨500, 0, none⟩) n0 c1)), (22, (Value.int .i64 x2)), (23, (Value.int .i64 x3))], [(500, (AObj.sym l4 false 2))])
def rkC1 (C : Ct) (L : AtLoop) (n0 : Nat) (c1 : Nat) (x2 : Int) (x3 : Int) (l4 : List Value) (B : Bx) (X : Xx) (k : List D → Prop) : Prop := wpRound Tryz.prog (hL C) L 50 0 [(21, (Value.slice (some ⟨500, 0, none⟩) n0 c1)), (22, (Value.int .i64 x2)), (23, (Value.int .i64 x3))] [(500, (AObj.sym l4 false 2))] B X (dataK k)
theorem rkC1_text (C : Ct) (L : AtLoop) (n0 : Nat) (c1 : Nat) (x2 : Int) (x3 : Int) (l4 : List Go.Value) (B : Bx) (X : Xx) (k : List D → Prop) : rkC1 C L n0 c1 x2 x3 l4 B X k =
 (bcase (decide (x3 < x2))
 (bcase (decide (0 ≤ x3))
 (bcase (decide (x3 < (↑n0 : Int)))
 (∃ n1 : Int,
 (∃ n2 : Int,
 ((At (l4) (0 + Int.toNat x3 * 2) 2 [(vI n1), (vI n2)]) ∧
 ((((Qv (Sl 1002 1 1)) ∧
 (Qv (some (AObj.cells [(vI n2)] 3 false 1)))) ∧
 ((Qv (vI n2)) ∧
 ((Qv (Pt 1000 1)) ∧
 (((Qv (Sl 1001 1 1)) ∧
 (Qv (some (AObj.cells [(vI n1)] 3 false 1)))) ∧
 ((Qv (vI n1)) ∧
 ((Qv (Pt 1000 0)) ∧
 True)))))) ∧
 (∃ n3 : Int,
 ((Says C 55 [(D.sl 1 1 [(vI n1)])] [(D.val (vI n3))]) ∧
 ((((Qv (Sl 1002 1 1)) ∧
 (Qv (some (AObj.cells [(vI n2)] 3 false 1)))) ∧
 ((Qv (vI n2)) ∧
 ((Qv (Pt 1000 1)) ∧
 ((Qv (vI n1)) ∧
 ((Qv (Pt 1000 0)) ∧
 True))))) ∧
 ((((Qv (Sl 1002 1 1)) ∧
 (Qv (some (AObj.cells [(vI n2)] 3 false 1)))) ∧
 ((Qv (vI n2)) ∧
 ((Qv (Pt 1000 1)) ∧
 ((Qv (vI n1)) ∧
 ((Qv (Pt 1000 0)) ∧
 True))))) ∧
 (∃ e1 : Int,
 ((Says limC 0 [(D.val (vI 0)), (D.val (vI 100000)), (D.sl 1 1 [(vI n2)])] [(D.val (vI e1))]) ∧
 ((((Qv (Sl 1005 2 2)) ∧
 (Qv (some (AObj.cells [(vI n3), (vI e1)] 43 false 1)))) ∧
 ((Qv (vI n2)) ∧
 ((Qv (Pt 1000 1)) ∧
 ((Qv (vI n1)) ∧
 ((Qv (Pt 1000 0)) ∧
 True))))) ∧
 (∃ n4 : Int,
 ((Says C 48 [(D.sl 2 1 [(vI n3), (vI e1)])] [(D.val (vI n4))]) ∧
 (((Qv (vI n2)) ∧
 ((Qv (Pt 1000 1)) ∧
 ((Qv (vI n1)) ∧
 ((Qv (Pt 1000 0)) ∧
 True)))) ∧
 (True ∧
 (bcase (n4 != 0)
 (k [(D.val (vI x3)), (D.val (vI n4))])
 (B [(Prod.mk 21 (Sl 500 (n0) (c1))), (Prod.mk 22 (vI x2)), (Prod.mk 23 (vI (IntKind.wrap .i64 (x3 + 1))))] [(Prod.mk 500 (AObj.sym (l4) false 2))])))))))))))))))))
 False)
 False)
 (X 0 [] [])) := by kernel_rfl
def nkC2 (C : Ct) (L : AtLoop) (k : List D → Prop) : Prop := wpNext Tryz.prog (hL C) L 50 0 .normal [] [] (dataK k)
theorem nkC2_text (C : Ct) (L : AtLoop) (k : List D → Prop) : nkC2 C L k =
 (k [(D.val (vI 0)), (D.val (vI 0))]) := by kernel_rfl
def gRC (C : Ct) (L : AtLoop) (s0 : ByteArray) (n1 : Nat) (c1 : Nat) (l1 : List Value) (k : List D → Prop) : Prop := wpFn Tryz.prog (hL C) L 0 43 #[.agg #[.string s0, .slice (some ⟨500, 0, none⟩) n1 c1]] (heapOf [(500, .sym l1 false 2)]) (dataK k)
theorem gRC_text (C : Ct) (L : AtLoop) (s0 : ByteArray) (n1 : Nat) (c1 : Nat) (l1 : List Go.Value) (k : List D → Prop) : gRC C L s0 n1 c1 l1 k =
 (((Says C 80 [(D.val (Value.string (s0)))] [(D.val (Value.bool true))]) ∧
 (bcase ((↑n1 : Int) == 0)
 (k [(D.val (vI 0)), (D.val (vI 10))])
 (bcase (decide ((↑n1 : Int) > 12))
 (k [(D.val (vI 0)), (D.val (vI 8))])
 (L 0 [(Prod.mk 1 (Pt 1000 0)), (Prod.mk 4 (vI 0))] [(Prod.mk 1000 (AObj.cells [(Value.string (s0)), (Sl 500 (n1) (c1))] 31 false 1)), (Prod.mk 500 (AObj.sym (l1) false 2))])))) ∨
 ((Says C 80 [(D.val (Value.string (s0)))] [(D.val (Value.bool false))]) ∧
 (k [(D.val (vI 0)), (D.val (vI 4))]))) := by kernel_rfl
abbrev zRC1 (x0 : Int) (s1 : ByteArray) (n2 : Nat) (c3 : Nat) (l4 : List Value) : Slots × Blocks := ([(1, (Value.pointer (some ⟨1000, 0, none⟩))), (4, (Value.int .i64 x0))], [(1000, (AObj.cells [(Value.string s1), (Value.slice (some ⟨500, 0, none⟩) n2 c3)] 31 false 1)), (500, (AObj.sym l4 false 2))])
def rRC1 (C : Ct) (L : AtLoop) (x0 : Int) (s1 : ByteArray) (n2 : Nat) (c3 : Nat) (l4 : List Value) (B : Bx) (X : Xx) (k : List D → Prop) : Prop := wpRound Tryz.prog (hL C) L 43 0 [(1, (Value.pointer (some ⟨1000, 0, none⟩))), (4, (Value.int .i64 x0))] [(1000, (AObj.cells [(Value.string s1), (Value.slice (some ⟨500, 0, none⟩) n2 c3)] 31 false 1)), (500, (AObj.sym l4 false 2))] B X (dataK k)
theorem rRC1_text (C : Ct) (L : AtLoop) (x0 : Int) (s1 : ByteArray) (n2 : Nat) (c3 : Nat) (l4 : List Go.Value) (B : Bx) (X : Xx) (k : List D → Prop) : rRC1 C L x0 s1 n2 c3 l4 B X k =
 (bcase (decide (x0 < (↑n2 : Int)))
 (bcase (decide (0 ≤ x0))
 (bcase (decide (x0 < (↑n2 : Int)))
 (∃ n1 : Int,
 ((At (l4) (0 + Int.toNat x0 * 2) 1 [(vI n1)]) ∧
 (∃ n3 : Int,
 ((Says C 81 [(D.val (vI n1))] [(D.val (vI n3))]) ∧
 (bcase (n3 != 0)
 (k [(D.val (vI x0)), (D.val (vI 2))])
 (bcase (decide (0 ≤ x0))
 (bcase (decide (x0 < (↑n2 : Int)))
 (∃ n4 : Int,
 ((At (l4) (Addr.off { block := 500, off := 0 + Int.toNat x0 * 2 } + 1) 1 [(vI n4)]) ∧
 (((Says C 42 [(D.val (vI n4)), (D.val (vI 0)), (D.val (vI 100000))] [(D.val (Value.bool true))]) ∧
 (B [(Prod.mk 1 (Pt 1000 0)), (Prod.mk 4 (vI (IntKind.wrap .i64 (x0 + 1))))] [(Prod.mk 1000 (AObj.cells [(Value.string (s1)), (Sl 500 (n2) (c3))] 31 false 1)), (Prod.mk 500 (AObj.sym (l4) false 2))])) ∨
 ((Says C 42 [(D.val (vI n4)), (D.val (vI 0)), (D.val (vI 100000))] [(D.val (Value.bool false))]) ∧
 (k [(D.val (vI x0)), (D.val (vI 2))])))))
 False)
 False))))))
 False)
 False)
 (X 0 [] [])) := by kernel_rfl
def nRC2 (C : Ct) (L : AtLoop) (k : List D → Prop) : Prop := wpNext Tryz.prog (hL C) L 43 0 .normal [] [] (dataK k)
theorem nRC2_text (C : Ct) (L : AtLoop) (k : List D → Prop) : nRC2 C L k =
 (k [(D.val (vI 0)), (D.val (vI 0))]) := by kernel_rfl
def gRCn (C : Ct) (L : AtLoop) (s0 : ByteArray) (k : List D → Prop) : Prop := wpFn Tryz.prog (hL C) L 0 43 #[.agg #[.string s0, .slice none 0 0]] (heapOf []) (dataK k)
theorem gRCn_text (C : Ct) (L : AtLoop) (s0 : ByteArray) (k : List D → Prop) : gRCn C L s0 k =
 (((Says C 80 [(D.val (Value.string (s0)))] [(D.val (Value.bool true))]) ∧
 (k [(D.val (vI 0)), (D.val (vI 10))])) ∨
 ((Says C 80 [(D.val (Value.string (s0)))] [(D.val (Value.bool false))]) ∧
 (k [(D.val (vI 0)), (D.val (vI 4))]))) := by kernel_rfl
def gCe (C : Ct) (L : AtLoop) (s0 : ByteArray) (n1 : Nat) (c1 : Nat) (l1 : List Value) (k : List D → Prop) : Prop := wpFn Tryz.prog (hL C) L 0 18 #[.agg #[.string s0, .slice (some ⟨500, 0, none⟩) n1 c1]] (heapOf [(500, .sym l1 false 2)]) (dataK k)
theorem gCe_text (C : Ct) (L : AtLoop) (s0 : ByteArray) (n1 : Nat) (c1 : Nat) (l1 : List Go.Value) (k : List D → Prop) : gCe C L s0 n1 c1 l1 k =
 (bcase (decide (0 + n1 * 2 ≤ List.length l1))
 (∃ n2 : Int,
 (∃ n3 : Int,
 ((Says C 43 [(D.agg [(D.val (Value.string (s0))), (D.sl (n1) 2 (List.take (n1 * 2) (List.drop 0 l1)))])] [(D.val (vI n2)), (D.val (vI n3))]) ∧
 (k [(D.val (vI n3))]))))
 False) := by kernel_rfl
def gCen (C : Ct) (L : AtLoop) (s0 : ByteArray) (k : List D → Prop) : Prop := wpFn Tryz.prog (hL C) L 0 18 #[.agg #[.string s0, .slice none 0 0]] (heapOf []) (dataK k)
theorem gCen_text (C : Ct) (L : AtLoop) (s0 : ByteArray) (k : List D → Prop) : gCen C L s0 k =
 (∃ n1 : Int,
 (∃ n2 : Int,
 ((Says C 43 [(D.agg [(D.val (Value.string (s0))), D.nil])] [(D.val (vI n1)), (D.val (vI n2))]) ∧
 (k [(D.val (vI n2))])))) := by kernel_rfl
def gWj (C : Ct) (L : AtLoop) (x0 : Int) (x1 : Int) (x2 : Int) (k : List D → Prop) : Prop := wpFn Tryz.prog (hE C) L 0 42 #[.int .i64 x0, .int .i64 x1, .int .i64 x2] (heapOf []) (dataK k)
theorem gWj_text (C : Ct) (L : AtLoop) (x0 : Int) (x1 : Int) (x2 : Int) (k : List D → Prop) : gWj C L x0 x1 x2 k =
 (bcase (decide (x1 ≤ x0))
 (bcase (decide (x0 ≤ x2))
 (k [(D.val (Value.bool true))])
 (k [(D.val (Value.bool false))]))
 (k [(D.val (Value.bool false))])) := by kernel_rfl
def gSi (C : Ct) (L : AtLoop) (x0 : Int) (k : List D → Prop) : Prop := wpFn Tryz.prog (hE C) L 0 76 #[.int .i64 x0] (heapOf []) (dataK k)
theorem gSi_text (C : Ct) (L : AtLoop) (x0 : Int) (k : List D → Prop) : gSi C L x0 k =
 (k [(D.val (vI (if IntKind.wrap .i64 (0 - x0) > x0 then IntKind.wrap .i64 (0 - x0) else x0)))]) := by kernel_rfl
def gGc (C : Ct) (L : AtLoop) (x0 : Int) (x1 : Int) (k : List D → Prop) : Prop := wpFn Tryz.prog (hL C) L 0 90 #[.int .i64 x0, .int .i64 x1] (heapOf []) (dataK k)
theorem gGc_text (C : Ct) (L : AtLoop) (x0 : Int) (x1 : Int) (k : List D → Prop) : gGc C L x0 x1 k =
 (L 0 [(Prod.mk 0 (vI x0)), (Prod.mk 1 (vI x1))] []) := by kernel_rfl
abbrev zGc1 (x0 : Int) (x1 : Int) : Slots × Blocks := ([(0, (Value.int .i64 x0)), (1, (Value.int .i64 x1))], [])
def rGc1 (C : Ct) (L : AtLoop) (x0 : Int) (x1 : Int) (B : Bx) (X : Xx) (k : List D → Prop) : Prop := wpRound Tryz.prog (hL C) L 90 0 [(0, (Value.int .i64 x0)), (1, (Value.int .i64 x1))] [] B X (dataK k)
theorem rGc1_text (C : Ct) (L : AtLoop) (x0 : Int) (x1 : Int) (B : Bx) (X : Xx) (k : List D → Prop) : rGc1 C L x0 x1 B X k =
 (bcase (x1 != 0)
 (bcase (x1 != 0)
 (((bcase (x1 != 0)
 (Qv (vI (Int.tmod x0 x1)))
 False) ∧
 ((Qv (vI x1)) ∧
 ((Qv (vI x0)) ∧
 ((Qv (vI x1)) ∧
 True)))) ∧
 (((bcase (x1 != 0)
 (Qv (vI (Int.tmod x0 x1)))
 False) ∧
 ((Qv (vI x1)) ∧
 True)) ∧
 (True ∧
 (B [(Prod.mk 0 (vI x1)), (Prod.mk 1 (vI (Int.tmod x0 x1)))] []))))
 False)
 (X 0 [(Prod.mk 0 (vI x0))] [])) := by kernel_rfl
def nGc2 (C : Ct) (L : AtLoop) (x0 : Int) (k : List D → Prop) : Prop := wpNext Tryz.prog (hL C) L 90 0 .normal [(0, (Value.int .i64 x0))] [] (dataK k)
theorem nGc2_text (C : Ct) (L : AtLoop) (x0 : Int) (k : List D → Prop) : nGc2 C L x0 k =
 (∃ n1 : Int,
 ((Says C 76 [(D.val (vI x0))] [(D.val (vI n1))]) ∧
 (k [(D.val (vI n1))]))) := by kernel_rfl
def gYr (C : Ct) (L : AtLoop) (n0 : Nat) (c0 : Nat) (l0 : List Value) (x1 : Int) (x2 : Int) (x3 : Int) (x4 : Int) (x5 : Int) (k : List D → Prop) : Prop := wpFn Tryz.prog (hE C) L 0 9 #[.agg #[.slice (some ⟨500, 0, none⟩) n0 c0, .int .i64 x1, .int .i64 x2, .int .i64 x3, .int .i64 x4, .int .i64 x5]] (heapOf [(500, .sym l0 false 2)]) (dataK k)
theorem gYr_text (C : Ct) (L : AtLoop) (n0 : Nat) (c0 : Nat) (l0 : List Go.Value) (x1 : Int) (x2 : Int) (x3 : Int) (x4 : Int) (x5 : Int) (k : List D → Prop) : gYr C L n0 c0 l0 x1 x2 x3 x4 x5 k =
 (bcase (decide (0 + n0 * 2 ≤ List.length l0))
 (bcase (n0 == 0)
 (((0 = 0) ∧
 (0 = 0)) ∧
 (k [(D.agg [(D.sl 0 2 []), (D.val (vI x1)), (D.val (vI x2)), (D.val (vI x3)), (D.val (vI x4)), (D.val (vI x5))])]))
 (bcase (decide (0 < 0 + n0))
 (bcase (decide ((2 * (0 + n0) + 768) * 16 ≤ 281474976710656))
 (bcase (decide (0 + n0 ≤ 1099511627776))
 (((Qv (0 + n0)) ∧
 ((List.length (List.take 0 (List.drop 0 []) ++ List.take (n0 * 2) (List.drop 0 l0))) = ((0 + n0) * 2))) ∧
 (k [(D.agg [(D.sl (0 + n0) 2 ([] ++ (List.take (n0 * 2) (List.drop 0 l0)))), (D.val (vI x1)), (D.val (vI x2)), (D.val (vI x3)), (D.val (vI x4)), (D.val (vI x5))])]))
 False)
 False)
 False))
 False) := by kernel_rfl
def gYrn (C : Ct) (L : AtLoop) (x1 : Int) (x2 : Int) (x3 : Int) (x4 : Int) (x5 : Int) (k : List D → Prop) : Prop := wpFn Tryz.prog (hE C) L 0 9 #[.agg #[.slice none 0 0, .int .i64 x1, .int .i64 x2, .int .i64 x3, .int .i64 x4, .int .i64 x5]] (heapOf []) (dataK k)
theorem gYrn_text (C : Ct) (L : AtLoop) (x1 : Int) (x2 : Int) (x3 : Int) (x4 : Int) (x5 : Int) (k : List D → Prop) : gYrn C L x1 x2 x3 x4 x5 k =
 (((0 = 0) ∧
 (0 = 0)) ∧
 (k [(D.agg [(D.sl 0 2 []), (D.val (vI x1)), (D.val (vI x2)), (D.val (vI x3)), (D.val (vI x4)), (D.val (vI x5))])])) := by kernel_rfl
def gYc (C : Ct) (L : AtLoop) (s0 : ByteArray) (n1 : Nat) (c1 : Nat) (l1 : List Value) (k : List D → Prop) : Prop := wpFn Tryz.prog (hE C) L 0 12 #[.agg #[.string s0, .slice (some ⟨500, 0, none⟩) n1 c1]] (heapOf [(500, .sym l1 false 2)]) (dataK k)
theorem gYc_text (C : Ct) (L : AtLoop) (s0 : ByteArray) (n1 : Nat) (c1 : Nat) (l1 : List Go.Value) (k : List D → Prop) : gYc C L s0 n1 c1 l1 k =
 (((Qv (Sl 500 (n1) (c1))) ∧
 ((Qv (Pt 1000 1)) ∧
 (((Qv (Sl 1002 0 0)) ∧
 (Qv (some (AObj.cells [] 91 false 2)))) ∧
 ((Qv (Value.string (s0))) ∧
 ((Qv (Pt 1000 0)) ∧
 True))))) ∧
 (bcase (decide (0 + n1 * 2 ≤ List.length l1))
 (bcase (n1 == 0)
 (((Qv (Value.agg [(Value.string (s0)), (Sl 1003 0 0)].toArray)) ∧
 ((Qv (Pt 1000 1)) ∧
 ((Qv (Value.string (s0))) ∧
 ((Qv (Pt 1000 0)) ∧
 True)))) ∧
 (True ∧
 (((0 = 0) ∧
 (0 = 0)) ∧
 (k [(D.agg [(D.val (Value.string (s0))), (D.sl 0 2 [])])]))))
 (bcase (decide (0 < 0 + n1))
 (bcase (decide ((2 * (0 + n1) + 768) * 16 ≤ 281474976710656))
 (bcase (decide (0 + n1 ≤ 1099511627776))
 (((Qv (Value.agg [(Value.string (s0)), (Sl 1003 (0 + n1) (0 + n1))].toArray)) ∧
 ((Qv (Pt 1000 1)) ∧
 ((Qv (Value.string (s0))) ∧
 ((Qv (Pt 1000 0)) ∧
 True)))) ∧
 (True ∧
 (((Qv (0 + n1)) ∧
 ((List.length (List.take 0 (List.drop 0 []) ++ List.take (n1 * 2) (List.drop 0 l1))) = ((0 + n1) * 2))) ∧
 (k [(D.agg [(D.val (Value.string (s0))), (D.sl (0 + n1) 2 ([] ++ (List.take (n1 * 2) (List.drop 0 l1))))])]))))
 False)
 False)
 False))
 False)) := by kernel_rfl
def gYcn (C : Ct) (L : AtLoop) (s0 : ByteArray) (k : List D → Prop) : Prop := wpFn Tryz.prog (hE C) L 0 12 #[.agg #[.string s0, .slice none 0 0]] (heapOf []) (dataK k)
theorem gYcn_text (C : Ct) (L : AtLoop) (s0 : ByteArray) (k : List D → Prop) : gYcn C L s0 k =
 (((Qv (Value.slice none 0 0)) ∧
 ((Qv (Pt 1000 1)) ∧
 (((Qv (Sl 1002 0 0)) ∧
 (Qv (some (AObj.cells [] 91 false 2)))) ∧
 ((Qv (Value.string (s0))) ∧
 ((Qv (Pt 1000 0)) ∧
 True))))) ∧
 (((Qv (Value.agg [(Value.string (s0)), (Sl 1003 0 0)].toArray)) ∧
 ((Qv (Pt 1000 1)) ∧
 ((Qv (Value.string (s0))) ∧
 ((Qv (Pt 1000 0)) ∧
 True)))) ∧
 (True ∧
 (((0 = 0) ∧
 (0 = 0)) ∧
 (k [(D.agg [(D.val (Value.string (s0))), (D.sl 0 2 [])])]))))) := by kernel_rfl
def preW (C : Ct) : FuncId → Option Handler := fun g => if g == 148 then some (saidH Tryz.prog C) else none
abbrev hW (C : Ct) : Handler := handlerX Tryz.prog (preW C) 12 6
def gdd (C : Ct) (L : AtLoop) (x0 : Int) (x1 : Int) (k : List D → Prop) : Prop := wpFn Tryz.prog (hE C) L 0 148 #[.int .i64 x0, .int .i64 x1] (heapOf []) (dataK k)
theorem gdd_text (C : Ct) (L : AtLoop) (x0 : Int) (x1 : Int) (k : List D → Prop) : gdd C L x0 x1 k =
 (bcase (x1 != 0)
 (bcase (x1 != 0)
 (((bcase (x1 != 0)
 (Qv (vI (Int.tmod x0 x1)))
 False) ∧
 ((Qv (vI x1)) ∧
 ((Qv (vI x0)) ∧
 ((bcase (x1 != 0)
 (Qv (vI (IntKind.wrap .i64 (Int.tdiv x0 x1))))
 False) ∧
 ((Qv (vI x1)) ∧
 ((Qv (vI x0)) ∧
 True)))))) ∧
 (((bcase (x1 != 0)
 (Qv (vI (Int.tmod x0 x1)))
 False) ∧
 ((Qv (vI x1)) ∧
 ((Qv (vI x0)) ∧
 True))) ∧
 (True ∧
 (bcase (decide (Int.tmod x0 x1 < 0))
 (k [(D.val (vI (IntKind.wrap .i64 (IntKind.wrap .i64 (Int.tdiv x0 x1) - 1)))), (D.val (vI (IntKind.wrap .i64 (Int.tmod x0 x1 + x1))))])
 (k [(D.val (vI (IntKind.wrap .i64 (Int.tdiv x0 x1)))), (D.val (vI (Int.tmod x0 x1)))])))))
 False)
 False) := by kernel_rfl
def gsh (C : Ct) (x0 : Int) (x1 : Int) (x2 : Int) (x3 : Int) (x4 : Int) (x5 : Int) (x6 : Int) (x7 : Int) (k : List D → Prop) : Prop := wpFn Tryz.prog (hW C) (fun _ _ _ => False) 8 121 #[.agg #[.int .i64 x0, .int .i64 x1, .int .i64 x2, .int .i64 x3], .agg #[.int .i64 x4, .int .i64 x5, .int .i64 x6, .int .i64 x7]] (heapOf []) (dataK k)
theorem gsh_text (C : Ct) (x0 : Int) (x1 : Int) (x2 : Int) (x3 : Int) (x4 : Int) (x5 : Int) (x6 : Int) (x7 : Int) (k : List D → Prop) : gsh C x0 x1 x2 x3 x4 x5 x6 x7 k =
 (((Qv (vI (IntKind.wrap .i64 (x5 * x7)))) ∧
 ((Qv (vI x7)) ∧
 ((Qv (Pt 1003 3)) ∧
 ((Qv (Pt 1003 2)) ∧
 ((Qv (vI x5)) ∧
 ((Qv (Pt 1003 1)) ∧
 ((Qv (Pt 1003 0)) ∧
 True))))))) ∧
 (((Qv (vI (IntKind.wrap .i64 (x5 * x7)))) ∧
 ((Qv (vI x7)) ∧
 ((Qv (Pt 1003 3)) ∧
 ((Qv (Pt 1003 2)) ∧
 ((Qv (vI x5)) ∧
 ((Qv (Pt 1003 1)) ∧
 ((Qv (Pt 1003 0)) ∧
 True))))))) ∧
 (((Qv (vI (IntKind.wrap .i64 (x5 * x7)))) ∧
 ((Qv (vI x7)) ∧
 ((Qv (Pt 1003 3)) ∧
 ((Qv (Pt 1003 2)) ∧
 ((Qv (vI x5)) ∧
 ((Qv (Pt 1003 1)) ∧
 ((Qv (Pt 1003 0)) ∧
 True))))))) ∧
 (True ∧
 (((Qv (vI x5)) ∧
 ((Qv (Pt 1005 1)) ∧
 ((Qv (vI (IntKind.wrap .i64 (x0 * x4)))) ∧
 ((Qv (vI x4)) ∧
 ((Qv (Pt 1005 0)) ∧
 ((Qv (vI x0)) ∧
 ((Qv (Pt 1002 0)) ∧
 ((Qv (vI 0)) ∧
 True)))))))) ∧
 (∃ n1 : Int,
 (∃ n2 : Int,
 ((Says C 148 [(D.val (vI (IntKind.wrap .i64 (x0 * x4)))), (D.val (vI x5))] [(D.val (vI n1)), (D.val (vI n2))]) ∧
 (((Qv (vI n2)) ∧
 ((Qv (vI n1)) ∧
 ((Qv (Value.tuple [(vI n1), (vI n2)].toArray)) ∧
 ((Qv (Pt 1005 1)) ∧
 ((Qv (vI x4)) ∧
 ((Qv (Pt 1005 0)) ∧
 ((Qv (vI x0)) ∧
 ((Qv (Pt 1002 0)) ∧
 ((Qv (vI 0)) ∧
 True))))))))) ∧
 (((Qv (vI n2)) ∧
 True) ∧
 (True ∧
 (bcase (x5 != 0)
 (((Qv (vI x7)) ∧
 ((Qv (Pt 1006 1)) ∧
 ((Qv (vI (IntKind.wrap .i64 (x1 * x6)))) ∧
 ((Qv (vI x6)) ∧
 ((Qv (Pt 1006 0)) ∧
 ((Qv (vI x1)) ∧
 ((Qv (Pt 1002 1)) ∧
 ((Qv (vI 1)) ∧
 True)))))))) ∧
 (∃ n3 : Int,
 (∃ n4 : Int,
 ((Says C 148 [(D.val (vI (IntKind.wrap .i64 (x1 * x6)))), (D.val (vI x7))] [(D.val (vI n3)), (D.val (vI n4))]) ∧
 (((Qv (vI n4)) ∧
 ((Qv (vI n3)) ∧
 ((Qv (Value.tuple [(vI n3), (vI n4)].toArray)) ∧
 ((Qv (Pt 1006 1)) ∧
 ((Qv (vI x6)) ∧
 ((Qv (Pt 1006 0)) ∧
 ((Qv (vI x1)) ∧
 ((Qv (Pt 1002 1)) ∧
 ((Qv (vI 1)) ∧
 True))))))))) ∧
 (((Qv (vI n4)) ∧
 True) ∧
 (True ∧
 (bcase (x7 != 0)
 (∃ n5 : Int,
 (∃ n6 : Int,
 ((Says C 148 [(D.val (vI (IntKind.wrap .i64 (IntKind.wrap .i64 (0 + IntKind.wrap .i64 (n2 * IntKind.wrap .i64 (Int.tdiv (IntKind.wrap .i64 (x5 * x7)) x5))) + IntKind.wrap .i64 (n4 * IntKind.wrap .i64 (Int.tdiv (IntKind.wrap .i64 (x5 * x7)) x7)))))), (D.val (vI (IntKind.wrap .i64 (x5 * x7))))] [(D.val (vI n5)), (D.val (vI n6))]) ∧
 (bcase (decide (n6 > 0))
 (bcase (decide (x2 ≤ IntKind.wrap .i64 (IntKind.wrap .i64 (IntKind.wrap .i64 (0 + n1) + n3) + n5)))
 (bcase (decide (IntKind.wrap .i64 (IntKind.wrap .i64 (IntKind.wrap .i64 (IntKind.wrap .i64 (0 + n1) + n3) + n5) + 1) ≤ x3))
 (k [(D.val (Value.bool true))])
 (k [(D.val (Value.bool false))]))
 (k [(D.val (Value.bool false))]))
 (bcase (decide (x2 ≤ IntKind.wrap .i64 (IntKind.wrap .i64 (IntKind.wrap .i64 (0 + n1) + n3) + n5)))
 (bcase (decide (IntKind.wrap .i64 (IntKind.wrap .i64 (IntKind.wrap .i64 (0 + n1) + n3) + n5) ≤ x3))
 (k [(D.val (Value.bool true))])
 (k [(D.val (Value.bool false))]))
 (k [(D.val (Value.bool false))]))))))
 False))))))))
 False)))))))))))) := by kernel_rfl
end Go.Proofs.G5v

/- The small functions on strings of the references, in data. -/
namespace Go.Proofs.G5v
open Go Go.Abs Go.Proofs Go.Str
set_option maxRecDepth 100000
theorem hokE : HandlerOK Tryz.prog (hE C5) := handlerX_ok mixed (fun g h he => by cases he) (by decide) 6
/-! ### decimal numerals -/
theorem one_byte (b : Int) : List.foldl (fun r n => ByteArray.push r (UInt8.ofNat (Int.toNat n))) ByteArray.empty [b] = bs [UInt8.ofNat (Int.toNat b)] := rfl
theorem size_dig (k : Nat) (m : Int) (h : m = (k : Int) ∨ m = -(k : Int)) : IntKind.wrap .u8 (IntKind.wrap .i64 (48 + if IntKind.wrap .i64 (0 - Int.tmod m 10) > Int.tmod m 10 then IntKind.wrap .i64 (0 - Int.tmod m 10) else Int.tmod m 10)) = ((48 + k % 10 : Nat) : Int) := by
  have e : Int.tmod m 10 = ((k % 10 : Nat) : Int) ∨ Int.tmod m 10 = -((k % 10 : Nat) : Int) := by
    rcases h with rfl | rfl
    · left; rw [Int.tmod_eq_emod_of_nonneg (by omega)]; omega
    · right; rw [Int.neg_tmod, Int.tmod_eq_emod_of_nonneg (by omega)]; omega
  generalize Int.tmod m 10 = r at e ⊢
  have hk : k % 10 < 10 := Nat.mod_lt _ (by decide)
  rw [w64 (z := 0 - r) (by omega) (by omega)]
  have h2 : (48 + if 0 - r > r then 0 - r else r) = ((48 + k % 10 : Nat) : Int) := by split <;> omega
  rw [h2, w64 (by omega) (by omega), IntKind.wrap_u8]
  omega
theorem tdiv10 (k : Nat) (m : Int) (h : m = (k : Int) ∨ m = -(k : Int)) : (m = (k : Int) → Int.tdiv m 10 = ((k / 10 : Nat) : Int)) ∧ (m = -(k : Int) → Int.tdiv m 10 = -((k / 10 : Nat) : Int)) := by
  constructor
  · rintro rfl; rw [Int.tdiv_eq_ediv_of_nonneg (by omega)]; omega
  · rintro rfl; rw [Int.neg_tdiv, Int.tdiv_eq_ediv_of_nonneg (by omega)]; omega
theorem conDe (n : Int) (h0 : -9223372036854775808 ≤ n) (h1 : n ≤ 9223372036854775807) : C5 40 [dI n] [dS (Lib.itoa n)] := by
  let sg : List UInt8 := if n < 0 then [45] else []
  let num : Nat → Int := fun k => if n < 0 then -(k : Int) else (k : Int)
  let inv : Nat × List UInt8 → Prop := fun x => n ≠ 0 ∧ x.1 ≤ n.natAbs ∧ (if x.1 = 0 then [] else dec x.1) ++ x.2 = dec n.natAbs
  let st : Nat × List UInt8 → Slots × Blocks := fun x => zDe1 (num x.1) (bs x.2) (bs sg)
  have hit : n ≠ 0 → sg ++ dec n.natAbs = Lib.itoa n := by
    intro hn
    show (if n < 0 then [45] else []) ++ dec n.natAbs = _
    split
    · next h => rw [itoa_ng h]; rfl
    · next h => rw [itoa_nn (by omega), show n.toNat = n.natAbs by omega]; rfl
  have hdl : (dec n.natAbs).length ≤ 20 := dec_len 20 _ (by decide) (by omega)
  have hsg : sg.length ≤ 1 := by show (if n < 0 then [(45 : UInt8)] else []).length ≤ 1; split <;> simp
  refine con_of (L := fun _ s b => ∃ x, inv x ∧ st x = (s, b)) hokE mixed Tryz.func40 rfl (by show 0 ≤ 400; omega) rfl (ids := [0]) (by kernel_rfl) rfl (fun caps => ?_) (fun id hid => ?_)
  · show gDe _ _ n _
    rw [gDe_text]
    refine bc_beq (fun h => ?_) (fun h => ?_)
    · subst h
      have : Lib.itoa 0 = [48] := by rw [itoa_nn (by decide)]; exact dec_small (by decide)
      rw [this]
    · have hi : inv (n.natAbs, []) := ⟨h, Nat.le_refl _, by show (if n.natAbs = 0 then [] else _) ++ [] = _; rw [if_neg (by omega), List.append_nil]⟩
      refine bc_dec (fun hn => ?_) (fun hn => ?_)
      · refine ⟨(n.natAbs, []), hi, ?_⟩
        show zDe1 (if n < 0 then _ else _) _ (bs (if n < 0 then _ else _)) = _
        rw [if_pos hn, if_pos hn, show -(n.natAbs : Int) = n by omega]
      · refine ⟨(n.natAbs, []), hi, ?_⟩
        show zDe1 (if n < 0 then _ else _) _ (bs (if n < 0 then _ else _)) = _
        rw [if_neg hn, if_neg hn, show (n.natAbs : Int) = n by omega]
  · obtain rfl := List.mem_singleton.1 hid
    refine ⟨Nat × List UInt8, st, inv, fun x => x.1, ⟨fun s b h => h, by kernel_rfl, ?_⟩⟩
    rintro ⟨k, sfx⟩ ⟨hn, hk, he⟩
    simp only at hk he
    show rDe1 _ _ (num k) (bs sfx) (bs sg) _ _ _
    rw [rDe1_text]
    have hor : num k = (k : Int) ∨ num k = -(k : Int) := by show (if n < 0 then _ else _) = _ ∨ (if n < 0 then _ else _) = _; split <;> simp
    have hsl : sfx.length ≤ 20 := by have := congrArg List.length he; simp at this; omega
    refine bc_bne (fun h => ?_) (fun h => ?_)
    · have hk0 : k ≠ 0 := by rintro rfl; rcases hor with e | e <;> simp [e] at h
      rw [size_dig k (num k) hor, one_byte, bs_append, Int.toNat_natCast]
      simp only [bs_size]
      refine bc_yes (by simp; omega) ?_
      refine ⟨(k / 10, UInt8.ofNat (48 + k % 10) :: sfx), ⟨hn, by show k / 10 ≤ _; omega, ?_⟩, by show k / 10 < k; omega, ?_⟩
      · show (if k / 10 = 0 then [] else dec (k / 10)) ++ _ = _
        rw [if_neg hk0] at he
        rw [← he]
        by_cases hk10 : k < 10
        · rw [if_pos (by omega), dec_small hk10, show k % 10 = k by omega]; rfl
        · rw [if_neg (by omega), dec_big hk10]; simp
      · have e2 : IntKind.wrap .i64 (Int.tdiv (num k) 10) = num (k / 10) := by
          have t := tdiv10 k (num k) hor
          show IntKind.wrap .i64 (Int.tdiv (if n < 0 then -(k : Int) else (k : Int)) 10) = if n < 0 then _ else _
          have hnum : num k = if n < 0 then -(k : Int) else (k : Int) := rfl
          by_cases hneg : n < 0
          · rw [if_pos hneg] at hnum ⊢
            rw [if_pos hneg, ← hnum, t.2 hnum, w64 (by omega) (by omega)]
          · rw [if_neg hneg] at hnum ⊢
            rw [if_neg hneg, ← hnum, t.1 hnum, w64 (by omega) (by omega)]
        rw [e2]; rfl
    · have hk0 : k = 0 := by rcases hor with e | e <;> omega
      subst hk0
      show (if 0 = 0 then _ else _)
      rw [if_pos rfl]
      show nDe2 _ _ (bs sfx) (bs sg) _
      rw [nDe2_text]
      simp only [bs_size]
      refine bc_yes (by omega) ?_
      rw [if_pos rfl, List.nil_append] at he
      rw [bs_append, he, hit hn]
/-! ### numbers that are read -/
theorem isDig_no {b : UInt8} (h : ¬ (48 ≤ b.toNat ∧ b.toNat ≤ 57)) : isDig b = false := by
  unfold isDig
  rw [Bool.and_eq_false_iff, decide_eq_false_iff_not, decide_eq_false_iff_not]; omega
end Go.Proofs.G5v

/- Numbers: greatest divisors, quotients rounded down, fractions in lowest terms. -/
namespace Go.Abs
theorem natAbs_tmod (a b : Int) : (a.tmod b).natAbs = a.natAbs % b.natAbs := Int.natAbs_tmod a b
/-- one step of the division of both -/
theorem gcd_step (a b : Int) : (Int.gcd b (a.tmod b) : Int) = Int.gcd a b := by
  have : Int.gcd b (a.tmod b) = Int.gcd a b := by
    show Nat.gcd b.natAbs (a.tmod b).natAbs = Nat.gcd a.natAbs b.natAbs
    rw [natAbs_tmod, Nat.gcd_comm b.natAbs, ← Nat.gcd_rec, Nat.gcd_comm]
  rw [this]
theorem gcd_step_lt {a b : Int} (h : b ≠ 0) : (a.tmod b).natAbs < b.natAbs := by
  rw [natAbs_tmod]; exact Nat.mod_lt _ (by omega)
theorem gcd_end (a : Int) : (Int.gcd a 0 : Int) = if a < 0 then -a else a := by
  have : Int.gcd a 0 = a.natAbs := Nat.gcd_zero_right _
  rw [this]; split <;> omega
theorem gcd_pos {a b : Int} (h : a ≠ 0 ∨ b ≠ 0) : 0 < (Int.gcd a b : Int) := by
  have : Int.gcd a b ≠ 0 := fun e => by
    have := Int.gcd_eq_zero_iff.1 e
    omega
  omega
end Go.Abs

/- Fractions in lowest terms: their parts, and how they compare. -/
namespace Go.Abs
/-- a fraction in lowest terms -/
def low (n d : Int) : Int × Int := if d < 0 then ((0 - n).tdiv (Int.gcd n d), (0 - d).tdiv (Int.gcd n d)) else (n.tdiv (Int.gcd n d), d.tdiv (Int.gcd n d))
theorem gcd_neg2 (n d : Int) : Int.gcd (0 - n) (0 - d) = Int.gcd n d := by
  show Nat.gcd (0 - n).natAbs (0 - d).natAbs = Nat.gcd n.natAbs d.natAbs
  congr 1 <;> omega
theorem tdiv_small {n g : Int} (hn : -4611686018427387904 ≤ n ∧ n ≤ 4611686018427387904) (_ : 0 < g) : -4611686018427387904 ≤ n.tdiv g ∧ n.tdiv g ≤ 4611686018427387904 := by
  have h := Int.natAbs_tdiv_le_natAbs n g
  omega
end Go.Abs

/- Chapter 4, losses: how functions are met. -/
namespace Go.Proofs.G5v
open Go Go.Abs Go.Proofs Go.Abs.MD
set_option maxRecDepth 100000
theorem ite_so {c : Prop} [Decidable c] {α : Type} {x h : α} {r : Option α} (e : (if c then some x else r) = some h) : (c ∧ x = h) ∨ r = some h := by
  by_cases hc : c
  · rw [if_pos hc] at e; exact .inl ⟨hc, Option.some.inj e⟩
  · rw [if_neg hc] at e; exact .inr e
theorem limE1 (lo hi a : Int) : limE lo hi [.int .i64 a] = if lo ≤ a ∧ a ≤ hi then 0 else 2 := by
  simp only [limE]; split <;> split <;> first | rfl | omega
theorem limE2 (lo hi a b : Int) : limE lo hi [.int .i64 a, .int .i64 b] = if (lo ≤ a ∧ a ≤ hi) ∧ lo ≤ b ∧ b ≤ hi then 0 else 2 := by
  simp only [limE]; repeat' split
  all_goals first | rfl | omega
theorem limE4 (lo hi a b c d : Int) : limE lo hi [.int .i64 a, .int .i64 b, .int .i64 c, .int .i64 d] = if (lo ≤ a ∧ a ≤ hi) ∧ (lo ≤ b ∧ b ≤ hi) ∧ (lo ≤ c ∧ c ≤ hi) ∧ lo ≤ d ∧ d ≤ hi then 0 else 2 := by
  simp only [limE]; repeat' split
  all_goals first | rfl | omega
theorem limGood : LimGood Tryz.prog 86 3 := by
  refine ⟨mixed, ⟨_, _, Tryz.func86, rfl⟩, fun cap lo hi x => ?_, fun cap lo hi x y => ?_, fun cap lo hi x y z => ?_, fun cap lo hi x y z u => ?_⟩
  · show lm1 cap lo hi x _
    rw [lm1_text, limE1]
    repeat' first | refine bc_dec (fun _ => ?_) (fun _ => ?_) | exact ⟨by rw [if_neg (by omega)], rfl⟩ | exact ⟨by rw [if_pos (by omega)], rfl⟩
  · show lm2 cap lo hi x y _
    rw [lm2_text, limE2]
    repeat' first | refine bc_dec (fun _ => ?_) (fun _ => ?_) | exact ⟨by rw [if_neg (by omega)], rfl⟩ | exact ⟨by rw [if_pos (by omega)], rfl⟩
  · show lm3 cap lo hi x y z _
    rw [lm3_text]
    have e : limE lo hi [.int .i64 x, .int .i64 y, .int .i64 z] = if (lo ≤ x ∧ x ≤ hi) ∧ (lo ≤ y ∧ y ≤ hi) ∧ lo ≤ z ∧ z ≤ hi then 0 else 2 := by
      simp only [limE]; repeat' split
      all_goals first | rfl | omega
    rw [e]
    repeat' first | refine bc_dec (fun _ => ?_) (fun _ => ?_) | exact ⟨by rw [if_neg (by omega)], rfl⟩ | exact ⟨by rw [if_pos (by omega)], rfl⟩
  · show lm4 cap lo hi x y z u _
    rw [lm4_text, limE4]
    repeat' first | refine bc_dec (fun _ => ?_) (fun _ => ?_) | exact ⟨by rw [if_neg (by omega)], rfl⟩ | exact ⟨by rw [if_pos (by omega)], rfl⟩

theorem limE_drop {lo hi : Int} (l : List Int) (i : Nat) (h : i < l.length) : limE lo hi (vi (l.drop i)) = if l[i] < lo ∨ l[i] > hi then 2 else limE lo hi (vi (l.drop (i + 1))) := by
  rw [List.drop_eq_getElem_cons h]; rfl
abbrev lW (lo hi : Int) : Blocks := [(900, .cells [.int .i64 lo] 3 false 1), (901, .cells [.int .i64 hi] 3 false 1)]
theorem limH (cap : Nat) (lo hi : Int) (l : List Int) (hlen : l.length < 1000000000) : CallS Tryz.prog 86 [.slice (some ⟨500, 0, none⟩) l.length cap, P1 900 0, P1 901 0] ((500, .sym (vi l) false 1) :: lW lo hi) (fun v b => v = .int .i64 (limE lo hi (vi l)) ∧ b = lW lo hi) := by
  let inv : Nat → Prop := fun i => i ≤ l.length ∧ limE lo hi (vi l) = limE lo hi (vi (l.drop i))
  let st : Nat → Slots × Blocks := fun i => zLo1 l.length cap l.length i lo hi (vi l)
  refine callS_ofG (L := fun _ s b => ∃ x, inv x ∧ st x = (s, b)) hokE mixed Tryz.func86 rfl rfl (ids := [0]) (by kernel_rfl) rfl ?_ (fun id hid => ?_)
  · show gLo _ _ lo hi l.length cap (vi l) _
    rw [gLo_text]
    exact ⟨0, ⟨Nat.zero_le _, rfl⟩, rfl⟩
  · obtain rfl := List.mem_singleton.1 hid
    refine ⟨_, st, inv, fun i => l.length - i, ⟨fun s b h => h, by kernel_rfl, ?_⟩⟩
    rintro i ⟨hi', hm⟩
    show rLo1 _ _ l.length cap l.length (i : Int) lo hi (vi l) _ _ _
    rw [rLo1_text]
    refine bc_dec (fun h => ?_) (fun h => ?_)
    · have hi2 : i < l.length := by omega
      rw [limE_drop l i hi2] at hm
      simp only [bc_t h, bc_t (show (0 : Int) ≤ (i : Int) by omega), Int.toNat_natCast, at1 (vi_at l i hi2)]
      refine bc_dec (fun h1 => ?_) (fun h1 => bc_dec (fun h2 => ?_) (fun h2 => ?_))
      · rw [if_pos (.inl h1)] at hm; exact ⟨by rw [hm], by first | trivial | rfl⟩
      · rw [if_pos (.inr h2)] at hm; exact ⟨by rw [hm], by first | trivial | rfl⟩
      · rw [if_neg (by omega)] at hm
        refine ⟨i + 1, ⟨hi2, hm⟩, by omega, ?_⟩
        rw [w64 (by omega) (by omega)]; rfl
    · show (if 0 = 0 then _ else _)
      rw [if_pos rfl]
      show nLo2 _ _ lo hi _
      rw [nLo2_text]
      have : i = l.length := by omega
      rw [this, List.drop_length] at hm
      exact ⟨by rw [hm]; rfl, rfl⟩
theorem limL_ok {args : List Value} {bs : Blocks} {K : Value → Blocks → Prop} (hk : limL 3 args bs K) : CallS Tryz.prog 86 args bs K := by
  unfold limL at hk
  split at hk
  · split at hk
    · rename_i hc
      simp only [Bool.and_eq_true, beq_iff_eq] at hc
      obtain ⟨⟨⟨⟨⟨⟨⟨⟨⟨⟨⟨⟨⟨rfl, rfl⟩, rfl⟩, rfl⟩, rfl⟩, rfl⟩, rfl⟩, rfl⟩, rfl⟩, rfl⟩, rfl⟩, rfl⟩, rfl⟩, rfl⟩ := hc
      obtain ⟨l, rfl, rfl, hl, e, he, hK⟩ := hk
      refine callS_mono (limH _ _ _ l hl) ?_
      rintro v b ⟨rfl, rfl⟩
      have e1 : e = limE _ _ (vi l) := limC_out he
      rw [← e1]; exact hK
    · exact hk.elim
  · exact lim_ok limGood hk
end Go.Proofs.G5v

/- Words that are read by a reader; pairs of numbers that may be below naught. -/
namespace Go.Str
variable {α : Type}
/-- the loop over the words: so many are read -/
def goesF (f : List UInt8 → Option α) (ws : List (List UInt8)) (x : Nat × List α) : Prop := x.1 ≤ ws.length ∧ x.2.length = x.1 ∧ words f ws = (words f (ws.drop x.1)).map (x.2 ++ ·)
theorem goesF_start (f : List UInt8 → Option α) (ws : List (List UInt8)) : goesF f ws (0, []) := ⟨Nat.zero_le _, rfl, by simp⟩
theorem goesF_step {f : List UInt8 → Option α} {ws : List (List UInt8)} {i : Nat} {out : List α} (h : goesF f ws (i, out)) (hi : i < ws.length) : (f ws[i] = none → words f ws = none) ∧ (∀ z, f ws[i] = some z → goesF f ws (i + 1, out ++ [z])) := by
  obtain ⟨h1, h2, h3⟩ := h
  rw [List.drop_eq_getElem_cons hi, words] at h3
  constructor
  · intro e
    rw [e] at h3; exact h3
  · intro z e
    rw [e] at h3
    refine ⟨hi, by show (out ++ [z]).length = i + 1; simp at h2 ⊢; omega, ?_⟩
    rw [h3]
    show Option.map _ (Option.map _ _) = Option.map _ _
    rw [Option.map_map]
    congr 1
    funext t
    simp
theorem goesF_end {f : List UInt8 → Option α} {ws : List (List UInt8)} {out : List α} (h : goesF f ws (ws.length, out)) : words f ws = some out := by
  obtain ⟨_, _, h3⟩ := h
  rw [List.drop_length, words] at h3
  simpa using h3
/-- two readings with a sign between them -/
def pair (c : UInt8) (rd : List UInt8 → Option Int) (w : List UInt8) : Option (Int × Int) :=
  match rd (Lib.cut w [c]).1, rd (Lib.cut w [c]).2.1 with
  | some a, some b => some (a, b)
  | _, _ => none
/-! ### readings by strconv.Atoi -/
end Go.Str

/- Names: a letter, then letters, digits and hyphens. -/
namespace Go.Str
open Go Go.Abs
def isLet (b : UInt8) : Bool := (decide (97 ≤ b.toNat) && decide (b.toNat ≤ 122)) || (decide (65 ≤ b.toNat) && decide (b.toNat ≤ 90))
def nameC (b : UInt8) : Bool := isLet b || isDig b || b.toNat == 45
def nameOK (l : List UInt8) : Bool := decide (1 ≤ l.length) && decide (l.length ≤ 12) && l.head?.any isLet && l.all nameC
theorem let_t {b : UInt8} (h : (97 ≤ b.toNat ∧ b.toNat ≤ 122) ∨ (65 ≤ b.toNat ∧ b.toNat ≤ 90)) : isLet b = true := by
  simp [isLet]; omega
theorem let_f {b : UInt8} (h : ¬ ((97 ≤ b.toNat ∧ b.toNat ≤ 122) ∨ (65 ≤ b.toNat ∧ b.toNat ≤ 90))) : isLet b = false := by
  simp [isLet]; omega
theorem dig_t {b : UInt8} (h : 48 ≤ b.toNat ∧ b.toNat ≤ 57) : isDig b = true := by simp [isDig, h]
theorem dig_f {b : UInt8} (h : ¬ (48 ≤ b.toNat ∧ b.toNat ≤ 57)) : isDig b = false := by simp [isDig]; omega
theorem name_t {b : UInt8} (h : ((97 ≤ b.toNat ∧ b.toNat ≤ 122) ∨ (65 ≤ b.toNat ∧ b.toNat ≤ 90)) ∨ (48 ≤ b.toNat ∧ b.toNat ≤ 57) ∨ b.toNat = 45) : nameC b = true := by
  simp [nameC, isLet, isDig]; omega
theorem name_f {b : UInt8} (h : ¬ (((97 ≤ b.toNat ∧ b.toNat ≤ 122) ∨ (65 ≤ b.toNat ∧ b.toNat ≤ 90)) ∨ (48 ≤ b.toNat ∧ b.toNat ≤ 57) ∨ b.toNat = 45)) : nameC b = false := by
  simp [nameC, isLet, isDig]; omega
/-- how far a walk over a name has come: what is left decides -/
def goesN (l : List UInt8) (i : Nat) : Prop := i ≤ l.length ∧ (1 ≤ l.length ∧ l.length ≤ 12) ∧ (i = 0 ∨ l.head?.any isLet = true) ∧ l.all nameC = (l.drop i).all nameC
theorem goesN_0 {l : List UInt8} (h : 1 ≤ l.length ∧ l.length ≤ 12) : goesN l 0 := ⟨Nat.zero_le _, h, .inl rfl, rfl⟩
theorem nameOK_len {l : List UInt8} (h : ¬ (1 ≤ l.length ∧ l.length ≤ 12)) : nameOK l = false := by
  unfold nameOK
  rcases Nat.lt_or_ge l.length 1 with h1 | h1
  · rw [decide_eq_false (by omega : ¬ 1 ≤ l.length)]; rfl
  · rw [decide_eq_false (by omega : ¬ l.length ≤ 12)]; simp
theorem head_of {l : List UInt8} (h : 0 < l.length) : l.head? = some l[0] := by
  cases l with
  | nil => cases h
  | cons a r => rfl
theorem nameOK_head {l : List UInt8} (h : 0 < l.length) (hb : isLet l[0] = false) : nameOK l = false := by
  unfold nameOK
  rw [head_of h]
  simp [hb]
theorem goesN_bad {l : List UInt8} {i : Nat} (h : goesN l i) (hi : i < l.length) (hb : nameC l[i] = false) : nameOK l = false := by
  obtain ⟨_, _, _, h4⟩ := h
  unfold nameOK
  rw [h4, List.drop_eq_getElem_cons hi, List.all_cons, hb]
  simp
theorem goesN_first {l : List UInt8} {i : Nat} (hi : i < l.length) (h0 : i = 0) (hb : isLet l[i] = false) : nameOK l = false := by
  subst h0; exact nameOK_head hi hb
theorem goesN_step {l : List UInt8} {i : Nat} (h : goesN l i) (hi : i < l.length) (hb : nameC l[i] = true) (h0 : i = 0 → isLet l[i] = true) : goesN l (i + 1) := by
  obtain ⟨h1, h2, h3, h4⟩ := h
  refine ⟨hi, h2, .inr ?_, ?_⟩
  · rcases h3 with h3 | h3
    · have := h0 h3
      subst h3
      rw [head_of hi]; simpa using this
    · exact h3
  · rw [h4, List.drop_eq_getElem_cons hi, List.all_cons, hb]; simp
theorem goesN_end {l : List UInt8} {i : Nat} (h : goesN l i) (hi : ¬ i < l.length) : nameOK l = true := by
  obtain ⟨h1, h2, h3, h4⟩ := h
  have e : i = l.length := by omega
  subst e
  rw [List.drop_length] at h4
  have h5 : l.head?.any isLet = true := by
    rcases h3 with h3 | h3
    · omega
    · exact h3
  unfold nameOK
  rw [h4, h5, decide_eq_true h2.1, decide_eq_true h2.2]; rfl
end Go.Str

/- Chapter 4, losses: small functions and names, in data. -/
namespace Go.Proofs.G5v
open Go Go.Abs Go.Proofs Go.Abs.MD Go.Str
set_option maxRecDepth 100000
theorem preLOK : PreOK Tryz.prog (preL C5) := by
  intro g h he args ats H k hk
  unfold preL at he
  split at he
  · cases he
  rename_i hne
  unfold preM at he
  rcases ite_so he with ⟨e, rfl⟩ | he
  · rw [beq_iff_eq] at e; subst e
    exact wpState_call (fun args bs K hk => limL_ok hk) hk
  rcases ite_so he with ⟨e, rfl⟩ | he
  · rw [beq_iff_eq] at e; rw [e] at hne; exact absurd rfl hne
  rcases ite_so he with ⟨e, rfl⟩ | he
  · exact fixH_ok (fun _ _ _ h => h) _ _ _ _ _ hk
  rcases ite_so he with ⟨e, rfl⟩ | he
  · exact fixH_ok (fun _ _ _ h => h) _ _ _ _ _ hk
  rcases ite_so he with ⟨e, rfl⟩ | he
  · exact saidH_ok (fun _ _ _ h => h) _ _ _ _ _ hk
  · cases he
theorem hokL : HandlerOK Tryz.prog (hL C5) := handlerX_ok mixed preLOK (by decide) 6
theorem v2le (l : List (Int × Int)) : 0 + l.length * 2 ≤ (vp l).length := by simp
theorem bc_nf {a : Int} {x y : Prop} : bcase (a != a) x y = y := by rw [show (a != a) = false by simp]; rfl
theorem bcF {x y : Prop} : bcase false x y = y := rfl
theorem conFE (l : List Int) (hlen : l.length < 1000000000) : C5 48 [.sl l.length 1 (vi l)] [dI (fst0 l)] := by
  let inv : Nat × Nat → Prop := fun x => x.1 ≤ l.length ∧ fst0 l = fst0 (l.drop x.1)
  let st : Nat × Nat → Slots × Blocks := fun x => zFE1 l.length x.2 l.length x.1 (vi l)
  refine con_of (L := fun _ s b => ∃ x, inv x ∧ st x = (s, b)) hokE mixed Tryz.func48 rfl (by show 1 ≤ 400; omega) rfl (ids := [0]) (by kernel_rfl) rfl (fun caps => ?_) (fun id hid => ?_)
  · show gFE _ _ l.length (caps 500) (vi l) _
    rw [gFE_text]
    exact ⟨(0, caps 500), ⟨by simp, rfl⟩, rfl⟩
  · obtain rfl := List.mem_singleton.1 hid
    refine ⟨Nat × Nat, st, inv, fun x => l.length - x.1, ⟨fun s b h => h, by kernel_rfl, ?_⟩⟩
    rintro ⟨i, cap⟩ ⟨hi, hr⟩
    simp only at hi hr
    show rFE1 _ _ l.length cap l.length i (vi l) _ _ _
    rw [rFE1_text]
    refine bc_dec (fun h => ?_) (fun h => ?_)
    · have hi' : i < l.length := by omega
      rw [List.drop_eq_getElem_cons hi', fst0] at hr
      simp only [bc_t h, bc_t (show (0 : Int) ≤ (i : Int) by omega), Int.toNat_natCast, at1 (vi_at l i hi')]
      refine bc_bne (fun hc => ?_) (fun hc => ?_)
      · rw [if_neg hc] at hr
        show [dI l[i]] = [dI (fst0 l)]
        rw [hr]
      · rw [if_pos hc] at hr
        refine ⟨(i + 1, cap), ⟨by show i + 1 ≤ l.length; omega, hr⟩, by show l.length - (i + 1) < l.length - i; omega, ?_⟩
        rw [w64 (by omega) (by omega)]; rfl
    · show (if 0 = 0 then _ else _)
      rw [if_pos rfl]
      show nFE2 _ _ _
      rw [nFE2_text]
      have : i = l.length := by omega
      rw [this, List.drop_length] at hr
      show [dI 0] = [dI (fst0 l)]
      rw [hr]; rfl
theorem conWj (a b c : Int) : C5 42 [dI a, dI b, dI c] [.val (.bool (decide (b ≤ a ∧ a ≤ c)))] := by
  refine con_flat hokE mixed Tryz.func42 rfl (by show 0 ≤ 400; omega) rfl (by kernel_rfl) (fun caps => ?_)
  show gWj _ _ a b c _
  rw [gWj_text]
  refine bc_dec (fun h => bc_dec (fun h2 => ?_) (fun h2 => ?_)) (fun h => ?_)
  · show _ = _; rw [decide_eq_true (show b ≤ a ∧ a ≤ c from ⟨h, h2⟩)]
  · show _ = _; rw [decide_eq_false (show ¬ (b ≤ a ∧ a ≤ c) by omega)]
  · show _ = _; rw [decide_eq_false (show ¬ (b ≤ a ∧ a ≤ c) by omega)]
theorem sayWt {a b c : Int} (h : b ≤ a ∧ a ≤ c) : Says C5 42 [dI a, dI b, dI c] [.val (.bool true)] := by
  have := conWj a b c
  rw [decide_eq_true h] at this
  exact ⟨this⟩
theorem sayWf {a b c : Int} (h : ¬ (b ≤ a ∧ a ≤ c)) : Says C5 42 [dI a, dI b, dI c] [.val (.bool false)] := by
  have := conWj a b c
  rw [decide_eq_false h] at this
  exact ⟨this⟩
def szI (a : Int) : Int := if -a > a then -a else a
theorem conSi (a : Int) (h : -9223372036854775807 ≤ a ∧ a ≤ 9223372036854775807) : C5 76 [dI a] [dI (szI a)] := by
  refine con_flat hokE mixed Tryz.func76 rfl (by show 0 ≤ 400; omega) rfl (by kernel_rfl) (fun caps => ?_)
  show gSi _ _ a _
  rw [gSi_text, w64 (by omega) (by omega)]
  show [dI _] = [dI _]
  rw [show (0 : Int) - a = -a by omega]; rfl
theorem conGc (a b : Int) (ha : -9223372036854775808 ≤ a ∧ a ≤ 9223372036854775807) (hb : -9223372036854775807 ≤ b ∧ b ≤ 9223372036854775807) (h0 : b = 0 → -9223372036854775807 ≤ a) : C5 90 [dI a, dI b] [dI (Int.gcd a b)] := by
  let inv : Int × Int → Prop := fun x => (-9223372036854775808 ≤ x.1 ∧ x.1 ≤ 9223372036854775807) ∧ (-9223372036854775807 ≤ x.2 ∧ x.2 ≤ 9223372036854775807) ∧ (x.2 = 0 → -9223372036854775807 ≤ x.1) ∧ Int.gcd x.1 x.2 = Int.gcd a b
  let st : Int × Int → Slots × Blocks := fun x => zGc1 x.1 x.2
  refine con_of (L := fun _ s b => ∃ x, inv x ∧ st x = (s, b)) hokL mixed Tryz.func90 rfl (by show 0 ≤ 400; omega) rfl (ids := [0]) (by kernel_rfl) rfl (fun caps => ?_) (fun id hid => ?_)
  · show gGc _ _ a b _
    rw [gGc_text]
    exact ⟨(a, b), ⟨ha, hb, h0, rfl⟩, rfl⟩
  · obtain rfl := List.mem_singleton.1 hid
    refine ⟨Int × Int, st, inv, fun x => x.2.natAbs, ⟨fun s b h => h, by kernel_rfl, ?_⟩⟩
    rintro ⟨x, y⟩ ⟨hx, hy, hxy, hg⟩
    simp only at hx hy hxy hg
    show rGc1 _ _ x y _ _ _
    rw [rGc1_text]
    refine bc_bne (fun h => ?_) (fun h => ?_)
    · simp only [bc_n h, true_and, and_true]
      have hlt := gcd_step_lt (a := x) h
      have hst := gcd_step x y
      refine ⟨(y, x.tmod y), ⟨⟨by show -9223372036854775808 ≤ y; omega, hy.2⟩, ?_, fun _ => hy.1, by show Int.gcd y (x.tmod y) = _; omega⟩, hlt, rfl⟩
      show -9223372036854775807 ≤ x.tmod y ∧ x.tmod y ≤ 9223372036854775807
      have : (x.tmod y).natAbs < y.natAbs := hlt
      omega
    · show (if 0 = 0 then _ else _)
      rw [if_pos rfl]
      show nGc2 _ _ x _
      have hxl := hxy h
      rw [nGc2_text]
      refine ⟨_, ⟨conSi x (by omega)⟩, ?_⟩
      subst h
      have := gcd_end x
      show [dI _] = [dI _]
      rw [show ((Int.gcd a b : Nat) : Int) = (Int.gcd x 0 : Nat) by rw [hg], this]
      have e : szI x = (if x < 0 then -x else x) := by unfold szI; split <;> split <;> omega
      rw [e]
theorem sayOr {f : FuncId} {args : List D} {b : Bool} {A B : Prop} (h : C5 f args [dB b]) (h1 : b = true → A) (h2 : b = false → B) : (Says C5 f args [.val (.bool true)] ∧ A) ∨ (Says C5 f args [.val (.bool false)] ∧ B) := by
  cases b with
  | true => exact .inl ⟨⟨h⟩, h1 rfl⟩
  | false => exact .inr ⟨⟨h⟩, h2 rfl⟩
theorem coniL (b : UInt8) : C5 114 [.val (.int .u8 (b.toNat : Int))] [dB (isLet b)] := by
  refine con_flat hokL mixed Tryz.func114 rfl (by show 0 ≤ 400; omega) rfl (by kernel_rfl) (fun caps => ?_)
  show giL _ _ (b.toNat : Int) _
  rw [giL_text]
  repeat' refine bc_dec (fun _ => ?_) (fun _ => ?_)
  all_goals first
    | (show [D.val (Value.bool true)] = [dB (isLet b)]; rw [let_t (by omega)])
    | (show [D.val (Value.bool false)] = [dB (isLet b)]; rw [let_f (by omega)])
theorem coniD (b : UInt8) : C5 110 [.val (.int .u8 (b.toNat : Int))] [dB (isDig b)] := by
  refine con_flat hokL mixed Tryz.func110 rfl (by show 0 ≤ 400; omega) rfl (by kernel_rfl) (fun caps => ?_)
  show giD _ _ (b.toNat : Int) _
  rw [giD_text]
  repeat' refine bc_dec (fun _ => ?_) (fun _ => ?_)
  all_goals first
    | (show [D.val (Value.bool true)] = [dB (isDig b)]; rw [dig_t (by omega)])
    | (show [D.val (Value.bool false)] = [dB (isDig b)]; rw [dig_f (by omega)])
def nameE (l : List UInt8) : Int := if nameOK l = true then 0 else 4
theorem nameE_bad {l : List UInt8} (h : nameOK l = false) : nameE l = 4 := by unfold nameE; rw [h]; rfl
theorem nameE_ok {l : List UInt8} (h : nameOK l = true) : nameE l = 0 := by unfold nameE; rw [h]; rfl
theorem concN (l : List UInt8) : C5 87 [dS l] [dI (nameE l)] := by
  let inv : Nat → Prop := fun i => goesN l i ∧ l.head?.any isLet = true
  let st : Nat → Slots × Blocks := fun i => zcN1 (bs l) l.length i
  refine con_of (L := fun _ s b => ∃ x, inv x ∧ st x = (s, b)) hokL mixed Tryz.func87 rfl (by show 0 ≤ 400; omega) rfl (ids := [0]) (by kernel_rfl) rfl (fun caps => ?_) (fun id hid => ?_)
  · show gcN _ _ (bs l) _
    rw [gcN_text]
    simp only [bs_size]
    refine bc_beq (fun h => ?_) (fun h => bc_dec (fun h2 => ?_) (fun h2 => ?_))
    · show [dI 4] = [dI (nameE l)]
      rw [nameE_bad (nameOK_len (by omega))]
    · show [dI 4] = [dI (nameE l)]
      rw [nameE_bad (nameOK_len (by omega))]
    · have hl : 0 < l.length := by omega
      simp only [byte1 (List.getElem?_eq_getElem hl)]
      refine sayOr (coniL _) (fun h3 => ⟨0, ⟨goesN_0 (by omega), ?_⟩, rfl⟩) (fun h3 => ?_)
      · rw [head_of hl]; simpa using h3
      · show [dI 4] = [dI (nameE l)]
        rw [nameE_bad (nameOK_head hl h3)]
  · obtain rfl := List.mem_singleton.1 hid
    refine ⟨Nat, st, inv, fun x => l.length - x, ⟨fun s b h => h, by kernel_rfl, ?_⟩⟩
    rintro i ⟨hg, hh⟩
    have hb := hg.1
    have h12 := hg.2.1
    show rcN1 _ _ (bs l) l.length i _ _ _
    rw [rcN1_text]
    refine bc_dec (fun h => ?_) (fun h => ?_)
    · have hi : i < l.length := by omega
      have h0 : i = 0 → isLet l[i] = true := by
        rintro rfl
        rw [head_of hi] at hh; simpa using hh
      simp only [bc_t (show (0 : Int) ≤ (i : Int) by omega), Int.toNat_natCast, byte1 (List.getElem?_eq_getElem hi), wi1 hi (by omega)]
      have good : nameC l[i] = true → ∃ x, inv x ∧ l.length - x < l.length - i ∧ st x = ([(0, Value.string (bs l)), (19, .int .i64 (l.length : Int)), (20, .int .i64 ((i + 1 : Nat) : Int))], []) := fun hc =>
        ⟨i + 1, ⟨goesN_step hg hi hc h0, hh⟩, by omega, rfl⟩
      refine sayOr (coniL _) (fun h1 => good (by unfold nameC; rw [h1]; rfl)) (fun h1 => ?_)
      refine sayOr (coniD _) (fun h2 => good (by unfold nameC; rw [h2]; simp)) (fun h2 => ?_)
      refine bc_bne (fun h3 => ?_) (fun h3 => good (by unfold nameC; rw [show l[i].toNat = 45 by omega]; simp))
      show [dI 4] = [dI (nameE l)]
      rw [nameE_bad (goesN_bad hg hi (by unfold nameC; rw [h1, h2]; simp; omega))]
    · show (if 0 = 0 then _ else _)
      rw [if_pos rfl]
      show ncN2 _ _ _
      rw [ncN2_text]
      show [dI 0] = [dI (nameE l)]
      rw [nameE_ok (goesN_end hg (by omega))]
theorem conIN (l : List UInt8) : C5 80 [dS l] [dB (nameOK l)] := by
  let inv : Nat → Prop := fun i => goesN l i
  let st : Nat → Slots × Blocks := fun i => zIN1 (bs l) i
  refine con_of (L := fun _ s b => ∃ x, inv x ∧ st x = (s, b)) hokL mixed Tryz.func80 rfl (by show 0 ≤ 400; omega) rfl (ids := [0]) (by kernel_rfl) rfl (fun caps => ?_) (fun id hid => ?_)
  · show gIN _ _ (bs l) _
    rw [gIN_text]
    simp only [bs_size]
    refine bc_dec (fun h => ?_) (fun h => bc_dec (fun h2 => ?_) (fun h2 => ⟨0, goesN_0 (by omega), rfl⟩))
    · show [D.val (Value.bool false)] = [dB (nameOK l)]
      rw [nameOK_len (by omega)]
    · show [D.val (Value.bool false)] = [dB (nameOK l)]
      rw [nameOK_len (by omega)]
  · obtain rfl := List.mem_singleton.1 hid
    refine ⟨Nat, st, inv, fun x => l.length - x, ⟨fun s b h => h, by kernel_rfl, ?_⟩⟩
    intro i hg
    have hb := hg.1
    have h12 := hg.2.1
    show rIN1 _ _ (bs l) i _ _ _
    rw [rIN1_text]
    simp only [bs_size]
    refine bc_dec (fun h => ?_) (fun h => ?_)
    · have hi : i < l.length := by omega
      simp only [bc_t (show (0 : Int) ≤ (i : Int) by omega), Int.toNat_natCast, byte1 (List.getElem?_eq_getElem hi), wi1 hi (by omega)]
      have good : nameC l[i] = true → (i = 0 → isLet l[i] = true) → ∃ x, inv x ∧ l.length - x < l.length - i ∧ st x = ([(0, Value.string (bs l)), (3, .int .i64 ((i + 1 : Nat) : Int))], []) := fun hc h0 =>
        ⟨i + 1, goesN_step hg hi hc h0, by omega, rfl⟩
      repeat' first
        | refine bc_dec (fun _ => ?_) (fun _ => ?_)
        | refine bc_beq (fun _ => ?_) (fun _ => ?_)
        | refine bc_bne (fun _ => ?_) (fun _ => ?_)
      all_goals first
        | exact good (name_t (by omega)) (fun _ => let_t (by omega))
        | exact good (name_t (by omega)) (fun h0 => absurd h0 (by omega))
        | (show [D.val (Value.bool false)] = [dB (nameOK l)]; rw [goesN_bad hg hi (name_f (by omega))])
        | (show [D.val (Value.bool false)] = [dB (nameOK l)]; rw [goesN_first hi (by omega) (let_f (by omega))])
    · show nIN2 _ _ _
      rw [nIN2_text]
      show [D.val (Value.bool true)] = [dB (nameOK l)]
      rw [goesN_end hg (by omega)]

theorem concT (l : List Int) (hl : l.length < 1000000000) : C5 55 [.sl l.length 1 (vi l)] [dI (limE 0 20000 (vi l))] := by
  refine con_flat hokL mixed Tryz.func55 rfl (by show 1 ≤ 400; omega) rfl (by kernel_rfl) (fun caps => ?_)
  show gcT _ _ l.length (caps 500) (vi l) _
  rw [gcT_text]
  exact ⟨l, rfl, rfl, hl, _, ⟨limC_of rfl⟩, rfl⟩
theorem concT1 (a : Int) : C5 55 [.sl 1 1 [vI a]] [dI (xErr a)] := by
  have := concT [a] (by simp)
  rw [show limE 0 20000 (vi [a]) = xErr a from limE1 ..] at this; exact this
def cntE (n most : Int) : Int := if n = 0 then 10 else if n > most then 8 else 0
theorem concC (n most : Int) : C5 88 [dI n, dI most] [dI (cntE n most)] := by
  refine con_flat hokE mixed Tryz.func88 rfl (by show 0 ≤ 400; omega) rfl (by kernel_rfl) (fun caps => ?_)
  show gcC _ _ n most _
  rw [gcC_text]; unfold cntE
  refine bc_beq (fun h => ?_) (fun h => bc_dec (fun h2 => ?_) (fun h2 => ?_))
  · show _ = _; rw [if_pos h]
  · show _ = _; rw [if_neg h, if_pos h2]
  · show _ = _; rw [if_neg h, if_neg h2]
/-- the greatest divisor of both; b is above 0 -/
theorem condv (a b : Int) (_ : -9223372036854775808 ≤ a ∧ a ≤ 9223372036854775807) (hb : 0 < b ∧ b ≤ 9223372036854775807) : C5 113 [dI a, dI b] [dI (Int.gcd a b)] := by
  let inv : Int × Int → Prop := fun x => 0 ≤ x.1 ∧ 0 ≤ x.2 ∧ Int.gcd x.1 x.2 = Int.gcd a b
  let st : Int × Int → Slots × Blocks := fun x => zdv1 x.1 x.2
  refine con_of (L := fun _ s b => ∃ x, inv x ∧ st x = (s, b)) hokE mixed Tryz.func113 rfl (by show 0 ≤ 400; omega) rfl (ids := [0]) (by kernel_rfl) rfl (fun caps => ?_) (fun id hid => ?_)
  · show gdv _ _ a b _
    rw [gdv_text, bc_n (show b ≠ 0 by omega)]
    have hlt := gcd_step_lt (a := a) (b := b) (by omega)
    have hst := gcd_step a b
    have hw : IntKind.wrap .i64 (0 - a.tmod b) = 0 - a.tmod b := w64 (by omega) (by omega)
    rw [hw]
    refine ⟨(b, if 0 - a.tmod b > a.tmod b then 0 - a.tmod b else a.tmod b), ⟨by show 0 ≤ b; omega, ?_, ?_⟩, rfl⟩
    · show 0 ≤ (if 0 - a.tmod b > a.tmod b then 0 - a.tmod b else a.tmod b)
      split <;> omega
    · show Int.gcd b (if 0 - a.tmod b > a.tmod b then 0 - a.tmod b else a.tmod b) = _
      split
      · have e : Int.gcd b (0 - a.tmod b) = Int.gcd b (a.tmod b) := by
          rw [show (0 : Int) - a.tmod b = -(a.tmod b) by omega, Int.gcd_neg]
        omega
      · omega
  · obtain rfl := List.mem_singleton.1 hid
    refine ⟨Int × Int, st, inv, fun x => x.2.natAbs, ⟨fun s b h => h, by kernel_rfl, ?_⟩⟩
    rintro ⟨x, y⟩ ⟨hx, hy, hg⟩
    simp only at hx hy hg
    show rdv1 _ _ x y _ _ _
    rw [rdv1_text]
    refine bc_dec (fun h => ?_) (fun h => ?_)
    · have hne : y ≠ 0 := by omega
      simp only [bc_n hne, true_and, and_true]
      have hlt := gcd_step_lt (a := x) hne
      have hst := gcd_step x y
      exact ⟨(y, x.tmod y), ⟨hy, Int.tmod_nonneg _ hx, by show Int.gcd y (x.tmod y) = _; omega⟩, hlt, rfl⟩
    · show (if 0 = 0 then _ else _)
      rw [if_pos rfl]
      show ndv2 _ _ x _
      obtain rfl : y = 0 := by omega
      have he := gcd_end x
      rw [if_neg (by omega)] at he
      rw [ndv2_text]
      show [dI _] = [dI _]
      rw [← hg, he]
/-- is a fraction in lowest terms -/
def lowP (n d : Int) : Prop := 0 < d ∧ Int.gcd n d = 1
instance (n d : Int) : Decidable (lowP n d) := by unfold lowP; infer_instance
def I64 (a : Int) : Prop := -9223372036854775808 ≤ a ∧ a ≤ 9223372036854775807
theorem concF (a b c d : Int) (ha : I64 a) (hb : I64 b) (hc : I64 c) (hd : I64 d) : C5 85 [.sl 2 2 [vI a, vI b, vI c, vI d]] [dI (if lowP a b ∧ lowP c d then 0 else 3)] := by
  refine con_walk hokL mixed (u := 8) (by decide) Tryz.func85 rfl (by show 1 ≤ 400; omega) (fun caps => ?_)
  show gcF _ (caps 500) a b c d _
  rw [gcF_text]
  try simp only [eq_self, true_and, and_true]
  have A1 : At [vI a, vI b, vI c, vI d] 0 2 [vI a, vI b] := ⟨by simp, rfl⟩
  have A2 : At [vI a, vI b, vI c, vI d] 2 2 [vI c, vI d] := ⟨by simp, rfl⟩
  simp only [at2 A1, at2 A2]
  by_cases h1 : 0 < b
  · rw [bc_f (show ¬ b ≤ 0 by omega)]
    refine ⟨_, ⟨condv a b ha ⟨h1, hb.2⟩⟩, bc_bne (fun h2 => ?_) (fun h2 => ?_)⟩
    · show [dI _] = [dI _]
      rw [if_neg (fun h => h2 (by have := h.1.2; omega))]
    · by_cases h3 : 0 < d
      · rw [bc_f (show ¬ d ≤ 0 by omega)]
        refine ⟨_, ⟨condv c d hc ⟨h3, hd.2⟩⟩, bc_bne (fun h4 => ?_) (fun h4 => ?_)⟩
        · show [dI _] = [dI _]
          rw [if_neg (fun h => h4 (by have := h.2.2; omega))]
        · show [dI _] = [dI _]
          rw [if_pos ⟨⟨h1, by omega⟩, h3, by omega⟩]
      · rw [bc_t (show d ≤ 0 by omega)]
        rw [if_neg (fun h => h3 h.2.1)]
  · rw [bc_t (show b ≤ 0 by omega)]
    rw [if_neg (fun h => h1 h.1.1)]
theorem conXE (a : Int) : C5 81 [dI a] [dI (xErr a)] := by
  refine con_flat hokL mixed Tryz.func81 rfl (by show 0 ≤ 400; omega) rfl (by kernel_rfl) (fun caps => ?_)
  show gXE _ _ a _
  rw [gXE_text]
  by_cases h : 0 ≤ a ∧ a ≤ 20000
  · exact .inl ⟨sayWt h, by rw [xErr, if_pos h]⟩
  · exact .inr ⟨sayWf h, by rw [xErr, if_neg h]⟩
theorem conIl (a b : Int) (ha : I64 a) (hb : I64 b) : C5 78 [.agg [dI a, dI b]] [.val (.bool (decide (lowP a b)))] := by
  refine con_flat hokL mixed Tryz.func78 rfl (by show 0 ≤ 400; omega) rfl (by kernel_rfl) (fun caps => ?_)
  show gIL _ _ a b _
  rw [gIL_text]
  refine bc_dec (fun h => ?_) (fun h => ?_)
  · refine ⟨_, ⟨conGc a b ha ⟨by omega, hb.2⟩ (fun h0 => by omega)⟩, bc_beq (fun h2 => ?_) (fun h2 => ?_)⟩
    · show _ = _; rw [decide_eq_true (show lowP a b from ⟨h, by omega⟩)]
    · show _ = _; rw [decide_eq_false (show ¬ lowP a b from fun hh => h2 (by have := hh.2; omega))]
  · show _ = _; rw [decide_eq_false (show ¬ lowP a b from fun hh => h hh.1)]
theorem coniG (a b : Int) : C5 79 [.agg [dI a, dI b]] [.val (.bool (decide ((1 ≤ a ∧ a ≤ 900) ∧ b ≤ 900)))] := by
  refine con_flat hokL mixed Tryz.func79 rfl (by show 0 ≤ 400; omega) rfl (by kernel_rfl) (fun caps => ?_)
  show giG _ _ a b _
  rw [giG_text]
  by_cases h : 1 ≤ a ∧ a ≤ 900
  · refine .inl ⟨sayWt h, bc_dec (fun h2 => ?_) (fun h2 => ?_)⟩
    · show _ = _; rw [decide_eq_true (show (1 ≤ a ∧ a ≤ 900) ∧ b ≤ 900 from ⟨h, h2⟩)]
    · show _ = _; rw [decide_eq_false (show ¬ ((1 ≤ a ∧ a ≤ 900) ∧ b ≤ 900) from fun hh => h2 hh.2)]
  · refine .inr ⟨sayWf h, ?_⟩
    show _ = _; rw [decide_eq_false (show ¬ ((1 ≤ a ∧ a ≤ 900) ∧ b ≤ 900) from fun hh => h hh.1)]
end Go.Proofs.G5v

/- Chapter 4 in data: tables, their values. -/
namespace Go.Abs.MD
open Go Go.Abs
theorem xErr0 {a : Int} : xErr a = 0 ↔ 0 ≤ a ∧ a ≤ 20000 := by unfold xErr; split <;> simp_all
theorem vErr0 {a : Int} : vErr a = 0 ↔ 1 ≤ a ∧ a ≤ 100000 := by unfold vErr; split <;> simp_all
theorem xErr_or (a : Int) : xErr a = 0 ∨ xErr a = 2 := by unfold xErr; split <;> simp
theorem vErr_or (a : Int) : vErr a = 0 ∨ vErr a = 2 := by unfold vErr; split <;> simp
theorem tchk_cons (p : Int × Int) (r : List (Int × Int)) (q : Option (Int × Int)) (i : Int) : tchk (p :: r) q i = if xErr p.1 = 0 ∧ vErr p.2 = 0 then (match q with
    | none => tchk r (some p) (i + 1)
    | some q => if p.1 ≤ q.1 then (i, 9) else tchk r (some p) (i + 1)) else (i, 2) := by cases q <;> rfl
abbrev dTab (ps : List (Int × Int)) : D := .sl ps.length 2 (vp ps)
structure VT (ps : List (Int × Int)) : Prop where
  some : 0 < ps.length
  few : ps.length ≤ 12
  lo : ∀ p ∈ ps, 0 ≤ p.1 ∧ p.1 ≤ 20000
  val : ∀ p ∈ ps, 1 ≤ p.2 ∧ p.2 ≤ 100000
  up : ∀ (j : Nat) (h : j + 1 < ps.length), ps[j].1 < ps[j + 1].1
theorem tchk_ok : ∀ (l : List (Int × Int)) (q : Option (Int × Int)) (i : Int), (tchk l q i).2 = 0 → (∀ p ∈ l, 0 ≤ p.1 ∧ p.1 ≤ 20000) ∧ (∀ p ∈ l, 1 ≤ p.2 ∧ p.2 ≤ 100000) ∧ (∀ p, q = some p → ∀ r l', l = r :: l' → p.1 < r.1) ∧ ∀ (j : Nat) (h : j + 1 < l.length), l[j].1 < l[j + 1].1
  | [], q, i, _ => ⟨by simp, by simp, by simp, by simp⟩
  | p :: r, q, i, he => by
    rw [tchk_cons] at he
    by_cases h : xErr p.1 = 0 ∧ vErr p.2 = 0
    · rw [if_pos h] at he
      have hp := xErr0.1 h.1
      have hv := vErr0.1 h.2
      have rest : (tchk r (some p) (i + 1)).2 = 0 → (∀ p', q = some p' → p'.1 < p.1) → (∀ p' ∈ p :: r, 0 ≤ p'.1 ∧ p'.1 ≤ 20000) ∧ (∀ p' ∈ p :: r, 1 ≤ p'.2 ∧ p'.2 ≤ 100000) ∧ (∀ p', q = some p' → ∀ r' l', p :: r = r' :: l' → p'.1 < r'.1) ∧ ∀ (j : Nat) (h : j + 1 < (p :: r).length), (p :: r)[j].1 < (p :: r)[j + 1].1 := by
        intro h1 hq
        obtain ⟨h2, hv2, h3, h4⟩ := tchk_ok r _ _ h1
        refine ⟨?_, ?_, ?_, ?_⟩
        · intro p' hp'
          rcases List.mem_cons.1 hp' with rfl | h
          · exact hp
          · exact h2 p' h
        · intro p' hp'
          rcases List.mem_cons.1 hp' with rfl | h
          · exact hv
          · exact hv2 p' h
        · intro p' hp' r' l' e
          obtain ⟨rfl, rfl⟩ := List.cons.inj e
          exact hq p' hp'
        · intro j hj
          cases j with
          | zero =>
            cases r with
            | nil => simp at hj
            | cons r0 r1 => exact h3 p rfl r0 r1 rfl
          | succ j => exact h4 j (by simpa using hj)
      cases q with
      | none => exact rest he (by simp)
      | some q =>
        simp only at he
        split at he
        · simp at he
        · exact rest he (fun p' e => by obtain rfl := Option.some.inj e; omega)
    · rw [if_neg h] at he; simp at he
theorem tab_ok {ps : List (Int × Int)} (h : (tab ps).2 = 0) : VT ps := by
  unfold tab at h
  split at h
  · simp at h
  · split at h
    · simp at h
    · obtain ⟨h1, h2, _, h3⟩ := tchk_ok ps none 0 h
      exact ⟨by omega, by omega, h1, h2, h3⟩
end Go.Abs.MD

/- Chapter 4, losses: tables and their values, in data. -/
namespace Go.Proofs.G5v
open Go Go.Abs Go.Proofs Go.Abs.MD
set_option maxRecDepth 100000
theorem lim1 {lo hi a : Int} : Says limC 0 [dI lo, dI hi, .sl 1 1 [vI a]] [dI (if lo ≤ a ∧ a ≤ hi then 0 else 2)] := ⟨limC_of (limE1 lo hi a).symm⟩
abbrev tR (ps : List (Int × Int)) : List D := [dI (tab ps).1, dI (tab ps).2]
theorem tR_eq {ps : List (Int × Int)} {x : Int × Int} (h : tab ps = x) : tR ps = [dI x.1, dI x.2] := by subst h; rfl
theorem conKT (ps : List (Int × Int)) (hlen : ps.length < 1000000000) : C5 54 [dTab ps] (tR ps) := by
  let inv : Nat × Nat × Nat → Prop := fun x => x.1 ≤ ps.length ∧ tab ps = tchk (ps.drop x.1) (prev ps x.1) x.1
  let st : Nat × Nat × Nat → Slots × Blocks := fun x => zKT1 ps.length x.2.1 ps.length x.2.2 ps.length x.1 (vp ps)
  refine con_of (L := fun _ s b => ∃ x, inv x ∧ st x = (s, b)) hokL mixed Tryz.func54 rfl (by show 1 ≤ 400; omega) rfl (ids := [0]) (by kernel_rfl) rfl (fun caps => ?_) (fun id hid => ?_)
  · show gKT _ _ ps.length (caps 500) (vp ps) _
    rw [gKT_text]
    refine ⟨_, ⟨concC _ _⟩, ?_⟩
    unfold cntE
    by_cases h0 : (ps.length : Int) = 0
    · rw [if_pos h0, bc_n (by decide)]
      show _ = tR ps
      rw [tR_eq (show tab ps = (0, 10) by rw [tab, if_pos (by omega)])]
    · rw [if_neg h0]
      by_cases h1 : (ps.length : Int) > 12
      · rw [if_pos h1, bc_n (by decide)]
        show _ = tR ps
        rw [tR_eq (show tab ps = (0, 8) by rw [tab, if_neg (by omega), if_pos (by omega)])]
      · rw [if_neg h1, bc_nf]
        exact ⟨(0, caps 500, caps 500), ⟨Nat.zero_le _, by rw [tab, if_neg (by omega), if_neg (by omega)]; rfl⟩, rfl⟩
  · obtain rfl := List.mem_singleton.1 hid
    refine ⟨Nat × Nat × Nat, st, inv, fun x => ps.length - x.1, ⟨fun s b h => h, by kernel_rfl, ?_⟩⟩
    rintro ⟨i, c1, c2⟩ ⟨hi, hr⟩
    simp only at hi hr
    show rKT1 _ _ ps.length c1 ps.length c2 ps.length i (vp ps) _ _ _
    rw [rKT1_text]
    refine bc_dec (fun h => ?_) (fun h => ?_)
    · have hi' : i < ps.length := by omega
      have i0 : (0 : Int) ≤ (i : Int) := by omega
      rw [List.drop_eq_getElem_cons hi', tchk_cons] at hr
      have cF := conFE [xErr ps[i].1, vErr ps[i].2] (by simp)
      rw [fst0_two] at cF
      simp only [bc_t h, bc_t i0, Int.toNat_natCast, at2 (vp_two ps i hi'), eq_self, true_and, and_true]
      refine ⟨xErr ps[i].1, ⟨concT1 _⟩, ?_⟩
      try simp only [eq_self, true_and, and_true]
      refine ⟨vErr ps[i].2, lim1, ?_⟩
      try simp only [eq_self, true_and, and_true]
      refine ⟨_, ⟨cF⟩, ?_⟩
      by_cases hx : xErr ps[i].1 = 0
      · by_cases hv : vErr ps[i].2 = 0
        · rw [if_pos ⟨hx, hv⟩] at hr
          rw [if_pos hx, hv, bc_nf]
          have next : ∀ hq : tab ps = tchk (ps.drop (i + 1)) (some ps[i]) (i + 1), ∃ y, inv y ∧ ps.length - y.1 < ps.length - i ∧ st y = (zKT1 ps.length c1 ps.length c2 ps.length (IntKind.wrap .i64 ((i : Int) + 1)) (vp ps)) := fun hq =>
            ⟨(i + 1, c1, c2), ⟨hi', by rw [hq]; simp only [prev, List.getElem?_eq_getElem hi']; rfl⟩, by show ps.length - (i + 1) < ps.length - i; omega, by rw [w64 (by omega) (by omega)]; rfl⟩
          cases i with
          | zero =>
            simp only [bc_f (show ¬ ((0 : Nat) : Int) > 0 by omega), true_and]
            exact next hr
          | succ j =>
            have hj : j < ps.length := by omega
            have hw : IntKind.wrap .i64 (((j + 1 : Nat) : Int) - 1) = (j : Int) := by rw [w64 (by omega) (by omega)]; omega
            have hp : prev ps (j + 1) = some ps[j] := List.getElem?_eq_getElem hj
            simp only [hp] at hr
            have hz0 : (0 : Int) ≤ (j : Int) := by omega
            have hz1 : (j : Int) < (ps.length : Int) := by omega
            have hz2 : ((j + 1 : Nat) : Int) > 0 := by omega
            simp only [hw, bc_t hz0, bc_t hz1, bc_t hz2, Int.toNat_natCast, at1 (vp_one ps j hj), eq_self, and_true]
            refine bc_dec (fun h7 => ?_) (fun h7 => ?_)
            · simp only [bc_t h7, true_and]
              rw [if_pos h7] at hr
              show _ = tR ps
              rw [tR_eq hr]
            · simp only [bc_f h7, true_and]
              rw [if_neg h7] at hr
              exact next hr
        · rw [if_pos hx, bc_n hv]
          rw [if_neg (fun hh => hv hh.2)] at hr
          rcases vErr_or ps[i].2 with h9 | h9
          · exact absurd h9 hv
          · rw [h9]; show _ = tR ps; rw [tR_eq hr]
      · rw [if_neg hx, bc_n hx]
        rw [if_neg (fun hh => hx hh.1)] at hr
        rcases xErr_or ps[i].1 with h9 | h9
        · exact absurd h9 hx
        · rw [h9]; show _ = tR ps; rw [tR_eq hr]
    · show (if 0 = 0 then _ else _)
      rw [if_pos rfl]
      show nKT2 _ _ _
      rw [nKT2_text]
      have : i = ps.length := by omega
      rw [this, List.drop_length] at hr
      show _ = tR ps
      rw [tR_eq hr]; rfl
theorem conRK (ps : List (Int × Int)) (hlen : ps.length < 1000000000) : C5 77 [dTab ps] (tR ps) := by
  let inv : Nat × Nat → Prop := fun x => x.1 ≤ ps.length ∧ tab ps = tchk (ps.drop x.1) (prev ps x.1) x.1
  let st : Nat × Nat → Slots × Blocks := fun x => zRK1 ps.length x.2 x.1 (vp ps)
  refine con_of (L := fun _ s b => ∃ x, inv x ∧ st x = (s, b)) hokL mixed Tryz.func77 rfl (by show 1 ≤ 400; omega) rfl (ids := [0]) (by kernel_rfl) rfl (fun caps => ?_) (fun id hid => ?_)
  · show gRK _ _ ps.length (caps 500) (vp ps) _
    rw [gRK_text]
    refine bc_beq (fun h => ?_) (fun h0 => bc_dec (fun h => ?_) (fun h5 => ?_))
    · show _ = tR ps
      rw [tR_eq (show tab ps = (0, 10) by rw [tab, if_pos (by omega)])]
    · show _ = tR ps
      rw [tR_eq (show tab ps = (0, 8) by rw [tab, if_neg (by omega), if_pos (by omega)])]
    · exact ⟨(0, caps 500), ⟨Nat.zero_le _, by rw [tab, if_neg (by omega), if_neg (by omega)]; rfl⟩, rfl⟩
  · obtain rfl := List.mem_singleton.1 hid
    refine ⟨Nat × Nat, st, inv, fun x => ps.length - x.1, ⟨fun s b h => h, by kernel_rfl, ?_⟩⟩
    rintro ⟨i, c1⟩ ⟨hi, hr⟩
    simp only at hi hr
    show rRK1 _ _ ps.length c1 i (vp ps) _ _ _
    rw [rRK1_text]
    refine bc_dec (fun h => ?_) (fun h => ?_)
    · have hi' : i < ps.length := by omega
      have i0 : (0 : Int) ≤ (i : Int) := by omega
      rw [List.drop_eq_getElem_cons hi', tchk_cons] at hr
      simp only [bc_t h, bc_t i0, Int.toNat_natCast, at1 (vp_one ps i hi'), at1 (vp_sndA ps i hi' 500), eq_self, true_and, and_true]
      refine ⟨xErr ps[i].1, ⟨conXE _⟩, bc_bne (fun hx => ?_) (fun hx => ?_)⟩
      · rw [if_neg (fun hh => hx hh.1)] at hr
        show _ = tR ps; rw [tR_eq hr]
      · by_cases hv : 1 ≤ ps[i].2 ∧ ps[i].2 ≤ 100000
        · rw [if_pos ⟨hx, vErr0.2 hv⟩] at hr
          refine .inl ⟨sayWt hv, ?_⟩
          have next : ∀ hq : tab ps = tchk (ps.drop (i + 1)) (some ps[i]) (i + 1), ∃ y, inv y ∧ ps.length - y.1 < ps.length - i ∧ st y = (zRK1 ps.length c1 (IntKind.wrap .i64 ((i : Int) + 1)) (vp ps)) := fun hq =>
            ⟨(i + 1, c1), ⟨hi', by rw [hq]; simp only [prev, List.getElem?_eq_getElem hi']; rfl⟩, by show ps.length - (i + 1) < ps.length - i; omega, by rw [w64 (by omega) (by omega)]; rfl⟩
          cases i with
          | zero =>
            simp only [bc_f (show ¬ ((0 : Nat) : Int) > 0 by omega), true_and]
            exact next hr
          | succ j =>
            have hj : j < ps.length := by omega
            have hw : IntKind.wrap .i64 (((j + 1 : Nat) : Int) - 1) = (j : Int) := by rw [w64 (by omega) (by omega)]; omega
            have hp : prev ps (j + 1) = some ps[j] := List.getElem?_eq_getElem hj
            simp only [hp] at hr
            have hz0 : (0 : Int) ≤ (j : Int) := by omega
            have hz1 : (j : Int) < (ps.length : Int) := by omega
            have hz2 : ((j + 1 : Nat) : Int) > 0 := by omega
            simp only [hw, bc_t hz0, bc_t hz1, bc_t hz2, Int.toNat_natCast, at1 (vp_one ps j hj), eq_self, and_true]
            refine bc_dec (fun h7 => ?_) (fun h7 => ?_)
            · simp only [bc_t h7, true_and]
              rw [if_pos h7] at hr
              show _ = tR ps
              rw [tR_eq hr]
            · simp only [bc_f h7, true_and]
              rw [if_neg h7] at hr
              exact next hr
        · rw [if_neg (fun hh => hv (vErr0.1 hh.2))] at hr
          refine .inr ⟨sayWf hv, ?_⟩
          show _ = tR ps; rw [tR_eq hr]
    · show (if 0 = 0 then _ else _)
      rw [if_pos rfl]
      show nRK2 _ _ _
      rw [nRK2_text]
      have : i = ps.length := by omega
      rw [this, List.drop_length] at hr
      show _ = tR ps
      rw [tR_eq hr]; rfl
theorem conRKn : C5 77 [.nil] [dI 0, dI 10] := by
  refine con_of (L := fun _ _ _ => False) hokL mixed Tryz.func77 rfl (by show 0 ≤ 400; omega) rfl (ids := [0]) (by kernel_rfl) rfl (fun caps => ?_) (fun id hid => ?_)
  · show gRKn _ _ _
    rw [gRKn_text]
  · obtain rfl := List.mem_singleton.1 hid
    exact ⟨Unit, fun _ => (default, []), fun _ => False, fun _ => 0, ⟨fun s b h => h.elim, by kernel_rfl, fun x h => h.elim⟩⟩
end Go.Proofs.G5v

/- Chapter 4, losses: values of tables, in data. -/
namespace Go.Proofs.G5v
open Go Go.Abs Go.Proofs Go.Abs.MD
set_option maxRecDepth 100000
end Go.Proofs.G5v

/- Chapter 4, losses: rules, corrections and coils, in data. -/
namespace Go.Proofs.G5v
open Go Go.Abs Go.Proofs Go.Abs.MD Go.Str
set_option maxRecDepth 100000
theorem fst0_three (a b c : Int) : fst0 [a, b, c] = if a = 0 then (if b = 0 then c else b) else a := by
  simp only [fst0]; repeat' split
  all_goals first | rfl | omega
abbrev dRu (T : List (Int × Int)) (a b c d e : Int) : D := .agg [.sl T.length 2 (vp T), dI a, dI b, dI c, dI d, dI e]
abbrev dRn (a b c d e : Int) : D := .agg [.nil, dI a, dI b, dI c, dI d, dI e]
abbrev gPs (a b c d e : Int) : Prop := ((1 ≤ a ∧ a ≤ 900) ∧ 1 ≤ b ∧ b ≤ 900) ∧ ((1 ≤ c ∧ c ≤ 900) ∧ 1 ≤ d ∧ d ≤ 900) ∧ 0 ≤ e ∧ e ≤ 900
/-- the index and the error of rules -/
def rulR (T : List (Int × Int)) (a b c d e : Int) : Int × Int := if (tab T).2 ≠ 0 then tab T else if lowP a b ∧ lowP c d then (if gPs a b c d e then (0, 0) else (0, 2)) else (0, 3)
theorem rulR_eq {T : List (Int × Int)} {a b c d e : Int} (h : (tab T).2 = 0) : rulR T a b c d e = if lowP a b ∧ lowP c d then (if gPs a b c d e then (0, 0) else (0, 2)) else (0, 3) := if_neg (fun hh => hh h)
abbrev oP (x : Int × Int) : List D := [dI x.1, dI x.2]
theorem rul_ok {T : List (Int × Int)} {a b c d e : Int} (h : (rulR T a b c d e).2 = 0) : RulOK T a b c d e ∧ lowP a b ∧ lowP c d := by
  unfold rulR at h
  split at h
  · rename_i h1; exact absurd h h1
  · rename_i h1
    split at h
    · rename_i h2
      split at h
      · rename_i h3; exact ⟨⟨by omega, h3.1.1, h3.1.2, h3.2.1.1, h3.2.1.2, h3.2.2⟩, h2⟩
      · exact absurd h (by decide)
    · exact absurd h (by decide)
structure Nums (a b c d : Int) : Prop where
  na : I64 a
  nb : I64 b
  nc : I64 c
  nd : I64 d
theorem conKR (T : List (Int × Int)) (hl : T.length < 1000000000) {a b c d : Int} (e : Int) (hn : Nums a b c d) : C5 47 [dRu T a b c d e] (oP (rulR T a b c d e)) := by
  refine con_flat hokL mixed Tryz.func47 rfl (by show 1 ≤ 400; omega) rfl (by kernel_rfl) (fun caps => ?_)
  show gKR _ _ T.length (caps 500) (vp T) a b c d e _
  rw [gKR_text]
  simp only [vp_whole, bc_t (v2le T), eq_self, true_and, and_true]
  refine ⟨_, _, ⟨conKT T hl⟩, bc_bne (fun h => ?_) (fun h => ?_)⟩
  · show _ = oP _; rw [rulR, if_pos h]
  · refine ⟨_, ⟨concF a b c d hn.na hn.nb hn.nc hn.nd⟩, ?_⟩
    try simp only [eq_self, true_and, and_true]
    refine ⟨_, ⟨limC_of (limE4 1 900 a b c d).symm⟩, ?_⟩
    try simp only [eq_self, true_and, and_true]
    refine ⟨_, ⟨limC_of (limE1 0 900 e).symm⟩, ?_⟩
    try simp only [eq_self, true_and, and_true]
    refine ⟨_, ⟨conFE [if lowP a b ∧ lowP c d then 0 else 3, if (1 ≤ a ∧ a ≤ 900) ∧ (1 ≤ b ∧ b ≤ 900) ∧ (1 ≤ c ∧ c ≤ 900) ∧ 1 ≤ d ∧ d ≤ 900 then 0 else 2, if 0 ≤ e ∧ e ≤ 900 then 0 else 2] (by simp)⟩, ?_⟩
    show [dI 0, dI _] = oP _
    rw [fst0_three, rulR_eq h]
    by_cases h1 : lowP a b ∧ lowP c d
    · have k1 : (if lowP a b ∧ lowP c d then (0 : Int) else 3) = 0 := if_pos h1
      rw [k1, if_pos rfl, if_pos h1]
      by_cases h2 : gPs a b c d e
      · have k2 : (if (1 ≤ a ∧ a ≤ 900) ∧ (1 ≤ b ∧ b ≤ 900) ∧ (1 ≤ c ∧ c ≤ 900) ∧ 1 ≤ d ∧ d ≤ 900 then (0 : Int) else 2) = 0 := if_pos ⟨h2.1.1, h2.1.2, h2.2.1.1, h2.2.1.2⟩
        have k3 : (if 0 ≤ e ∧ e ≤ 900 then (0 : Int) else 2) = 0 := if_pos h2.2.2
        rw [k2, k3, if_pos rfl, if_pos h2]
      · rw [if_neg h2]
        by_cases h3 : (1 ≤ a ∧ a ≤ 900) ∧ (1 ≤ b ∧ b ≤ 900) ∧ (1 ≤ c ∧ c ≤ 900) ∧ 1 ≤ d ∧ d ≤ 900
        · have k2 : (if (1 ≤ a ∧ a ≤ 900) ∧ (1 ≤ b ∧ b ≤ 900) ∧ (1 ≤ c ∧ c ≤ 900) ∧ 1 ≤ d ∧ d ≤ 900 then (0 : Int) else 2) = 0 := if_pos h3
          have k3 : (if 0 ≤ e ∧ e ≤ 900 then (0 : Int) else 2) = 2 := if_neg (fun hh => h2 ⟨⟨h3.1, h3.2.1⟩, ⟨h3.2.2.1, h3.2.2.2⟩, hh⟩)
          rw [k2, k3, if_pos rfl]
        · have k2 : (if (1 ≤ a ∧ a ≤ 900) ∧ (1 ≤ b ∧ b ≤ 900) ∧ (1 ≤ c ∧ c ≤ 900) ∧ 1 ≤ d ∧ d ≤ 900 then (0 : Int) else 2) = 2 := if_neg h3
          rw [k2, if_neg (by decide)]
    · have k1 : (if lowP a b ∧ lowP c d then (0 : Int) else 3) = 3 := if_neg h1
      rw [k1, if_neg (by decide), if_neg h1]
theorem sayB {f : FuncId} {args : List D} {P : Prop} [Decidable P] {A B : Prop} (h : C5 f args [.val (.bool (decide P))]) (h1 : P → A) (h2 : ¬ P → B) : (Says C5 f args [.val (.bool true)] ∧ A) ∨ (Says C5 f args [.val (.bool false)] ∧ B) := by
  by_cases hp : P
  · rw [decide_eq_true hp] at h; exact .inl ⟨⟨h⟩, h1 hp⟩
  · rw [decide_eq_false hp] at h; exact .inr ⟨⟨h⟩, h2 hp⟩
theorem conRR (T : List (Int × Int)) (hl : T.length < 1000000000) {a b c d : Int} (e : Int) (hn : Nums a b c d) : C5 41 [dRu T a b c d e] (oP (rulR T a b c d e)) := by
  refine con_flat hokL mixed Tryz.func41 rfl (by show 1 ≤ 400; omega) rfl (by kernel_rfl) (fun caps => ?_)
  show gRR _ _ T.length (caps 500) (vp T) a b c d e _
  rw [gRR_text]
  simp only [vp_whole, bc_t (v2le T)]
  refine ⟨_, _, ⟨conRK T hl⟩, bc_bne (fun h => ?_) (fun h => ?_)⟩
  · show _ = oP _; rw [rulR, if_pos h]
  · have e3 : ¬ (lowP a b ∧ lowP c d) → [dI 0, dI 3] = oP (rulR T a b c d e) := fun hh => by rw [rulR_eq h, if_neg hh]
    refine sayB (conIl a b hn.na hn.nb) (fun p1 => sayB (conIl c d hn.nc hn.nd) (fun p2 => ?_) (fun p2 => e3 (fun hh => p2 hh.2))) (fun p1 => e3 (fun hh => p1 hh.1))
    have e2 : ¬ gPs a b c d e → [dI 0, dI 2] = oP (rulR T a b c d e) := fun hh => by rw [rulR_eq h, if_pos ⟨p1, p2⟩, if_neg hh]
    refine sayB (coniG a b) (fun p3 => sayB (coniG c d) (fun p4 => ?_) (fun p4 => e2 (fun hh => p4 ⟨hh.2.1.1, hh.2.1.2.2⟩))) (fun p3 => e2 (fun hh => p3 ⟨hh.1.1, hh.1.2.2⟩))
    refine sayB (conWj e 0 900) (fun p5 => ?_) (fun p5 => e2 (fun hh => p5 hh.2.2))
    show _ = oP _
    have hb := p1.1
    have hd := p2.1
    rw [rulR_eq h, if_pos ⟨p1, p2⟩, if_pos ⟨⟨p3.1, by omega, p3.2⟩, ⟨p4.1, by omega, p4.2⟩, p5⟩]
theorem conRRn (a b c d e : Int) : C5 41 [dRn a b c d e] [dI 0, dI 10] := by
  refine con_flat hokL mixed Tryz.func41 rfl (by show 0 ≤ 400; omega) rfl (by kernel_rfl) (fun caps => ?_)
  show gRRn _ _ a b c d e _
  rw [gRRn_text]
  try simp only [eq_self, true_and, and_true]
  exact ⟨0, 10, ⟨conRKn⟩, bc_true (by simp) rfl⟩
theorem conRE (T : List (Int × Int)) (hl : T.length < 1000000000) {a b c d : Int} (e : Int) (hn : Nums a b c d) : C5 16 [dRu T a b c d e] [dI (rulR T a b c d e).2] := by
  refine con_flat hokL mixed Tryz.func16 rfl (by show 1 ≤ 400; omega) rfl (by kernel_rfl) (fun caps => ?_)
  show gRE _ _ T.length (caps 500) (vp T) a b c d e _
  rw [gRE_text]
  simp only [vp_whole, bc_t (v2le T)]
  exact ⟨_, _, ⟨conRR T hl e hn⟩, rfl⟩
theorem conREn (a b c d e : Int) : C5 16 [dRn a b c d e] [dI 10] := by
  refine con_flat hokL mixed Tryz.func16 rfl (by show 0 ≤ 400; omega) rfl (by kernel_rfl) (fun caps => ?_)
  show gREn _ _ a b c d e _
  rw [gREn_text]
  try simp only [eq_self, true_and, and_true]
  exact ⟨_, _, ⟨conRRn a b c d e⟩, rfl⟩
/-- the error of a correction -/
def corE (e v t : Int) : Int := if (0 ≤ v ∧ v ≤ 1000000) ∧ 0 ≤ t ∧ t ≤ e then 0 else 2
theorem conCE (T : List (Int × Int)) (a b c d e v t : Int) : C5 17 [dRu T a b c d e, .agg [dI v, dI t]] [dI (corE e v t)] := by
  refine con_flat hokL mixed Tryz.func17 rfl (by show 1 ≤ 400; omega) rfl (by kernel_rfl) (fun caps => ?_)
  show gCE _ _ T.length (caps 500) (vp T) a b c d e v t _
  rw [gCE_text]
  refine sayB (conWj v 0 1000000) (fun p1 => sayB (conWj t 0 e) (fun p2 => ?_) (fun p2 => ?_)) (fun p1 => ?_)
  · show [dI _] = [dI _]; rw [corE, if_pos ⟨p1, p2⟩]
  · show [dI _] = [dI _]; rw [corE, if_neg (fun hh => p2 hh.2)]
  · show [dI _] = [dI _]; rw [corE, if_neg (fun hh => p1 hh.1)]
/-! ### coils -/
abbrev dCo (nm : List UInt8) (R : List (Int × Int)) : D := .agg [dS nm, .sl R.length 2 (vp R)]
abbrev dCn (nm : List UInt8) : D := .agg [dS nm, .nil]
def fErr (a : Int) : Int := if 0 ≤ a ∧ a ≤ 100000 then 0 else 2
theorem fErr0 {a : Int} : fErr a = 0 ↔ 0 ≤ a ∧ a ≤ 100000 := by unfold fErr; split <;> simp_all
theorem fErr_or (a : Int) : fErr a = 0 ∨ fErr a = 2 := by unfold fErr; split <;> simp
/-- the first wrong reading -/
def rdC : List (Int × Int) → Int → Int × Int
  | [], _ => (0, 0)
  | p :: r, i => if xErr p.1 = 0 ∧ fErr p.2 = 0 then rdC r (i + 1) else (i, 2)
def coR (nm : List UInt8) (R : List (Int × Int)) : Int × Int := if nameOK nm = false then (0, 4) else if R.length = 0 then (0, 10) else if 12 < R.length then (0, 8) else rdC R 0
theorem rdC_ok : ∀ {l : List (Int × Int)} {i : Int}, (rdC l i).2 = 0 → ∀ p ∈ l, (0 ≤ p.1 ∧ p.1 ≤ 20000) ∧ 0 ≤ p.2 ∧ p.2 ≤ 100000
  | [], _, _ => by simp
  | p :: r, i, h => by
    rw [rdC] at h
    split at h
    · rename_i h1
      intro q hq
      rcases List.mem_cons.1 hq with rfl | hq
      · exact ⟨xErr0.1 h1.1, fErr0.1 h1.2⟩
      · exact rdC_ok h q hq
    · exact absurd h (by show ¬ (2 : Int) = 0; decide)
theorem co_ok {nm : List UInt8} {R : List (Int × Int)} (h : (coR nm R).2 = 0) : ReadOK R ∧ 0 < R.length := by
  unfold coR at h
  split at h
  · exact absurd h (by decide)
  · split at h
    · exact absurd h (by decide)
    · split at h
      · exact absurd h (by decide)
      · exact ⟨⟨by omega, rdC_ok h⟩, by omega⟩
theorem conkC (nm : List UInt8) (R : List (Int × Int)) (hl : R.length < 1000000000) : C5 50 [dCo nm R] (oP (coR nm R)) := by
  let inv : Nat × Nat → Prop := fun x => x.1 ≤ R.length ∧ coR nm R = rdC (R.drop x.1) x.1
  let st : Nat × Nat → Slots × Blocks := fun x => zkC1 R.length x.2 R.length x.1 (vp R)
  refine con_of (L := fun _ s b => ∃ x, inv x ∧ st x = (s, b)) hokL mixed Tryz.func50 rfl (by show 1 ≤ 400; omega) rfl (ids := [0]) (by kernel_rfl) rfl (fun caps => ?_) (fun id hid => ?_)
  · show gkC _ _ (bs nm) R.length (caps 500) (vp R) _
    rw [gkC_text]
    try simp only [eq_self, true_and, and_true]
    refine ⟨_, ⟨concN nm⟩, ?_⟩
    try simp only [eq_self, true_and, and_true]
    refine ⟨_, ⟨concC _ _⟩, ?_⟩
    try simp only [eq_self, true_and, and_true]
    refine ⟨_, ⟨conFE [nameE nm, cntE R.length 12] (by simp)⟩, ?_⟩
    rw [fst0_two]
    cases hn : nameOK nm with
    | false =>
      rw [nameE_bad hn, if_neg (by decide), bc_n (by decide)]
      show _ = oP _; rw [coR, if_pos hn]
    | true =>
      rw [nameE_ok hn, if_pos rfl]
      have hnf : ¬ nameOK nm = false := by rw [hn]; decide
      unfold cntE
      by_cases h0 : (R.length : Int) = 0
      · rw [if_pos h0, bc_n (by decide)]
        show _ = oP _; rw [coR, if_neg hnf, if_pos (by omega)]
      · rw [if_neg h0]
        by_cases h1 : (R.length : Int) > 12
        · rw [if_pos h1, bc_n (by decide)]
          show _ = oP _; rw [coR, if_neg hnf, if_neg (by omega), if_pos (by omega)]
        · rw [if_neg h1, bc_nf]
          exact ⟨(0, caps 500), ⟨Nat.zero_le _, by rw [coR, if_neg hnf, if_neg (by omega), if_neg (by omega)]; rfl⟩, rfl⟩
  · obtain rfl := List.mem_singleton.1 hid
    refine ⟨Nat × Nat, st, inv, fun x => R.length - x.1, ⟨fun s b h => h, by kernel_rfl, ?_⟩⟩
    rintro ⟨i, c1⟩ ⟨hi, hr⟩
    simp only at hi hr
    show rkC1 _ _ R.length c1 R.length i (vp R) _ _ _
    rw [rkC1_text]
    refine bc_dec (fun h => ?_) (fun h => ?_)
    · have hi' : i < R.length := by omega
      have i0 : (0 : Int) ≤ (i : Int) := by omega
      rw [List.drop_eq_getElem_cons hi', rdC] at hr
      have cF := conFE [xErr R[i].1, fErr R[i].2] (by simp)
      rw [fst0_two] at cF
      simp only [bc_t h, bc_t i0, Int.toNat_natCast, at2 (vp_two R i hi'), eq_self, true_and, and_true]
      refine ⟨xErr R[i].1, ⟨concT1 _⟩, ?_⟩
      try simp only [eq_self, true_and, and_true]
      refine ⟨fErr R[i].2, lim1, ?_⟩
      try simp only [eq_self, true_and, and_true]
      refine ⟨_, ⟨cF⟩, ?_⟩
      by_cases hx : xErr R[i].1 = 0
      · by_cases hv : fErr R[i].2 = 0
        · rw [if_pos ⟨hx, hv⟩] at hr
          rw [if_pos hx, hv, bc_nf]
          exact ⟨(i + 1, c1), ⟨hi', by rw [hr]; rfl⟩, by show R.length - (i + 1) < R.length - i; omega, by rw [w64 (by omega) (by omega)]; rfl⟩
        · rw [if_pos hx, bc_n hv]
          rw [if_neg (fun hh => hv hh.2)] at hr
          rcases fErr_or R[i].2 with h9 | h9
          · exact absurd h9 hv
          · rw [h9]; show _ = oP _; rw [hr]
      · rw [if_neg hx, bc_n hx]
        rw [if_neg (fun hh => hx hh.1)] at hr
        rcases xErr_or R[i].1 with h9 | h9
        · exact absurd h9 hx
        · rw [h9]; show _ = oP _; rw [hr]
    · show (if 0 = 0 then _ else _)
      rw [if_pos rfl]
      show nkC2 _ _ _
      rw [nkC2_text]
      have : i = R.length := by omega
      rw [this, List.drop_length] at hr
      show _ = oP _; rw [hr]; rfl
theorem conRC (nm : List UInt8) (R : List (Int × Int)) (hl : R.length < 1000000000) : C5 43 [dCo nm R] (oP (coR nm R)) := by
  let inv : Nat × Nat → Prop := fun x => x.1 ≤ R.length ∧ coR nm R = rdC (R.drop x.1) x.1
  let st : Nat × Nat → Slots × Blocks := fun x => zRC1 x.1 (bs nm) R.length x.2 (vp R)
  refine con_of (L := fun _ s b => ∃ x, inv x ∧ st x = (s, b)) hokL mixed Tryz.func43 rfl (by show 1 ≤ 400; omega) rfl (ids := [0]) (by kernel_rfl) rfl (fun caps => ?_) (fun id hid => ?_)
  · show gRC _ _ (bs nm) R.length (caps 500) (vp R) _
    rw [gRC_text]
    refine sayOr (conIN nm) (fun hn => ?_) (fun hn => ?_)
    · have hnf : ¬ nameOK nm = false := by rw [hn]; decide
      refine bc_beq (fun h => ?_) (fun h0 => bc_dec (fun h => ?_) (fun h5 => ?_))
      · show _ = oP _; rw [coR, if_neg hnf, if_pos (by omega)]
      · show _ = oP _; rw [coR, if_neg hnf, if_neg (by omega), if_pos (by omega)]
      · exact ⟨(0, caps 500), ⟨Nat.zero_le _, by rw [coR, if_neg hnf, if_neg (by omega), if_neg (by omega)]; rfl⟩, rfl⟩
    · show _ = oP _; rw [coR, if_pos hn]
  · obtain rfl := List.mem_singleton.1 hid
    refine ⟨Nat × Nat, st, inv, fun x => R.length - x.1, ⟨fun s b h => h, by kernel_rfl, ?_⟩⟩
    rintro ⟨i, c1⟩ ⟨hi, hr⟩
    simp only at hi hr
    show rRC1 _ _ i (bs nm) R.length c1 (vp R) _ _ _
    rw [rRC1_text]
    refine bc_dec (fun h => ?_) (fun h => ?_)
    · have hi' : i < R.length := by omega
      have i0 : (0 : Int) ≤ (i : Int) := by omega
      rw [List.drop_eq_getElem_cons hi', rdC] at hr
      simp only [bc_t h, bc_t i0, Int.toNat_natCast, at1 (vp_one R i hi'), at1 (vp_sndA R i hi' 500)]
      refine ⟨xErr R[i].1, ⟨conXE _⟩, bc_bne (fun hx => ?_) (fun hx => ?_)⟩
      · rw [if_neg (fun hh => hx hh.1)] at hr
        show _ = oP _; rw [hr]
      · by_cases hv : 0 ≤ R[i].2 ∧ R[i].2 ≤ 100000
        · rw [if_pos ⟨hx, fErr0.2 hv⟩] at hr
          refine .inl ⟨sayWt hv, ?_⟩
          exact ⟨(i + 1, c1), ⟨hi', by rw [hr]; rfl⟩, by show R.length - (i + 1) < R.length - i; omega, by rw [w64 (by omega) (by omega)]; rfl⟩
        · rw [if_neg (fun hh => hv (fErr0.1 hh.2))] at hr
          refine .inr ⟨sayWf hv, ?_⟩
          show _ = oP _; rw [hr]
    · show (if 0 = 0 then _ else _)
      rw [if_pos rfl]
      show nRC2 _ _ _
      rw [nRC2_text]
      have : i = R.length := by omega
      rw [this, List.drop_length] at hr
      show _ = oP _; rw [hr]; rfl
theorem coR_nil (nm : List UInt8) : coR nm [] = if nameOK nm = false then (0, 4) else (0, 10) := rfl
theorem conRCn (nm : List UInt8) : C5 43 [dCn nm] (oP (coR nm [])) := by
  refine con_of (L := fun _ _ _ => False) hokL mixed Tryz.func43 rfl (by show 0 ≤ 400; omega) rfl (ids := [0]) (by kernel_rfl) rfl (fun caps => ?_) (fun id hid => ?_)
  · show gRCn _ _ (bs nm) _
    rw [gRCn_text]
    refine sayOr (conIN nm) (fun hn => ?_) (fun hn => ?_)
    · show _ = oP _; rw [coR_nil, if_neg (by rw [hn]; decide)]
    · show _ = oP _; rw [coR_nil, if_pos hn]
  · obtain rfl := List.mem_singleton.1 hid
    exact ⟨Unit, fun _ => (default, []), fun _ => False, fun _ => 0, ⟨fun s b h => h.elim, by kernel_rfl, fun x h => h.elim⟩⟩
theorem conCe (nm : List UInt8) (R : List (Int × Int)) (hl : R.length < 1000000000) : C5 18 [dCo nm R] [dI (coR nm R).2] := by
  refine con_flat hokL mixed Tryz.func18 rfl (by show 1 ≤ 400; omega) rfl (by kernel_rfl) (fun caps => ?_)
  show gCe _ _ (bs nm) R.length (caps 500) (vp R) _
  rw [gCe_text]
  simp only [vp_whole, bc_t (v2le R)]
  exact ⟨_, _, ⟨conRC nm R hl⟩, rfl⟩
theorem conCen (nm : List UInt8) : C5 18 [dCn nm] [dI (coR nm []).2] := by
  refine con_flat hokL mixed Tryz.func18 rfl (by show 0 ≤ 400; omega) rfl (by kernel_rfl) (fun caps => ?_)
  show gCen _ _ (bs nm) _
  rw [gCen_text]
  try simp only [eq_self, true_and, and_true]
  exact ⟨_, _, ⟨conRCn nm⟩, rfl⟩
end Go.Proofs.G5v

/- Short names for what stands often in printed texts of laws. -/
namespace Go.Abs
abbrev Tk (n k : Nat) (l : List Value) : List Value := List.take (n * k) (List.drop 0 l)
abbrev Dw (n k : Nat) (l : List Value) : D := .sl n k (Tk n k l)
abbrev dL (n k : Nat) (l : List Value) : Bool := decide (0 + n * k ≤ List.length l)
abbrev kT : List D := [.val (.bool true)]
abbrev kF : List D := [.val (.bool false)]
abbrev Qf : Prop := Value.bool false = Value.bool false
abbrev Qb : Prop := Value.bool true = Value.bool true
abbrev Qft : Prop := Value.bool false = Value.bool true
abbrev Qtf : Prop := Value.bool true = Value.bool false
end Go.Abs
