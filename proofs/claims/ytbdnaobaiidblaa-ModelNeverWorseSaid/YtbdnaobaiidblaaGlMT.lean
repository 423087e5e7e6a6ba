/- What is left to show of each function, written out; the kernel reckons it. -/
import Derived.Test.YtbdnaobaiidblaaP4
import Derived.Test.YtbdnaobaiidblaaProg
namespace Go.Proofs.G5l
open Go Go.Abs Go.Proofs
set_option maxRecDepth 100000
set_option linter.unusedVariables false
abbrev Ct := FuncId → List D → List D → Prop
abbrev Bx := Slots → Blocks → Prop
abbrev Xx := Nat → Slots → Blocks → Prop
abbrev vI (n : Int) : Value := .int .i64 n
abbrev P1 (b o : Nat) : Value := .pointer (some ⟨b, o, none⟩)
def lm1 (cap : Nat) (lo hi x : Int) (K : Value → Blocks → Prop) : Prop := wpFn Try.prog (fun _ _ _ _ _ => False) (fun _ _ _ => False) 6 86 #[.slice (some ⟨900, 0, none⟩) 1 cap, .pointer (some ⟨901, 0, none⟩), .pointer (some ⟨902, 0, none⟩)] (heapOf [(900, .cells [.int .i64 x] 3 false 1), (901, .cells [.int .i64 lo] 3 false 1), (902, .cells [.int .i64 hi] 3 false 1)]) (stateK K)
theorem lm1_text (cap : Nat) (lo : Int) (hi : Int) (x : Int) (K : Go.Value → Blocks → Prop) : lm1 cap lo hi x K =
 (bcase (decide (x < lo))
 (K (vI 2) [(Prod.mk 900 (AObj.cells [(vI x)] 3 false 1)), (Prod.mk 901 (AObj.cells [(vI lo)] 3 false 1)), (Prod.mk 902 (AObj.cells [(vI hi)] 3 false 1))])
 (bcase (decide (x > hi))
 (K (vI 2) [(Prod.mk 900 (AObj.cells [(vI x)] 3 false 1)), (Prod.mk 901 (AObj.cells [(vI lo)] 3 false 1)), (Prod.mk 902 (AObj.cells [(vI hi)] 3 false 1))])
 (K (vI 0) [(Prod.mk 900 (AObj.cells [(vI x)] 3 false 1)), (Prod.mk 901 (AObj.cells [(vI lo)] 3 false 1)), (Prod.mk 902 (AObj.cells [(vI hi)] 3 false 1))]))) := by kernel_rfl
def lm2 (cap : Nat) (lo hi x y : Int) (K : Value → Blocks → Prop) : Prop := wpFn Try.prog (fun _ _ _ _ _ => False) (fun _ _ _ => False) 6 86 #[.slice (some ⟨900, 0, none⟩) 2 cap, .pointer (some ⟨901, 0, none⟩), .pointer (some ⟨902, 0, none⟩)] (heapOf [(900, .cells [.int .i64 x, .int .i64 y] 3 false 1), (901, .cells [.int .i64 lo] 3 false 1), (902, .cells [.int .i64 hi] 3 false 1)]) (stateK K)
theorem lm2_text (cap : Nat) (lo : Int) (hi : Int) (x : Int) (y : Int) (K : Go.Value → Blocks → Prop) : lm2 cap lo hi x y K =
 (bcase (decide (x < lo))
 (K (vI 2) [(Prod.mk 900 (AObj.cells [(vI x), (vI y)] 3 false 1)), (Prod.mk 901 (AObj.cells [(vI lo)] 3 false 1)), (Prod.mk 902 (AObj.cells [(vI hi)] 3 false 1))])
 (bcase (decide (x > hi))
 (K (vI 2) [(Prod.mk 900 (AObj.cells [(vI x), (vI y)] 3 false 1)), (Prod.mk 901 (AObj.cells [(vI lo)] 3 false 1)), (Prod.mk 902 (AObj.cells [(vI hi)] 3 false 1))])
 (bcase (decide (y < lo))
 (K (vI 2) [(Prod.mk 900 (AObj.cells [(vI x), (vI y)] 3 false 1)), (Prod.mk 901 (AObj.cells [(vI lo)] 3 false 1)), (Prod.mk 902 (AObj.cells [(vI hi)] 3 false 1))])
 (bcase (decide (y > hi))
 (K (vI 2) [(Prod.mk 900 (AObj.cells [(vI x), (vI y)] 3 false 1)), (Prod.mk 901 (AObj.cells [(vI lo)] 3 false 1)), (Prod.mk 902 (AObj.cells [(vI hi)] 3 false 1))])
 (K (vI 0) [(Prod.mk 900 (AObj.cells [(vI x), (vI y)] 3 false 1)), (Prod.mk 901 (AObj.cells [(vI lo)] 3 false 1)), (Prod.mk 902 (AObj.cells [(vI hi)] 3 false 1))]))))) := by kernel_rfl
def lm3 (cap : Nat) (lo hi x y z : Int) (K : Value → Blocks → Prop) : Prop := wpFn Try.prog (fun _ _ _ _ _ => False) (fun _ _ _ => False) 6 86 #[.slice (some ⟨900, 0, none⟩) 3 cap, .pointer (some ⟨901, 0, none⟩), .pointer (some ⟨902, 0, none⟩)] (heapOf [(900, .cells [.int .i64 x, .int .i64 y, .int .i64 z] 3 false 1), (901, .cells [.int .i64 lo] 3 false 1), (902, .cells [.int .i64 hi] 3 false 1)]) (stateK K)
theorem lm3_text (cap : Nat) (lo : Int) (hi : Int) (x : Int) (y : Int) (z : Int) (K : Go.Value → Blocks → Prop) : lm3 cap lo hi x y z K =
 (bcase (decide (x < lo))
 (K (vI 2) [(Prod.mk 900 (AObj.cells [(vI x), (vI y), (vI z)] 3 false 1)), (Prod.mk 901 (AObj.cells [(vI lo)] 3 false 1)), (Prod.mk 902 (AObj.cells [(vI hi)] 3 false 1))])
 (bcase (decide (x > hi))
 (K (vI 2) [(Prod.mk 900 (AObj.cells [(vI x), (vI y), (vI z)] 3 false 1)), (Prod.mk 901 (AObj.cells [(vI lo)] 3 false 1)), (Prod.mk 902 (AObj.cells [(vI hi)] 3 false 1))])
 (bcase (decide (y < lo))
 (K (vI 2) [(Prod.mk 900 (AObj.cells [(vI x), (vI y), (vI z)] 3 false 1)), (Prod.mk 901 (AObj.cells [(vI lo)] 3 false 1)), (Prod.mk 902 (AObj.cells [(vI hi)] 3 false 1))])
 (bcase (decide (y > hi))
 (K (vI 2) [(Prod.mk 900 (AObj.cells [(vI x), (vI y), (vI z)] 3 false 1)), (Prod.mk 901 (AObj.cells [(vI lo)] 3 false 1)), (Prod.mk 902 (AObj.cells [(vI hi)] 3 false 1))])
 (bcase (decide (z < lo))
 (K (vI 2) [(Prod.mk 900 (AObj.cells [(vI x), (vI y), (vI z)] 3 false 1)), (Prod.mk 901 (AObj.cells [(vI lo)] 3 false 1)), (Prod.mk 902 (AObj.cells [(vI hi)] 3 false 1))])
 (bcase (decide (z > hi))
 (K (vI 2) [(Prod.mk 900 (AObj.cells [(vI x), (vI y), (vI z)] 3 false 1)), (Prod.mk 901 (AObj.cells [(vI lo)] 3 false 1)), (Prod.mk 902 (AObj.cells [(vI hi)] 3 false 1))])
 (K (vI 0) [(Prod.mk 900 (AObj.cells [(vI x), (vI y), (vI z)] 3 false 1)), (Prod.mk 901 (AObj.cells [(vI lo)] 3 false 1)), (Prod.mk 902 (AObj.cells [(vI hi)] 3 false 1))]))))))) := by kernel_rfl
def lm4 (cap : Nat) (lo hi x y z u : Int) (K : Value → Blocks → Prop) : Prop := wpFn Try.prog (fun _ _ _ _ _ => False) (fun _ _ _ => False) 6 86 #[.slice (some ⟨900, 0, none⟩) 4 cap, .pointer (some ⟨901, 0, none⟩), .pointer (some ⟨902, 0, none⟩)] (heapOf [(900, .cells [.int .i64 x, .int .i64 y, .int .i64 z, .int .i64 u] 3 false 1), (901, .cells [.int .i64 lo] 3 false 1), (902, .cells [.int .i64 hi] 3 false 1)]) (stateK K)
theorem lm4_text (cap : Nat) (lo : Int) (hi : Int) (x : Int) (y : Int) (z : Int) (u : Int) (K : Go.Value → Blocks → Prop) : lm4 cap lo hi x y z u K =
 (bcase (decide (x < lo))
 (K (vI 2) [(Prod.mk 900 (AObj.cells [(vI x), (vI y), (vI z), (vI u)] 3 false 1)), (Prod.mk 901 (AObj.cells [(vI lo)] 3 false 1)), (Prod.mk 902 (AObj.cells [(vI hi)] 3 false 1))])
 (bcase (decide (x > hi))
 (K (vI 2) [(Prod.mk 900 (AObj.cells [(vI x), (vI y), (vI z), (vI u)] 3 false 1)), (Prod.mk 901 (AObj.cells [(vI lo)] 3 false 1)), (Prod.mk 902 (AObj.cells [(vI hi)] 3 false 1))])
 (bcase (decide (y < lo))
 (K (vI 2) [(Prod.mk 900 (AObj.cells [(vI x), (vI y), (vI z), (vI u)] 3 false 1)), (Prod.mk 901 (AObj.cells [(vI lo)] 3 false 1)), (Prod.mk 902 (AObj.cells [(vI hi)] 3 false 1))])
 (bcase (decide (y > hi))
 (K (vI 2) [(Prod.mk 900 (AObj.cells [(vI x), (vI y), (vI z), (vI u)] 3 false 1)), (Prod.mk 901 (AObj.cells [(vI lo)] 3 false 1)), (Prod.mk 902 (AObj.cells [(vI hi)] 3 false 1))])
 (bcase (decide (z < lo))
 (K (vI 2) [(Prod.mk 900 (AObj.cells [(vI x), (vI y), (vI z), (vI u)] 3 false 1)), (Prod.mk 901 (AObj.cells [(vI lo)] 3 false 1)), (Prod.mk 902 (AObj.cells [(vI hi)] 3 false 1))])
 (bcase (decide (z > hi))
 (K (vI 2) [(Prod.mk 900 (AObj.cells [(vI x), (vI y), (vI z), (vI u)] 3 false 1)), (Prod.mk 901 (AObj.cells [(vI lo)] 3 false 1)), (Prod.mk 902 (AObj.cells [(vI hi)] 3 false 1))])
 (bcase (decide (u < lo))
 (K (vI 2) [(Prod.mk 900 (AObj.cells [(vI x), (vI y), (vI z), (vI u)] 3 false 1)), (Prod.mk 901 (AObj.cells [(vI lo)] 3 false 1)), (Prod.mk 902 (AObj.cells [(vI hi)] 3 false 1))])
 (bcase (decide (u > hi))
 (K (vI 2) [(Prod.mk 900 (AObj.cells [(vI x), (vI y), (vI z), (vI u)] 3 false 1)), (Prod.mk 901 (AObj.cells [(vI lo)] 3 false 1)), (Prod.mk 902 (AObj.cells [(vI hi)] 3 false 1))])
 (K (vI 0) [(Prod.mk 900 (AObj.cells [(vI x), (vI y), (vI z), (vI u)] 3 false 1)), (Prod.mk 901 (AObj.cells [(vI lo)] 3 false 1)), (Prod.mk 902 (AObj.cells [(vI hi)] 3 false 1))]))))))))) := by kernel_rfl
def preM (C : Ct) : FuncId → Option Handler := fun g => if g == 86 then some (stateH (limL 3)) else if g == 71 then some (stateH (minP 72 83 31)) else if g == 9 then some (fixH C copyMR) else if g == 10 then some (fixH C copyMC) else if [5, 37, 51, 65, 62, 85, 66, 38, 87, 88, 64, 50, 52, 33, 68, 34, 8, 39, 11, 12, 13, 40, 74, 45, 77, 75, 43, 14, 17, 47, 15, 20, 46, 18, 19, 16, 21, 76, 91, 49, 48, 22, 23, 44].contains g then some (saidH Try.prog C) else none
def preL (C : Ct) : FuncId → Option Handler := fun g => if g == 71 then none else preM C g
abbrev hL (C : Ct) : Handler := handlerX Try.prog (preL C) 12 6
def preW (C : Ct) : FuncId → Option Handler := fun g => if g == 100 then some (saidH Try.prog C) else none
abbrev hW (C : Ct) : Handler := handlerX Try.prog (preW C) 12 6
abbrev hM (C : Ct) : Handler := handlerX Try.prog (preM C) 12 6
abbrev hE (C : Ct) : Handler := handlerX Try.prog (fun _ => none) 12 6
def gdd (C : Ct) (L : AtLoop) (x0 : Int) (x1 : Int) (k : List D → Prop) : Prop := wpFn Try.prog (hE C) L 0 100 #[.int .i64 x0, .int .i64 x1] (heapOf []) (dataK k)
theorem gdd_text (C : Ct) (L : AtLoop) (x0 : Int) (x1 : Int) (k : List D → Prop) : gdd C L x0 x1 k =
 (bcase (x1 != 0)
 (bcase (x1 != 0)
 (((bcase (x1 != 0)
 (Qv (vI (Int.tmod x0 x1)))
 False) ∧
 ((Qv (vI x1)) ∧
 ((Qv (vI x0)) ∧
 ((bcase (x1 != 0)
 (Qv (vI (IntKind.wrap .i64 (Int.tdiv x0 x1))))
 False) ∧
 ((Qv (vI x1)) ∧
 ((Qv (vI x0)) ∧
 True)))))) ∧
 (((bcase (x1 != 0)
 (Qv (vI (Int.tmod x0 x1)))
 False) ∧
 ((Qv (vI x1)) ∧
 ((Qv (vI x0)) ∧
 True))) ∧
 (True ∧
 (bcase (decide (Int.tmod x0 x1 < 0))
 (k [(D.val (vI (IntKind.wrap .i64 (IntKind.wrap .i64 (Int.tdiv x0 x1) - 1)))), (D.val (vI (IntKind.wrap .i64 (Int.tmod x0 x1 + x1))))])
 (k [(D.val (vI (IntKind.wrap .i64 (Int.tdiv x0 x1)))), (D.val (vI (Int.tmod x0 x1)))])))))
 False)
 False) := by kernel_rfl
def gsh (C : Ct) (x0 : Int) (x1 : Int) (x2 : Int) (x3 : Int) (x4 : Int) (x5 : Int) (x6 : Int) (x7 : Int) (k : List D → Prop) : Prop := wpFn Try.prog (hW C) (fun _ _ _ => False) 8 97 #[.agg #[.int .i64 x0, .int .i64 x1, .int .i64 x2, .int .i64 x3], .agg #[.int .i64 x4, .int .i64 x5, .int .i64 x6, .int .i64 x7]] (heapOf []) (dataK k)
theorem gsh_text (C : Ct) (x0 : Int) (x1 : Int) (x2 : Int) (x3 : Int) (x4 : Int) (x5 : Int) (x6 : Int) (x7 : Int) (k : List D → Prop) : gsh C x0 x1 x2 x3 x4 x5 x6 x7 k =
 (((Qv (vI (IntKind.wrap .i64 (x5 * x7)))) ∧
 ((Qv (vI x7)) ∧
 ((Qv (Pt 1003 3)) ∧
 ((Qv (Pt 1003 2)) ∧
 ((Qv (vI x5)) ∧
 ((Qv (Pt 1003 1)) ∧
 ((Qv (Pt 1003 0)) ∧
 True))))))) ∧
 (((Qv (vI (IntKind.wrap .i64 (x5 * x7)))) ∧
 ((Qv (vI x7)) ∧
 ((Qv (Pt 1003 3)) ∧
 ((Qv (Pt 1003 2)) ∧
 ((Qv (vI x5)) ∧
 ((Qv (Pt 1003 1)) ∧
 ((Qv (Pt 1003 0)) ∧
 True))))))) ∧
 (((Qv (vI (IntKind.wrap .i64 (x5 * x7)))) ∧
 ((Qv (vI x7)) ∧
 ((Qv (Pt 1003 3)) ∧
 ((Qv (Pt 1003 2)) ∧
 ((Qv (vI x5)) ∧
 ((Qv (Pt 1003 1)) ∧
 ((Qv (Pt 1003 0)) ∧
 True))))))) ∧
 (True ∧
 (((Qv (vI x5)) ∧
 ((Qv (Pt 1005 1)) ∧
 ((Qv (vI (IntKind.wrap .i64 (x0 * x4)))) ∧
 ((Qv (vI x4)) ∧
 ((Qv (Pt 1005 0)) ∧
 ((Qv (vI x0)) ∧
 ((Qv (Pt 1002 0)) ∧
 ((Qv (vI 0)) ∧
 True)))))))) ∧
 (∃ n1 : Int,
 (∃ n2 : Int,
 ((Says C 100 [(D.val (vI (IntKind.wrap .i64 (x0 * x4)))), (D.val (vI x5))] [(D.val (vI n1)), (D.val (vI n2))]) ∧
 (((Qv (vI n2)) ∧
 ((Qv (vI n1)) ∧
 ((Qv (Value.tuple [(vI n1), (vI n2)].toArray)) ∧
 ((Qv (Pt 1005 1)) ∧
 ((Qv (vI x4)) ∧
 ((Qv (Pt 1005 0)) ∧
 ((Qv (vI x0)) ∧
 ((Qv (Pt 1002 0)) ∧
 ((Qv (vI 0)) ∧
 True))))))))) ∧
 (((Qv (vI n2)) ∧
 True) ∧
 (True ∧
 (bcase (x5 != 0)
 (((Qv (vI x7)) ∧
 ((Qv (Pt 1006 1)) ∧
 ((Qv (vI (IntKind.wrap .i64 (x1 * x6)))) ∧
 ((Qv (vI x6)) ∧
 ((Qv (Pt 1006 0)) ∧
 ((Qv (vI x1)) ∧
 ((Qv (Pt 1002 1)) ∧
 ((Qv (vI 1)) ∧
 True)))))))) ∧
 (∃ n3 : Int,
 (∃ n4 : Int,
 ((Says C 100 [(D.val (vI (IntKind.wrap .i64 (x1 * x6)))), (D.val (vI x7))] [(D.val (vI n3)), (D.val (vI n4))]) ∧
 (((Qv (vI n4)) ∧
 ((Qv (vI n3)) ∧
 ((Qv (Value.tuple [(vI n3), (vI n4)].toArray)) ∧
 ((Qv (Pt 1006 1)) ∧
 ((Qv (vI x6)) ∧
 ((Qv (Pt 1006 0)) ∧
 ((Qv (vI x1)) ∧
 ((Qv (Pt 1002 1)) ∧
 ((Qv (vI 1)) ∧
 True))))))))) ∧
 (((Qv (vI n4)) ∧
 True) ∧
 (True ∧
 (bcase (x7 != 0)
 (∃ n5 : Int,
 (∃ n6 : Int,
 ((Says C 100 [(D.val (vI (IntKind.wrap .i64 (IntKind.wrap .i64 (0 + IntKind.wrap .i64 (n2 * IntKind.wrap .i64 (Int.tdiv (IntKind.wrap .i64 (x5 * x7)) x5))) + IntKind.wrap .i64 (n4 * IntKind.wrap .i64 (Int.tdiv (IntKind.wrap .i64 (x5 * x7)) x7)))))), (D.val (vI (IntKind.wrap .i64 (x5 * x7))))] [(D.val (vI n5)), (D.val (vI n6))]) ∧
 (bcase (decide (n6 > 0))
 (bcase (decide (x2 ≤ IntKind.wrap .i64 (IntKind.wrap .i64 (IntKind.wrap .i64 (0 + n1) + n3) + n5)))
 (bcase (decide (IntKind.wrap .i64 (IntKind.wrap .i64 (IntKind.wrap .i64 (IntKind.wrap .i64 (0 + n1) + n3) + n5) + 1) ≤ x3))
 (k [(D.val (Value.bool true))])
 (k [(D.val (Value.bool false))]))
 (k [(D.val (Value.bool false))]))
 (bcase (decide (x2 ≤ IntKind.wrap .i64 (IntKind.wrap .i64 (IntKind.wrap .i64 (0 + n1) + n3) + n5)))
 (bcase (decide (IntKind.wrap .i64 (IntKind.wrap .i64 (IntKind.wrap .i64 (0 + n1) + n3) + n5) ≤ x3))
 (k [(D.val (Value.bool true))])
 (k [(D.val (Value.bool false))]))
 (k [(D.val (Value.bool false))]))))))
 False))))))))
 False)))))))))))) := by kernel_rfl
def gLo (C : Ct) (L : AtLoop) (lo : Int) (hi : Int) (n0 : Nat) (c0 : Nat) (l0 : List Value) (K : Value → Blocks → Prop) : Prop := wpFn Try.prog (hE C) L 0 86 #[.slice (some ⟨500, 0, none⟩) n0 c0, .pointer (some ⟨900, 0, none⟩), .pointer (some ⟨901, 0, none⟩)] (heapOf [(500, .sym l0 false 1), (900, .cells [.int .i64 lo] 3 false 1), (901, .cells [.int .i64 hi] 3 false 1)]) (stateK K)
theorem gLo_text (C : Ct) (L : AtLoop) (lo : Int) (hi : Int) (n0 : Nat) (c0 : Nat) (l0 : List Go.Value) (K : Go.Value → Blocks → Prop) : gLo C L lo hi n0 c0 l0 K =
 (L 0 [(Prod.mk 1 (Pt 900 0)), (Prod.mk 2 (Pt 901 0)), (Prod.mk 7 (Sl 500 (n0) (c0))), (Prod.mk 8 (vI ((↑n0 : Int)))), (Prod.mk 9 (vI 0))] [(Prod.mk 900 (AObj.cells [(vI lo)] 3 false 1)), (Prod.mk 901 (AObj.cells [(vI hi)] 3 false 1)), (Prod.mk 500 (AObj.sym (l0) false 1))]) := by kernel_rfl
abbrev zLo1 (n0 : Nat) (c1 : Nat) (x2 : Int) (x3 : Int) (x4 : Int) (x5 : Int) (l6 : List Value) : Slots × Blocks := ([(1, (Value.pointer (some ⟨900, 0, none⟩))), (2, (Value.pointer (some ⟨901, 0, none⟩))), (7, (Value.slice (some ⟨500, 0, none⟩) n0 c1)), (8, (Value.int .i64 x2)), (9, (Value.int .i64 x3))], [(900, (AObj.cells [(Value.int .i64 x4)] 3 false 1)), (901, (AObj.cells [(Value.int .i64 x5)] 3 false 1)), (500, (AObj.sym l6 false 1))])
def rLo1 (C : Ct) (L : AtLoop) (n0 : Nat) (c1 : Nat) (x2 : Int) (x3 : Int) (x4 : Int) (x5 : Int) (l6 : List Value) (B : Bx) (X : Xx) (K : Value → Blocks → Prop) : Prop := wpRound Try.prog (hE C) L 86 0 [(1, (Value.pointer (some ⟨900, 0, none⟩))), (2, (Value.pointer (some ⟨901, 0, none⟩))), (7, (Value.slice (some ⟨500, 0, none⟩) n0 c1)), (8, (Value.int .i64 x2)), (9, (Value.int .i64 x3))] [(900, (AObj.cells [(Value.int .i64 x4)] 3 false 1)), (901, (AObj.cells [(Value.int .i64 x5)] 3 false 1)), (500, (AObj.sym l6 false 1))] B X (stateK K)
theorem rLo1_text (C : Ct) (L : AtLoop) (n0 : Nat) (c1 : Nat) (x2 : Int) (x3 : Int) (x4 : Int) (x5 : Int) (l6 : List Go.Value) (B : Bx) (X : Xx) (K : Go.Value → Blocks → Prop) : rLo1 C L n0 c1 x2 x3 x4 x5 l6 B X K =
 (bcase (decide (x3 < x2))
 (bcase (decide (0 ≤ x3))
 (bcase (decide (x3 < (↑n0 : Int)))
 (∃ n1 : Int,
 ((At (l6) (0 + Int.toNat x3 * 1) 1 [(vI n1)]) ∧
 (bcase (decide (n1 < x4))
 (K (vI 2) [(Prod.mk 900 (AObj.cells [(vI x4)] 3 false 1)), (Prod.mk 901 (AObj.cells [(vI x5)] 3 false 1))])
 (bcase (decide (n1 > x5))
 (K (vI 2) [(Prod.mk 900 (AObj.cells [(vI x4)] 3 false 1)), (Prod.mk 901 (AObj.cells [(vI x5)] 3 false 1))])
 (B [(Prod.mk 1 (Pt 900 0)), (Prod.mk 2 (Pt 901 0)), (Prod.mk 7 (Sl 500 (n0) (c1))), (Prod.mk 8 (vI x2)), (Prod.mk 9 (vI (IntKind.wrap .i64 (x3 + 1))))] [(Prod.mk 900 (AObj.cells [(vI x4)] 3 false 1)), (Prod.mk 901 (AObj.cells [(vI x5)] 3 false 1)), (Prod.mk 500 (AObj.sym (l6) false 1))])))))
 False)
 False)
 (X 0 [] [(Prod.mk 900 (AObj.cells [(vI x4)] 3 false 1)), (Prod.mk 901 (AObj.cells [(vI x5)] 3 false 1))])) := by kernel_rfl
def nLo2 (C : Ct) (L : AtLoop) (x0 : Int) (x1 : Int) (K : Value → Blocks → Prop) : Prop := wpNext Try.prog (hE C) L 86 0 .normal [] [(900, (AObj.cells [(Value.int .i64 x0)] 3 false 1)), (901, (AObj.cells [(Value.int .i64 x1)] 3 false 1))] (stateK K)
theorem nLo2_text (C : Ct) (L : AtLoop) (x0 : Int) (x1 : Int) (K : Go.Value → Blocks → Prop) : nLo2 C L x0 x1 K =
 (K (vI 0) [(Prod.mk 900 (AObj.cells [(vI x0)] 3 false 1)), (Prod.mk 901 (AObj.cells [(vI x1)] 3 false 1))]) := by kernel_rfl
def gMf (C : Ct) (L : AtLoop) (n : Nat) (cp : Nat) (cs : List Value) (n0 : Nat) (c0 : Nat) (ts : List Value) (a : Int) (b : Int) (c : Int) (d : Int) (e : Int) (nm : ByteArray) (n1 : Nat) (c1 : Nat) (rs : List Value) (K : Value → Blocks → Prop) : Prop := wpFn Try.prog (hL C) L 0 71 #[.slice (some ⟨900, 0, none⟩) n cp, .func (.func 72) #[] #[.pointer (some ⟨901, 0, none⟩), .pointer (some ⟨902, 0, none⟩)]] (heapOf [(900, .sym cs true 1), (901, .cells [.slice (some ⟨500, 0, none⟩) n0 c0, .int .i64 a, .int .i64 b, .int .i64 c, .int .i64 d, .int .i64 e] 83 false 1), (902, .cells [.string nm, .slice (some ⟨501, 0, none⟩) n1 c1] 31 false 1), (500, .sym ts false 2), (501, .sym rs false 2)]) (stateK K)
theorem gMf_text (C : Ct) (L : AtLoop) (n : Nat) (cp : Nat) (cs : List Go.Value) (n0 : Nat) (c0 : Nat) (ts : List Go.Value) (a : Int) (b : Int) (c : Int) (d : Int) (e : Int) (nm : ByteArray) (n1 : Nat) (c1 : Nat) (rs : List Go.Value) (K : Go.Value → Blocks → Prop) : gMf C L n cp cs n0 c0 ts a b c d e nm n1 c1 rs K =
 (bcase (decide ((↑n : Int) < 1))
 False
 (bcase (decide (0 < (↑n : Int)))
 (∃ n2 : Int,
 ((At (cs) 0 1 [(vI n2)]) ∧
 (L 0 [(Prod.mk 0 (Sl 900 (n) (cp))), (Prod.mk 1 (Value.func (Go.Fn.func 72) [].toArray [(Pt 901 0), (Pt 902 0)].toArray)), (Prod.mk 5 (vI n2)), (Prod.mk 6 (vI 1))] [(Prod.mk 900 (AObj.sym (cs) true 1)), (Prod.mk 901 (AObj.cells [(Sl 500 (n0) (c0)), (vI a), (vI b), (vI c), (vI d), (vI e)] 83 false 1)), (Prod.mk 902 (AObj.cells [(Value.string (nm)), (Sl 501 (n1) (c1))] 31 false 1)), (Prod.mk 500 (AObj.sym (ts) false 2)), (Prod.mk 501 (AObj.sym (rs) false 2))])))
 False)) := by kernel_rfl
abbrev zMf1 (n0 : Nat) (c1 : Nat) (x2 : Int) (x3 : Int) (l4 : List Value) (n5 : Nat) (c6 : Nat) (x7 : Int) (x8 : Int) (x9 : Int) (x10 : Int) (x11 : Int) (s12 : ByteArray) (n13 : Nat) (c14 : Nat) (l15 : List Value) (l16 : List Value) : Slots × Blocks := ([(0, (Value.slice (some ⟨900, 0, none⟩) n0 c1)), (1, (Value.func (.func 72) #[] #[(Value.pointer (some ⟨901, 0, none⟩)), (Value.pointer (some ⟨902, 0, none⟩))])), (5, (Value.int .i64 x2)), (6, (Value.int .i64 x3))], [(900, (AObj.sym l4 true 1)), (901, (AObj.cells [(Value.slice (some ⟨500, 0, none⟩) n5 c6), (Value.int .i64 x7), (Value.int .i64 x8), (Value.int .i64 x9), (Value.int .i64 x10), (Value.int .i64 x11)] 83 false 1)), (902, (AObj.cells [(Value.string s12), (Value.slice (some ⟨501, 0, none⟩) n13 c14)] 31 false 1)), (500, (AObj.sym l15 false 2)), (501, (AObj.sym l16 false 2))])
def rMf1 (C : Ct) (L : AtLoop) (n0 : Nat) (c1 : Nat) (x2 : Int) (x3 : Int) (l4 : List Value) (n5 : Nat) (c6 : Nat) (x7 : Int) (x8 : Int) (x9 : Int) (x10 : Int) (x11 : Int) (s12 : ByteArray) (n13 : Nat) (c14 : Nat) (l15 : List Value) (l16 : List Value) (B : Bx) (X : Xx) (K : Value → Blocks → Prop) : Prop := wpRound Try.prog (hL C) L 71 0 [(0, (Value.slice (some ⟨900, 0, none⟩) n0 c1)), (1, (Value.func (.func 72) #[] #[(Value.pointer (some ⟨901, 0, none⟩)), (Value.pointer (some ⟨902, 0, none⟩))])), (5, (Value.int .i64 x2)), (6, (Value.int .i64 x3))] [(900, (AObj.sym l4 true 1)), (901, (AObj.cells [(Value.slice (some ⟨500, 0, none⟩) n5 c6), (Value.int .i64 x7), (Value.int .i64 x8), (Value.int .i64 x9), (Value.int .i64 x10), (Value.int .i64 x11)] 83 false 1)), (902, (AObj.cells [(Value.string s12), (Value.slice (some ⟨501, 0, none⟩) n13 c14)] 31 false 1)), (500, (AObj.sym l15 false 2)), (501, (AObj.sym l16 false 2))] B X (stateK K)
theorem rMf1_text (C : Ct) (L : AtLoop) (n0 : Nat) (c1 : Nat) (x2 : Int) (x3 : Int) (l4 : List Go.Value) (n5 : Nat) (c6 : Nat) (x7 : Int) (x8 : Int) (x9 : Int) (x10 : Int) (x11 : Int) (s12 : ByteArray) (n13 : Nat) (c14 : Nat) (l15 : List Go.Value) (l16 : List Go.Value) (B : Bx) (X : Xx) (K : Go.Value → Blocks → Prop) : rMf1 C L n0 c1 x2 x3 l4 n5 c6 x7 x8 x9 x10 x11 s12 n13 c14 l15 l16 B X K =
 (bcase (decide (x3 < (↑n0 : Int)))
 (bcase (decide (0 ≤ x3))
 (bcase (decide (x3 < (↑n0 : Int)))
 (∃ n1 : Int,
 ((At (l4) (0 + Int.toNat x3 * 1) 1 [(vI n1)]) ∧
 (((Qv (vI x2)) ∧
 ((Qv (Value.agg [(Value.string (s12)), (Sl 501 (n13) (c14))].toArray)) ∧
 ((Qv (Value.agg [(Sl 500 (n5) (c6)), (vI x7), (vI x8), (vI x9), (vI x10), (vI x11)].toArray)) ∧
 ((Qv (vI n1)) ∧
 ((Qv (Value.agg [(Value.string (s12)), (Sl 501 (n13) (c14))].toArray)) ∧
 ((Qv (Value.agg [(Sl 500 (n5) (c6)), (vI x7), (vI x8), (vI x9), (vI x10), (vI x11)].toArray)) ∧
 True)))))) ∧
 (bcase (decide (0 + n5 * 2 ≤ List.length l15))
 (bcase (decide (0 + n13 * 2 ≤ List.length l16))
 (∃ n2 : Int,
 (∃ n3 : Int,
 ((Says C 39 [(D.agg [(D.sl (n5) 2 (List.take (n5 * 2) (List.drop 0 l15))), (D.val (vI x7)), (D.val (vI x8)), (D.val (vI x9)), (D.val (vI x10)), (D.val (vI x11))]), (D.agg [(D.val (Value.string (s12))), (D.sl (n13) 2 (List.take (n13 * 2) (List.drop 0 l16)))]), (D.val (vI n1))] [(D.agg [(D.val (vI n2)), (D.val (vI n3))])]) ∧
 (((Qv (vI n2)) ∧
 ((Qv (vI x2)) ∧
 ((Qv (Value.agg [(Value.string (s12)), (Sl 501 (n13) (c14))].toArray)) ∧
 ((Qv (Value.agg [(Sl 500 (n5) (c6)), (vI x7), (vI x8), (vI x9), (vI x10), (vI x11)].toArray)) ∧
 True)))) ∧
 (bcase (decide (0 + n5 * 2 ≤ List.length l15))
 (bcase (decide (0 + n13 * 2 ≤ List.length l16))
 (∃ n4 : Int,
 (∃ n6 : Int,
 ((Says C 39 [(D.agg [(D.sl (n5) 2 (List.take (n5 * 2) (List.drop 0 l15))), (D.val (vI x7)), (D.val (vI x8)), (D.val (vI x9)), (D.val (vI x10)), (D.val (vI x11))]), (D.agg [(D.val (Value.string (s12))), (D.sl (n13) 2 (List.take (n13 * 2) (List.drop 0 l16)))]), (D.val (vI x2))] [(D.agg [(D.val (vI n4)), (D.val (vI n6))])]) ∧
 (((Qv (vI n4)) ∧
 ((Qv (vI n2)) ∧
 True)) ∧
 (bcase (n2 != n2)
 (bcase (n4 != n4)
 (True ∧
 (True ∧
 (B [(Prod.mk 0 (Sl 900 (n0) (c1))), (Prod.mk 1 (Value.func (Go.Fn.func 72) [].toArray [(Pt 901 0), (Pt 902 0)].toArray)), (Prod.mk 5 (vI x2)), (Prod.mk 6 (vI (IntKind.wrap .i64 (x3 + 1))))] [(Prod.mk 900 (AObj.sym (l4) true 1)), (Prod.mk 901 (AObj.cells [(Sl 500 (n5) (c6)), (vI x7), (vI x8), (vI x9), (vI x10), (vI x11)] 83 false 1)), (Prod.mk 902 (AObj.cells [(Value.string (s12)), (Sl 501 (n13) (c14))] 31 false 1)), (Prod.mk 500 (AObj.sym (l15) false 2)), (Prod.mk 501 (AObj.sym (l16) false 2))])))
 (True ∧
 (True ∧
 (bcase (decide (0 ≤ x3))
 (bcase (decide (x3 < (↑n0 : Int)))
 (∃ n7 : Int,
 ((At (l4) (0 + Int.toNat x3 * 1) 1 [(vI n7)]) ∧
 (B [(Prod.mk 0 (Sl 900 (n0) (c1))), (Prod.mk 1 (Value.func (Go.Fn.func 72) [].toArray [(Pt 901 0), (Pt 902 0)].toArray)), (Prod.mk 5 (vI n7)), (Prod.mk 6 (vI (IntKind.wrap .i64 (x3 + 1))))] [(Prod.mk 900 (AObj.sym (l4) true 1)), (Prod.mk 901 (AObj.cells [(Sl 500 (n5) (c6)), (vI x7), (vI x8), (vI x9), (vI x10), (vI x11)] 83 false 1)), (Prod.mk 902 (AObj.cells [(Value.string (s12)), (Sl 501 (n13) (c14))] 31 false 1)), (Prod.mk 500 (AObj.sym (l15) false 2)), (Prod.mk 501 (AObj.sym (l16) false 2))])))
 False)
 False))))
 (bcase (n4 != n4)
 (True ∧
 (True ∧
 (B [(Prod.mk 0 (Sl 900 (n0) (c1))), (Prod.mk 1 (Value.func (Go.Fn.func 72) [].toArray [(Pt 901 0), (Pt 902 0)].toArray)), (Prod.mk 5 (vI x2)), (Prod.mk 6 (vI (IntKind.wrap .i64 (x3 + 1))))] [(Prod.mk 900 (AObj.sym (l4) true 1)), (Prod.mk 901 (AObj.cells [(Sl 500 (n5) (c6)), (vI x7), (vI x8), (vI x9), (vI x10), (vI x11)] 83 false 1)), (Prod.mk 902 (AObj.cells [(Value.string (s12)), (Sl 501 (n13) (c14))] 31 false 1)), (Prod.mk 500 (AObj.sym (l15) false 2)), (Prod.mk 501 (AObj.sym (l16) false 2))])))
 (bcase (decide (n2 < n4))
 (True ∧
 (True ∧
 (bcase (decide (0 ≤ x3))
 (bcase (decide (x3 < (↑n0 : Int)))
 (∃ n7 : Int,
 ((At (l4) (0 + Int.toNat x3 * 1) 1 [(vI n7)]) ∧
 (B [(Prod.mk 0 (Sl 900 (n0) (c1))), (Prod.mk 1 (Value.func (Go.Fn.func 72) [].toArray [(Pt 901 0), (Pt 902 0)].toArray)), (Prod.mk 5 (vI n7)), (Prod.mk 6 (vI (IntKind.wrap .i64 (x3 + 1))))] [(Prod.mk 900 (AObj.sym (l4) true 1)), (Prod.mk 901 (AObj.cells [(Sl 500 (n5) (c6)), (vI x7), (vI x8), (vI x9), (vI x10), (vI x11)] 83 false 1)), (Prod.mk 902 (AObj.cells [(Value.string (s12)), (Sl 501 (n13) (c14))] 31 false 1)), (Prod.mk 500 (AObj.sym (l15) false 2)), (Prod.mk 501 (AObj.sym (l16) false 2))])))
 False)
 False)))
 (bcase (decide (n2 > n4))
 (True ∧
 (True ∧
 (B [(Prod.mk 0 (Sl 900 (n0) (c1))), (Prod.mk 1 (Value.func (Go.Fn.func 72) [].toArray [(Pt 901 0), (Pt 902 0)].toArray)), (Prod.mk 5 (vI x2)), (Prod.mk 6 (vI (IntKind.wrap .i64 (x3 + 1))))] [(Prod.mk 900 (AObj.sym (l4) true 1)), (Prod.mk 901 (AObj.cells [(Sl 500 (n5) (c6)), (vI x7), (vI x8), (vI x9), (vI x10), (vI x11)] 83 false 1)), (Prod.mk 902 (AObj.cells [(Value.string (s12)), (Sl 501 (n13) (c14))] 31 false 1)), (Prod.mk 500 (AObj.sym (l15) false 2)), (Prod.mk 501 (AObj.sym (l16) false 2))])))
 (True ∧
 (True ∧
 (B [(Prod.mk 0 (Sl 900 (n0) (c1))), (Prod.mk 1 (Value.func (Go.Fn.func 72) [].toArray [(Pt 901 0), (Pt 902 0)].toArray)), (Prod.mk 5 (vI x2)), (Prod.mk 6 (vI (IntKind.wrap .i64 (x3 + 1))))] [(Prod.mk 900 (AObj.sym (l4) true 1)), (Prod.mk 901 (AObj.cells [(Sl 500 (n5) (c6)), (vI x7), (vI x8), (vI x9), (vI x10), (vI x11)] 83 false 1)), (Prod.mk 902 (AObj.cells [(Value.string (s12)), (Sl 501 (n13) (c14))] 31 false 1)), (Prod.mk 500 (AObj.sym (l15) false 2)), (Prod.mk 501 (AObj.sym (l16) false 2))])))))))))))
 False)
 False)))))
 False)
 False))))
 False)
 False)
 (X 0 [(Prod.mk 5 (vI x2))] [(Prod.mk 900 (AObj.sym (l4) true 1)), (Prod.mk 901 (AObj.cells [(Sl 500 (n5) (c6)), (vI x7), (vI x8), (vI x9), (vI x10), (vI x11)] 83 false 1)), (Prod.mk 902 (AObj.cells [(Value.string (s12)), (Sl 501 (n13) (c14))] 31 false 1)), (Prod.mk 500 (AObj.sym (l15) false 2)), (Prod.mk 501 (AObj.sym (l16) false 2))])) := by kernel_rfl
def nMf2 (C : Ct) (L : AtLoop) (x0 : Int) (l1 : List Value) (n2 : Nat) (c3 : Nat) (x4 : Int) (x5 : Int) (x6 : Int) (x7 : Int) (x8 : Int) (s9 : ByteArray) (n10 : Nat) (c11 : Nat) (l12 : List Value) (l13 : List Value) (K : Value → Blocks → Prop) : Prop := wpNext Try.prog (hL C) L 71 0 .normal [(5, (Value.int .i64 x0))] [(900, (AObj.sym l1 true 1)), (901, (AObj.cells [(Value.slice (some ⟨500, 0, none⟩) n2 c3), (Value.int .i64 x4), (Value.int .i64 x5), (Value.int .i64 x6), (Value.int .i64 x7), (Value.int .i64 x8)] 83 false 1)), (902, (AObj.cells [(Value.string s9), (Value.slice (some ⟨501, 0, none⟩) n10 c11)] 31 false 1)), (500, (AObj.sym l12 false 2)), (501, (AObj.sym l13 false 2))] (stateK K)
theorem nMf2_text (C : Ct) (L : AtLoop) (x0 : Int) (l1 : List Go.Value) (n2 : Nat) (c3 : Nat) (x4 : Int) (x5 : Int) (x6 : Int) (x7 : Int) (x8 : Int) (s9 : ByteArray) (n10 : Nat) (c11 : Nat) (l12 : List Go.Value) (l13 : List Go.Value) (K : Go.Value → Blocks → Prop) : nMf2 C L x0 l1 n2 c3 x4 x5 x6 x7 x8 s9 n10 c11 l12 l13 K =
 (K (vI x0) [(Prod.mk 900 (AObj.sym (l1) true 1)), (Prod.mk 901 (AObj.cells [(Sl 500 (n2) (c3)), (vI x4), (vI x5), (vI x6), (vI x7), (vI x8)] 83 false 1)), (Prod.mk 902 (AObj.cells [(Value.string (s9)), (Sl 501 (n10) (c11))] 31 false 1)), (Prod.mk 500 (AObj.sym (l12) false 2)), (Prod.mk 501 (AObj.sym (l13) false 2))]) := by kernel_rfl
def gFE (C : Ct) (L : AtLoop) (n0 : Nat) (c0 : Nat) (l0 : List Value) (k : List D → Prop) : Prop := wpFn Try.prog (hE C) L 0 37 #[.slice (some ⟨500, 0, none⟩) n0 c0] (heapOf [(500, .sym l0 false 1)]) (dataK k)
theorem gFE_text (C : Ct) (L : AtLoop) (n0 : Nat) (c0 : Nat) (l0 : List Go.Value) (k : List D → Prop) : gFE C L n0 c0 l0 k =
 (L 0 [(Prod.mk 5 (Sl 500 (n0) (c0))), (Prod.mk 6 (vI ((↑n0 : Int)))), (Prod.mk 7 (vI 0))] [(Prod.mk 500 (AObj.sym (l0) false 1))]) := by kernel_rfl
abbrev zFE1 (n0 : Nat) (c1 : Nat) (x2 : Int) (x3 : Int) (l4 : List Value) : Slots × Blocks := ([(5, (Value.slice (some ⟨500, 0, none⟩) n0 c1)), (6, (Value.int .i64 x2)), (7, (Value.int .i64 x3))], [(500, (AObj.sym l4 false 1))])
def rFE1 (C : Ct) (L : AtLoop) (n0 : Nat) (c1 : Nat) (x2 : Int) (x3 : Int) (l4 : List Value) (B : Bx) (X : Xx) (k : List D → Prop) : Prop := wpRound Try.prog (hE C) L 37 0 [(5, (Value.slice (some ⟨500, 0, none⟩) n0 c1)), (6, (Value.int .i64 x2)), (7, (Value.int .i64 x3))] [(500, (AObj.sym l4 false 1))] B X (dataK k)
theorem rFE1_text (C : Ct) (L : AtLoop) (n0 : Nat) (c1 : Nat) (x2 : Int) (x3 : Int) (l4 : List Go.Value) (B : Bx) (X : Xx) (k : List D → Prop) : rFE1 C L n0 c1 x2 x3 l4 B X k =
 (bcase (decide (x3 < x2))
 (bcase (decide (0 ≤ x3))
 (bcase (decide (x3 < (↑n0 : Int)))
 (∃ n1 : Int,
 ((At (l4) (0 + Int.toNat x3 * 1) 1 [(vI n1)]) ∧
 (bcase (n1 != 0)
 (k [(D.val (vI n1))])
 (B [(Prod.mk 5 (Sl 500 (n0) (c1))), (Prod.mk 6 (vI x2)), (Prod.mk 7 (vI (IntKind.wrap .i64 (x3 + 1))))] [(Prod.mk 500 (AObj.sym (l4) false 1))]))))
 False)
 False)
 (X 0 [] [])) := by kernel_rfl
def nFE2 (C : Ct) (L : AtLoop) (k : List D → Prop) : Prop := wpNext Try.prog (hE C) L 37 0 .normal [] [] (dataK k)
theorem nFE2_text (C : Ct) (L : AtLoop) (k : List D → Prop) : nFE2 C L k =
 (k [(D.val (vI 0))]) := by kernel_rfl
def gcT (C : Ct) (L : AtLoop) (n0 : Nat) (c0 : Nat) (l0 : List Value) (k : List D → Prop) : Prop := wpFn Try.prog (hL C) L 0 51 #[.slice (some ⟨500, 0, none⟩) n0 c0] (heapOf [(500, .sym l0 false 1)]) (dataK k)
theorem gcT_text (C : Ct) (L : AtLoop) (n0 : Nat) (c0 : Nat) (l0 : List Go.Value) (k : List D → Prop) : gcT C L n0 c0 l0 k =
 (∃ l1 : List Int,
 (((l0) = (List.map (vI) l1)) ∧
 (((n0) = (List.length l1)) ∧
 (((List.length l1) < 1000000000) ∧
 (∃ e1 : Int,
 ((Says limC 0 [(D.val (vI 0)), (D.val (vI 20000)), (D.sl (n0) 1 (l0))] [(D.val (vI e1))]) ∧
 (k [(D.val (vI e1))]))))))) := by kernel_rfl
def gcC (C : Ct) (L : AtLoop) (x0 : Int) (x1 : Int) (k : List D → Prop) : Prop := wpFn Try.prog (hE C) L 0 65 #[.int .i64 x0, .int .i64 x1] (heapOf []) (dataK k)
theorem gcC_text (C : Ct) (L : AtLoop) (x0 : Int) (x1 : Int) (k : List D → Prop) : gcC C L x0 x1 k =
 (bcase (x0 == 0)
 (k [(D.val (vI 10))])
 (bcase (decide (x0 > x1))
 (k [(D.val (vI 8))])
 (k [(D.val (vI 0))]))) := by kernel_rfl
def gcF (C : Ct) (c0 : Nat) (y0_0 : Int) (y0_1 : Int) (y0_2 : Int) (y0_3 : Int) (k : List D → Prop) : Prop := wpFn Try.prog (hL C) (fun _ _ _ => False) 8 62 #[.slice (some ⟨500, 0, none⟩) 2 c0] (heapOf [(500, .sym [.int .i64 y0_0, .int .i64 y0_1, .int .i64 y0_2, .int .i64 y0_3] false 2)]) (dataK k)
theorem gcF_text (C : Ct) (c0 : Nat) (y0_0 : Int) (y0_1 : Int) (y0_2 : Int) (y0_3 : Int) (k : List D → Prop) : gcF C c0 y0_0 y0_1 y0_2 y0_3 k =
 (∃ n1 : Int,
 (∃ n2 : Int,
 ((At [(vI y0_0), (vI y0_1), (vI y0_2), (vI y0_3)] 0 2 [(vI n1), (vI n2)]) ∧
 (bcase (decide (n2 ≤ 0))
 (k [(D.val (vI 3))])
 (∃ n3 : Int,
 ((Says C 85 [(D.val (vI n1)), (D.val (vI n2))] [(D.val (vI n3))]) ∧
 (bcase (n3 != 1)
 (k [(D.val (vI 3))])
 (∃ n4 : Int,
 (∃ n5 : Int,
 ((At [(vI y0_0), (vI y0_1), (vI y0_2), (vI y0_3)] 2 2 [(vI n4), (vI n5)]) ∧
 (bcase (decide (n5 ≤ 0))
 (k [(D.val (vI 3))])
 (∃ n6 : Int,
 ((Says C 85 [(D.val (vI n4)), (D.val (vI n5))] [(D.val (vI n6))]) ∧
 (bcase (n6 != 1)
 (k [(D.val (vI 3))])
 (k [(D.val (vI 0))]))))))))))))))) := by kernel_rfl
def gdv (C : Ct) (L : AtLoop) (x0 : Int) (x1 : Int) (k : List D → Prop) : Prop := wpFn Try.prog (hE C) L 0 85 #[.int .i64 x0, .int .i64 x1] (heapOf []) (dataK k)
theorem gdv_text (C : Ct) (L : AtLoop) (x0 : Int) (x1 : Int) (k : List D → Prop) : gdv C L x0 x1 k =
 (bcase (x1 != 0)
 (L 0 [(Prod.mk 6 (vI x1)), (Prod.mk 7 (vI (if IntKind.wrap .i64 (0 - Int.tmod x0 x1) > Int.tmod x0 x1 then IntKind.wrap .i64 (0 - Int.tmod x0 x1) else Int.tmod x0 x1)))] [])
 False) := by kernel_rfl
abbrev zdv1 (x0 : Int) (x1 : Int) : Slots × Blocks := ([(6, (Value.int .i64 x0)), (7, (Value.int .i64 x1))], [])
def rdv1 (C : Ct) (L : AtLoop) (x0 : Int) (x1 : Int) (B : Bx) (X : Xx) (k : List D → Prop) : Prop := wpRound Try.prog (hE C) L 85 0 [(6, (Value.int .i64 x0)), (7, (Value.int .i64 x1))] [] B X (dataK k)
theorem rdv1_text (C : Ct) (L : AtLoop) (x0 : Int) (x1 : Int) (B : Bx) (X : Xx) (k : List D → Prop) : rdv1 C L x0 x1 B X k =
 (bcase (decide (x1 > 0))
 (bcase (x1 != 0)
 (((bcase (x1 != 0)
 (Qv (vI (Int.tmod x0 x1)))
 False) ∧
 ((Qv (vI x1)) ∧
 ((Qv (vI x0)) ∧
 ((Qv (vI x1)) ∧
 True)))) ∧
 (((bcase (x1 != 0)
 (Qv (vI (Int.tmod x0 x1)))
 False) ∧
 ((Qv (vI x1)) ∧
 True)) ∧
 (True ∧
 (B [(Prod.mk 6 (vI x1)), (Prod.mk 7 (vI (Int.tmod x0 x1)))] []))))
 False)
 (X 0 [(Prod.mk 6 (vI x0))] [])) := by kernel_rfl
def ndv2 (C : Ct) (L : AtLoop) (x0 : Int) (k : List D → Prop) : Prop := wpNext Try.prog (hE C) L 85 0 .normal [(6, (Value.int .i64 x0))] [] (dataK k)
theorem ndv2_text (C : Ct) (L : AtLoop) (x0 : Int) (k : List D → Prop) : ndv2 C L x0 k =
 (k [(D.val (vI x0))]) := by kernel_rfl
def glT (C : Ct) (L : AtLoop) (x0 : Int) (x1 : Int) (k : List D → Prop) : Prop := wpFn Try.prog (hL C) L 0 66 #[.int .i64 x0, .int .i64 x1] (heapOf []) (dataK k)
theorem glT_text (C : Ct) (L : AtLoop) (x0 : Int) (x1 : Int) (k : List D → Prop) : glT C L x0 x1 k =
 (bcase (decide (x1 < 0))
 (∃ n1 : Int,
 ((Says C 85 [(D.val (vI (IntKind.wrap .i64 (0 - x0)))), (D.val (vI (IntKind.wrap .i64 (0 - x1))))] [(D.val (vI n1))]) ∧
 (bcase (n1 != 0)
 (bcase (n1 != 0)
 (((Qv (Value.agg [(vI (IntKind.wrap .i64 (Int.tdiv (IntKind.wrap .i64 (0 - x0)) n1))), (vI (IntKind.wrap .i64 (Int.tdiv (IntKind.wrap .i64 (0 - x1)) n1)))].toArray)) ∧
 ((bcase (n1 != 0)
 (Qv (vI (IntKind.wrap .i64 (Int.tdiv (IntKind.wrap .i64 (0 - x1)) n1))))
 False) ∧
 ((Qv (vI n1)) ∧
 ((Qv (vI (IntKind.wrap .i64 (0 - x1)))) ∧
 ((bcase (n1 != 0)
 (Qv (vI (IntKind.wrap .i64 (Int.tdiv (IntKind.wrap .i64 (0 - x0)) n1))))
 False) ∧
 ((Qv (vI n1)) ∧
 ((Qv (vI (IntKind.wrap .i64 (0 - x0)))) ∧
 True))))))) ∧
 (True ∧
 (k [(D.agg [(D.val (vI (IntKind.wrap .i64 (Int.tdiv (IntKind.wrap .i64 (0 - x0)) n1)))), (D.val (vI (IntKind.wrap .i64 (Int.tdiv (IntKind.wrap .i64 (0 - x1)) n1))))])])))
 False)
 False)))
 (∃ n1 : Int,
 ((Says C 85 [(D.val (vI x0)), (D.val (vI x1))] [(D.val (vI n1))]) ∧
 (bcase (n1 != 0)
 (bcase (n1 != 0)
 (((Qv (Value.agg [(vI (IntKind.wrap .i64 (Int.tdiv x0 n1))), (vI (IntKind.wrap .i64 (Int.tdiv x1 n1)))].toArray)) ∧
 ((bcase (n1 != 0)
 (Qv (vI (IntKind.wrap .i64 (Int.tdiv x1 n1))))
 False) ∧
 ((Qv (vI n1)) ∧
 ((Qv (vI x1)) ∧
 ((bcase (n1 != 0)
 (Qv (vI (IntKind.wrap .i64 (Int.tdiv x0 n1))))
 False) ∧
 ((Qv (vI n1)) ∧
 ((Qv (vI x0)) ∧
 True))))))) ∧
 (True ∧
 (k [(D.agg [(D.val (vI (IntKind.wrap .i64 (Int.tdiv x0 n1)))), (D.val (vI (IntKind.wrap .i64 (Int.tdiv x1 n1))))])])))
 False)
 False)))) := by kernel_rfl
def gsE (C : Ct) (L : AtLoop) (x0 : Int) (x1 : Int) (k : List D → Prop) : Prop := wpFn Try.prog (hL C) L 0 38 #[.agg #[.int .i64 x0, .int .i64 x1]] (heapOf []) (dataK k)
theorem gsE_text (C : Ct) (L : AtLoop) (x0 : Int) (x1 : Int) (k : List D → Prop) : gsE C L x0 x1 k =
 (∃ n1 : Int,
 (∃ n2 : Int,
 ((Says C 66 [(D.val (vI x0)), (D.val (vI x1))] [(D.agg [(D.val (vI n1)), (D.val (vI n2))])]) ∧
 ((((Qv (Sl 1002 2 2)) ∧
 (Qv (some (AObj.cells [(vI n1), (vI n2)] 3 false 1)))) ∧
 ((Qv (vI n2)) ∧
 ((Qv (Pt 1000 1)) ∧
 ((Qv (vI n1)) ∧
 ((Qv (Pt 1000 0)) ∧
 True))))) ∧
 ((((Qv (Sl 1002 2 2)) ∧
 (Qv (some (AObj.cells [(vI n1), (vI n2)] 3 false 1)))) ∧
 ((Qv (vI n2)) ∧
 ((Qv (Pt 1000 1)) ∧
 ((Qv (vI n1)) ∧
 ((Qv (Pt 1000 0)) ∧
 True))))) ∧
 (∃ e1 : Int,
 ((Says limC 0 [(D.val (vI (-(999999999 + 1) : Int))), (D.val (vI 1000000000)), (D.sl 2 1 [(vI n1), (vI n2)])] [(D.val (vI e1))]) ∧
 (bcase (e1 != 0)
 (((bcase (e1 != 0)
 (Qv (Value.bool true))
 ((Value.bool false) = (Value.bool true))) ∧
 ((Qv (vI n2)) ∧
 ((Qv (Pt 1000 1)) ∧
 ((Qv (vI n1)) ∧
 ((Qv (Pt 1000 0)) ∧
 True))))) ∧
 (k [(D.agg [(D.val (vI 0)), (D.val (vI 0))]), (D.val (vI 8))]))
 (((bcase (e1 != 0)
 ((Value.bool true) = (Value.bool false))
 (Qv (Value.bool false))) ∧
 ((Qv (vI n2)) ∧
 ((Qv (Pt 1000 1)) ∧
 ((Qv (vI n1)) ∧
 ((Qv (Pt 1000 0)) ∧
 True))))) ∧
 (k [(D.agg [(D.val (vI n1)), (D.val (vI n2))]), (D.val (vI 0))])))))))))) := by kernel_rfl
def giL (C : Ct) (L : AtLoop) (x0 : Int) (k : List D → Prop) : Prop := wpFn Try.prog (hL C) L 0 87 #[.int .u8 x0] (heapOf []) (dataK k)
theorem giL_text (C : Ct) (L : AtLoop) (x0 : Int) (k : List D → Prop) : giL C L x0 k =
 (bcase (decide (97 ≤ x0))
 (bcase (decide (x0 ≤ 122))
 (k [(D.val (Value.bool true))])
 (bcase (decide (65 ≤ x0))
 (bcase (decide (x0 ≤ 90))
 (k [(D.val (Value.bool true))])
 (k [(D.val (Value.bool false))]))
 (k [(D.val (Value.bool false))])))
 (bcase (decide (65 ≤ x0))
 (bcase (decide (x0 ≤ 90))
 (k [(D.val (Value.bool true))])
 (k [(D.val (Value.bool false))]))
 (k [(D.val (Value.bool false))]))) := by kernel_rfl
def giD (C : Ct) (L : AtLoop) (x0 : Int) (k : List D → Prop) : Prop := wpFn Try.prog (hL C) L 0 88 #[.int .u8 x0] (heapOf []) (dataK k)
theorem giD_text (C : Ct) (L : AtLoop) (x0 : Int) (k : List D → Prop) : giD C L x0 k =
 (bcase (decide (48 ≤ x0))
 (bcase (decide (x0 ≤ 57))
 (k [(D.val (Value.bool true))])
 (k [(D.val (Value.bool false))]))
 (k [(D.val (Value.bool false))])) := by kernel_rfl
def gcN (C : Ct) (L : AtLoop) (s0 : ByteArray) (k : List D → Prop) : Prop := wpFn Try.prog (hL C) L 0 64 #[.string s0] (heapOf []) (dataK k)
theorem gcN_text (C : Ct) (L : AtLoop) (s0 : ByteArray) (k : List D → Prop) : gcN C L s0 k =
 (bcase ((↑(ByteArray.size s0) : Int) == 0)
 (k [(D.val (vI 4))])
 (bcase (decide ((↑(ByteArray.size s0) : Int) > 12))
 (k [(D.val (vI 4))])
 (∃ b1 : UInt8,
 ((ByteAt (s0) 0 (b1)) ∧
 (((Says C 87 [(D.val (Value.int IntKind.u8 ((↑(UInt8.toNat b1) : Int))))] [(D.val (Value.bool true))]) ∧
 (L 0 [(Prod.mk 0 (Value.string (s0))), (Prod.mk 19 (vI ((↑(ByteArray.size s0) : Int)))), (Prod.mk 20 (vI 0))] [])) ∨
 ((Says C 87 [(D.val (Value.int IntKind.u8 ((↑(UInt8.toNat b1) : Int))))] [(D.val (Value.bool false))]) ∧
 (k [(D.val (vI 4))]))))))) := by kernel_rfl
abbrev zcN1 (s0 : ByteArray) (x1 : Int) (x2 : Int) : Slots × Blocks := ([(0, (Value.string s0)), (19, (Value.int .i64 x1)), (20, (Value.int .i64 x2))], [])
def rcN1 (C : Ct) (L : AtLoop) (s0 : ByteArray) (x1 : Int) (x2 : Int) (B : Bx) (X : Xx) (k : List D → Prop) : Prop := wpRound Try.prog (hL C) L 64 0 [(0, (Value.string s0)), (19, (Value.int .i64 x1)), (20, (Value.int .i64 x2))] [] B X (dataK k)
theorem rcN1_text (C : Ct) (L : AtLoop) (s0 : ByteArray) (x1 : Int) (x2 : Int) (B : Bx) (X : Xx) (k : List D → Prop) : rcN1 C L s0 x1 x2 B X k =
 (bcase (decide (x2 < x1))
 (bcase (decide (0 ≤ x2))
 (∃ b1 : UInt8,
 ((ByteAt (s0) (Int.toNat x2) (b1)) ∧
 (((Says C 87 [(D.val (Value.int IntKind.u8 ((↑(UInt8.toNat b1) : Int))))] [(D.val (Value.bool true))]) ∧
 (B [(Prod.mk 0 (Value.string (s0))), (Prod.mk 19 (vI x1)), (Prod.mk 20 (vI (IntKind.wrap .i64 (x2 + 1))))] [])) ∨
 ((Says C 87 [(D.val (Value.int IntKind.u8 ((↑(UInt8.toNat b1) : Int))))] [(D.val (Value.bool false))]) ∧
 (bcase (decide (0 ≤ x2))
 (∃ b2 : UInt8,
 ((ByteAt (s0) (Int.toNat x2) (b2)) ∧
 (((Says C 88 [(D.val (Value.int IntKind.u8 ((↑(UInt8.toNat b2) : Int))))] [(D.val (Value.bool true))]) ∧
 (B [(Prod.mk 0 (Value.string (s0))), (Prod.mk 19 (vI x1)), (Prod.mk 20 (vI (IntKind.wrap .i64 (x2 + 1))))] [])) ∨
 ((Says C 88 [(D.val (Value.int IntKind.u8 ((↑(UInt8.toNat b2) : Int))))] [(D.val (Value.bool false))]) ∧
 (bcase (decide (0 ≤ x2))
 (∃ b3 : UInt8,
 ((ByteAt (s0) (Int.toNat x2) (b3)) ∧
 (bcase ((↑(UInt8.toNat b3) : Int) != 45)
 (k [(D.val (vI 4))])
 (B [(Prod.mk 0 (Value.string (s0))), (Prod.mk 19 (vI x1)), (Prod.mk 20 (vI (IntKind.wrap .i64 (x2 + 1))))] []))))
 False)))))
 False)))))
 False)
 (X 0 [] [])) := by kernel_rfl
def ncN2 (C : Ct) (L : AtLoop) (k : List D → Prop) : Prop := wpNext Try.prog (hL C) L 64 0 .normal [] [] (dataK k)
theorem ncN2_text (C : Ct) (L : AtLoop) (k : List D → Prop) : ncN2 C L k =
 (k [(D.val (vI 0))]) := by kernel_rfl
def gIN (C : Ct) (L : AtLoop) (s0 : ByteArray) (k : List D → Prop) : Prop := wpFn Try.prog (hL C) L 0 44 #[.string s0] (heapOf []) (dataK k)
theorem gIN_text (C : Ct) (L : AtLoop) (s0 : ByteArray) (k : List D → Prop) : gIN C L s0 k =
 (bcase (decide ((↑(ByteArray.size s0) : Int) < 1))
 (k [(D.val (Value.bool false))])
 (bcase (decide ((↑(ByteArray.size s0) : Int) > 12))
 (k [(D.val (Value.bool false))])
 (L 0 [(Prod.mk 0 (Value.string (s0))), (Prod.mk 3 (vI 0))] []))) := by kernel_rfl
abbrev zIN1 (s0 : ByteArray) (x1 : Int) : Slots × Blocks := ([(0, (Value.string s0)), (3, (Value.int .i64 x1))], [])
def rIN1 (C : Ct) (L : AtLoop) (s0 : ByteArray) (x1 : Int) (B : Bx) (X : Xx) (k : List D → Prop) : Prop := wpRound Try.prog (hL C) L 44 0 [(0, (Value.string s0)), (3, (Value.int .i64 x1))] [] B X (dataK k)
theorem rIN1_text (C : Ct) (L : AtLoop) (s0 : ByteArray) (x1 : Int) (B : Bx) (X : Xx) (k : List D → Prop) : rIN1 C L s0 x1 B X k =
 (bcase (decide (x1 < (↑(ByteArray.size s0) : Int)))
 (bcase (decide (0 ≤ x1))
 (∃ b1 : UInt8,
 ((ByteAt (s0) (Int.toNat x1) (b1)) ∧
 (bcase (decide ((↑(UInt8.toNat b1) : Int) ≥ 97))
 (bcase (decide ((↑(UInt8.toNat b1) : Int) ≤ 122))
 (B [(Prod.mk 0 (Value.string (s0))), (Prod.mk 3 (vI (IntKind.wrap .i64 (x1 + 1))))] [])
 (bcase (decide ((↑(UInt8.toNat b1) : Int) ≥ 65))
 (bcase (decide ((↑(UInt8.toNat b1) : Int) ≤ 90))
 (B [(Prod.mk 0 (Value.string (s0))), (Prod.mk 3 (vI (IntKind.wrap .i64 (x1 + 1))))] [])
 (bcase (x1 == 0)
 (k [(D.val (Value.bool false))])
 (bcase ((↑(UInt8.toNat b1) : Int) != 45)
 (bcase (decide ((↑(UInt8.toNat b1) : Int) < 48))
 (k [(D.val (Value.bool false))])
 (bcase (decide ((↑(UInt8.toNat b1) : Int) > 57))
 (k [(D.val (Value.bool false))])
 (B [(Prod.mk 0 (Value.string (s0))), (Prod.mk 3 (vI (IntKind.wrap .i64 (x1 + 1))))] [])))
 (B [(Prod.mk 0 (Value.string (s0))), (Prod.mk 3 (vI (IntKind.wrap .i64 (x1 + 1))))] []))))
 (bcase (x1 == 0)
 (k [(D.val (Value.bool false))])
 (bcase ((↑(UInt8.toNat b1) : Int) != 45)
 (bcase (decide ((↑(UInt8.toNat b1) : Int) < 48))
 (k [(D.val (Value.bool false))])
 (bcase (decide ((↑(UInt8.toNat b1) : Int) > 57))
 (k [(D.val (Value.bool false))])
 (B [(Prod.mk 0 (Value.string (s0))), (Prod.mk 3 (vI (IntKind.wrap .i64 (x1 + 1))))] [])))
 (B [(Prod.mk 0 (Value.string (s0))), (Prod.mk 3 (vI (IntKind.wrap .i64 (x1 + 1))))] [])))))
 (bcase (decide ((↑(UInt8.toNat b1) : Int) ≥ 65))
 (bcase (decide ((↑(UInt8.toNat b1) : Int) ≤ 90))
 (B [(Prod.mk 0 (Value.string (s0))), (Prod.mk 3 (vI (IntKind.wrap .i64 (x1 + 1))))] [])
 (bcase (x1 == 0)
 (k [(D.val (Value.bool false))])
 (bcase ((↑(UInt8.toNat b1) : Int) != 45)
 (bcase (decide ((↑(UInt8.toNat b1) : Int) < 48))
 (k [(D.val (Value.bool false))])
 (bcase (decide ((↑(UInt8.toNat b1) : Int) > 57))
 (k [(D.val (Value.bool false))])
 (B [(Prod.mk 0 (Value.string (s0))), (Prod.mk 3 (vI (IntKind.wrap .i64 (x1 + 1))))] [])))
 (B [(Prod.mk 0 (Value.string (s0))), (Prod.mk 3 (vI (IntKind.wrap .i64 (x1 + 1))))] []))))
 (bcase (x1 == 0)
 (k [(D.val (Value.bool false))])
 (bcase ((↑(UInt8.toNat b1) : Int) != 45)
 (bcase (decide ((↑(UInt8.toNat b1) : Int) < 48))
 (k [(D.val (Value.bool false))])
 (bcase (decide ((↑(UInt8.toNat b1) : Int) > 57))
 (k [(D.val (Value.bool false))])
 (B [(Prod.mk 0 (Value.string (s0))), (Prod.mk 3 (vI (IntKind.wrap .i64 (x1 + 1))))] [])))
 (B [(Prod.mk 0 (Value.string (s0))), (Prod.mk 3 (vI (IntKind.wrap .i64 (x1 + 1))))] [])))))))
 False)
 (X 0 [] [])) := by kernel_rfl
def nIN2 (C : Ct) (L : AtLoop) (k : List D → Prop) : Prop := wpNext Try.prog (hL C) L 44 0 .normal [] [] (dataK k)
theorem nIN2_text (C : Ct) (L : AtLoop) (k : List D → Prop) : nIN2 C L k =
 (k [(D.val (Value.bool true))]) := by kernel_rfl
def gKT (C : Ct) (L : AtLoop) (n0 : Nat) (c0 : Nat) (l0 : List Value) (k : List D → Prop) : Prop := wpFn Try.prog (hL C) L 0 50 #[.slice (some ⟨500, 0, none⟩) n0 c0] (heapOf [(500, .sym l0 false 2)]) (dataK k)
theorem gKT_text (C : Ct) (L : AtLoop) (n0 : Nat) (c0 : Nat) (l0 : List Go.Value) (k : List D → Prop) : gKT C L n0 c0 l0 k =
 (∃ n1 : Int,
 ((Says C 65 [(D.val (vI ((↑n0 : Int)))), (D.val (vI 12))] [(D.val (vI n1))]) ∧
 (bcase (n1 != 0)
 (k [(D.val (vI 0)), (D.val (vI n1))])
 (L 0 [(Prod.mk 0 (Sl 500 (n0) (c0))), (Prod.mk 14 (Sl 500 (n0) (c0))), (Prod.mk 15 (vI ((↑n0 : Int)))), (Prod.mk 16 (vI 0))] [(Prod.mk 500 (AObj.sym (l0) false 2))])))) := by kernel_rfl
abbrev zKT1 (n0 : Nat) (c1 : Nat) (n2 : Nat) (c3 : Nat) (x4 : Int) (x5 : Int) (l6 : List Value) : Slots × Blocks := ([(0, (Value.slice (some ⟨500, 0, none⟩) n0 c1)), (14, (Value.slice (some ⟨500, 0, none⟩) n2 c3)), (15, (Value.int .i64 x4)), (16, (Value.int .i64 x5))], [(500, (AObj.sym l6 false 2))])
def rKT1 (C : Ct) (L : AtLoop) (n0 : Nat) (c1 : Nat) (n2 : Nat) (c3 : Nat) (x4 : Int) (x5 : Int) (l6 : List Value) (B : Bx) (X : Xx) (k : List D → Prop) : Prop := wpRound Try.prog (hL C) L 50 0 [(0, (Value.slice (some ⟨500, 0, none⟩) n0 c1)), (14, (Value.slice (some ⟨500, 0, none⟩) n2 c3)), (15, (Value.int .i64 x4)), (16, (Value.int .i64 x5))] [(500, (AObj.sym l6 false 2))] B X (dataK k)
theorem rKT1_text (C : Ct) (L : AtLoop) (n0 : Nat) (c1 : Nat) (n2 : Nat) (c3 : Nat) (x4 : Int) (x5 : Int) (l6 : List Go.Value) (B : Bx) (X : Xx) (k : List D → Prop) : rKT1 C L n0 c1 n2 c3 x4 x5 l6 B X k =
 (bcase (decide (x5 < x4))
 (bcase (decide (0 ≤ x5))
 (bcase (decide (x5 < (↑n2 : Int)))
 (∃ n1 : Int,
 (∃ n3 : Int,
 ((At (l6) (0 + Int.toNat x5 * 2) 2 [(vI n1), (vI n3)]) ∧
 ((((Qv (Sl 1002 1 1)) ∧
 (Qv (some (AObj.cells [(vI n3)] 3 false 1)))) ∧
 ((Qv (vI n3)) ∧
 ((Qv (Pt 1000 1)) ∧
 (((Qv (Sl 1001 1 1)) ∧
 (Qv (some (AObj.cells [(vI n1)] 3 false 1)))) ∧
 ((Qv (vI n1)) ∧
 ((Qv (Pt 1000 0)) ∧
 True)))))) ∧
 (∃ n4 : Int,
 ((Says C 51 [(D.sl 1 1 [(vI n1)])] [(D.val (vI n4))]) ∧
 ((((Qv (Sl 1002 1 1)) ∧
 (Qv (some (AObj.cells [(vI n3)] 3 false 1)))) ∧
 ((Qv (vI n3)) ∧
 ((Qv (Pt 1000 1)) ∧
 ((Qv (vI n1)) ∧
 ((Qv (Pt 1000 0)) ∧
 True))))) ∧
 ((((Qv (Sl 1002 1 1)) ∧
 (Qv (some (AObj.cells [(vI n3)] 3 false 1)))) ∧
 ((Qv (vI n3)) ∧
 ((Qv (Pt 1000 1)) ∧
 ((Qv (vI n1)) ∧
 ((Qv (Pt 1000 0)) ∧
 True))))) ∧
 (∃ e1 : Int,
 ((Says limC 0 [(D.val (vI 1)), (D.val (vI 100000)), (D.sl 1 1 [(vI n3)])] [(D.val (vI e1))]) ∧
 ((((Qv (Sl 1005 2 2)) ∧
 (Qv (some (AObj.cells [(vI n4), (vI e1)] 35 false 1)))) ∧
 ((Qv (vI n3)) ∧
 ((Qv (Pt 1000 1)) ∧
 ((Qv (vI n1)) ∧
 ((Qv (Pt 1000 0)) ∧
 True))))) ∧
 (∃ n5 : Int,
 ((Says C 37 [(D.sl 2 1 [(vI n4), (vI e1)])] [(D.val (vI n5))]) ∧
 (((Qv (vI n3)) ∧
 ((Qv (Pt 1000 1)) ∧
 ((Qv (vI n1)) ∧
 ((Qv (Pt 1000 0)) ∧
 True)))) ∧
 (True ∧
 (bcase (n5 != 0)
 (k [(D.val (vI x5)), (D.val (vI n5))])
 (bcase (decide (x5 > 0))
 (bcase (decide (0 ≤ IntKind.wrap .i64 (x5 - 1)))
 (bcase (decide (IntKind.wrap .i64 (x5 - 1) < (↑n0 : Int)))
 (∃ n6 : Int,
 ((At (l6) (0 + Int.toNat (IntKind.wrap .i64 (x5 - 1)) * 2) 1 [(vI n6)]) ∧
 (bcase (decide (n1 ≤ n6))
 (((Qv (Value.bool true)) ∧
 ((bcase (decide (n1 ≤ n6))
 (Qv (Value.bool true))
 ((Value.bool false) = (Value.bool true))) ∧
 ((∃ n7 : Int,
 ((At (l6) (0 + Int.toNat (IntKind.wrap .i64 (x5 - 1)) * 2) 1 [(vI n7)]) ∧
 ((vI n7) = (vI n6)))) ∧
 ((Qv (Pt 500 (0 + Int.toNat (IntKind.wrap .i64 (x5 - 1)) * 2))) ∧
 ((bcase (decide (0 ≤ IntKind.wrap .i64 (x5 - 1)))
 (bcase (decide (IntKind.wrap .i64 (x5 - 1) < (↑n0 : Int)))
 (Qv (Pt 500 (0 + Int.toNat (IntKind.wrap .i64 (x5 - 1)) * 2)))
 False)
 False) ∧
 ((Qv (vI (IntKind.wrap .i64 (x5 - 1)))) ∧
 ((Qv (vI x5)) ∧
 ((Qv (Sl 500 (n0) (c1))) ∧
 ((Qv (vI n1)) ∧
 ((Qv (Pt 1000 0)) ∧
 ((Qv (Value.bool true)) ∧
 ((bcase (decide (x5 > 0))
 (Qv (Value.bool true))
 ((Value.bool false) = (Value.bool true))) ∧
 ((Qv (vI x5)) ∧
 True))))))))))))) ∧
 (k [(D.val (vI x5)), (D.val (vI 9))]))
 (((Qv (Value.bool false)) ∧
 ((bcase (decide (n1 ≤ n6))
 ((Value.bool true) = (Value.bool false))
 (Qv (Value.bool false))) ∧
 ((∃ n7 : Int,
 ((At (l6) (0 + Int.toNat (IntKind.wrap .i64 (x5 - 1)) * 2) 1 [(vI n7)]) ∧
 ((vI n7) = (vI n6)))) ∧
 ((Qv (Pt 500 (0 + Int.toNat (IntKind.wrap .i64 (x5 - 1)) * 2))) ∧
 ((bcase (decide (0 ≤ IntKind.wrap .i64 (x5 - 1)))
 (bcase (decide (IntKind.wrap .i64 (x5 - 1) < (↑n0 : Int)))
 (Qv (Pt 500 (0 + Int.toNat (IntKind.wrap .i64 (x5 - 1)) * 2)))
 False)
 False) ∧
 ((Qv (vI (IntKind.wrap .i64 (x5 - 1)))) ∧
 ((Qv (vI x5)) ∧
 ((Qv (Sl 500 (n0) (c1))) ∧
 ((Qv (vI n1)) ∧
 ((Qv (Pt 1000 0)) ∧
 ((Qv (Value.bool true)) ∧
 ((bcase (decide (x5 > 0))
 (Qv (Value.bool true))
 ((Value.bool false) = (Value.bool true))) ∧
 ((Qv (vI x5)) ∧
 True))))))))))))) ∧
 (B [(Prod.mk 0 (Sl 500 (n0) (c1))), (Prod.mk 14 (Sl 500 (n2) (c3))), (Prod.mk 15 (vI x4)), (Prod.mk 16 (vI (IntKind.wrap .i64 (x5 + 1))))] [(Prod.mk 500 (AObj.sym (l6) false 2))])))))
 False)
 False)
 (((Qv (Value.bool false)) ∧
 ((Qv (Value.tuple [].toArray)) ∧
 ((Qv (Value.tuple [].toArray)) ∧
 ((Qv (Value.tuple [].toArray)) ∧
 ((Qv (Value.tuple [].toArray)) ∧
 ((Qv (Value.tuple [].toArray)) ∧
 ((Qv (Value.tuple [].toArray)) ∧
 ((Qv (Value.tuple [].toArray)) ∧
 ((Qv (Value.tuple [].toArray)) ∧
 ((Qv (Value.tuple [].toArray)) ∧
 ((Qv (Value.bool false)) ∧
 ((bcase (decide (x5 > 0))
 ((Value.bool true) = (Value.bool false))
 (Qv (Value.bool false))) ∧
 ((Qv (vI x5)) ∧
 True))))))))))))) ∧
 (B [(Prod.mk 0 (Sl 500 (n0) (c1))), (Prod.mk 14 (Sl 500 (n2) (c3))), (Prod.mk 15 (vI x4)), (Prod.mk 16 (vI (IntKind.wrap .i64 (x5 + 1))))] [(Prod.mk 500 (AObj.sym (l6) false 2))])))))))))))))))))))
 False)
 False)
 (X 0 [] [])) := by kernel_rfl
def nKT2 (C : Ct) (L : AtLoop) (k : List D → Prop) : Prop := wpNext Try.prog (hL C) L 50 0 .normal [] [] (dataK k)
theorem nKT2_text (C : Ct) (L : AtLoop) (k : List D → Prop) : nKT2 C L k =
 (k [(D.val (vI 0)), (D.val (vI 0))]) := by kernel_rfl
def gRK (C : Ct) (L : AtLoop) (n0 : Nat) (c0 : Nat) (l0 : List Value) (k : List D → Prop) : Prop := wpFn Try.prog (hL C) L 0 74 #[.slice (some ⟨500, 0, none⟩) n0 c0] (heapOf [(500, .sym l0 false 2)]) (dataK k)
theorem gRK_text (C : Ct) (L : AtLoop) (n0 : Nat) (c0 : Nat) (l0 : List Go.Value) (k : List D → Prop) : gRK C L n0 c0 l0 k =
 (bcase ((↑n0 : Int) == 0)
 (k [(D.val (vI 0)), (D.val (vI 10))])
 (bcase (decide ((↑n0 : Int) > 12))
 (k [(D.val (vI 0)), (D.val (vI 8))])
 (L 0 [(Prod.mk 0 (Sl 500 (n0) (c0))), (Prod.mk 4 (vI 0))] [(Prod.mk 500 (AObj.sym (l0) false 2))]))) := by kernel_rfl
abbrev zRK1 (n0 : Nat) (c1 : Nat) (x2 : Int) (l3 : List Value) : Slots × Blocks := ([(0, (Value.slice (some ⟨500, 0, none⟩) n0 c1)), (4, (Value.int .i64 x2))], [(500, (AObj.sym l3 false 2))])
def rRK1 (C : Ct) (L : AtLoop) (n0 : Nat) (c1 : Nat) (x2 : Int) (l3 : List Value) (B : Bx) (X : Xx) (k : List D → Prop) : Prop := wpRound Try.prog (hL C) L 74 0 [(0, (Value.slice (some ⟨500, 0, none⟩) n0 c1)), (4, (Value.int .i64 x2))] [(500, (AObj.sym l3 false 2))] B X (dataK k)
theorem rRK1_text (C : Ct) (L : AtLoop) (n0 : Nat) (c1 : Nat) (x2 : Int) (l3 : List Go.Value) (B : Bx) (X : Xx) (k : List D → Prop) : rRK1 C L n0 c1 x2 l3 B X k =
 (bcase (decide (x2 < (↑n0 : Int)))
 (bcase (decide (0 ≤ x2))
 (bcase (decide (x2 < (↑n0 : Int)))
 (∃ n1 : Int,
 ((At (l3) (0 + Int.toNat x2 * 2) 1 [(vI n1)]) ∧
 (∃ n2 : Int,
 ((Says C 45 [(D.val (vI n1))] [(D.val (vI n2))]) ∧
 (bcase (n2 != 0)
 (k [(D.val (vI x2)), (D.val (vI 2))])
 (bcase (decide (0 ≤ x2))
 (bcase (decide (x2 < (↑n0 : Int)))
 (∃ n3 : Int,
 ((At (l3) (Addr.off { block := 500, off := 0 + Int.toNat x2 * 2 } + 1) 1 [(vI n3)]) ∧
 (((Says C 21 [(D.val (vI n3)), (D.val (vI 1)), (D.val (vI 100000))] [(D.val (Value.bool true))]) ∧
 (bcase (decide (x2 > 0))
 (bcase (decide (0 ≤ x2))
 (bcase (decide (x2 < (↑n0 : Int)))
 (∃ n4 : Int,
 ((At (l3) (0 + Int.toNat x2 * 2) 1 [(vI n4)]) ∧
 (bcase (decide (0 ≤ IntKind.wrap .i64 (x2 - 1)))
 (bcase (decide (IntKind.wrap .i64 (x2 - 1) < (↑n0 : Int)))
 (∃ n5 : Int,
 ((At (l3) (0 + Int.toNat (IntKind.wrap .i64 (x2 - 1)) * 2) 1 [(vI n5)]) ∧
 (bcase (decide (n4 ≤ n5))
 (((Qv (Value.bool true)) ∧
 ((bcase (decide (n4 ≤ n5))
 (Qv (Value.bool true))
 ((Value.bool false) = (Value.bool true))) ∧
 ((∃ n6 : Int,
 ((At (l3) (0 + Int.toNat (IntKind.wrap .i64 (x2 - 1)) * 2) 1 [(vI n6)]) ∧
 ((vI n6) = (vI n5)))) ∧
 ((Qv (Pt 500 (0 + Int.toNat (IntKind.wrap .i64 (x2 - 1)) * 2))) ∧
 ((bcase (decide (0 ≤ IntKind.wrap .i64 (x2 - 1)))
 (bcase (decide (IntKind.wrap .i64 (x2 - 1) < (↑n0 : Int)))
 (Qv (Pt 500 (0 + Int.toNat (IntKind.wrap .i64 (x2 - 1)) * 2)))
 False)
 False) ∧
 ((Qv (vI (IntKind.wrap .i64 (x2 - 1)))) ∧
 ((Qv (vI x2)) ∧
 ((Qv (Sl 500 (n0) (c1))) ∧
 ((∃ n6 : Int,
 ((At (l3) (0 + Int.toNat x2 * 2) 1 [(vI n6)]) ∧
 ((vI n6) = (vI n4)))) ∧
 ((Qv (Pt 500 (0 + Int.toNat x2 * 2))) ∧
 ((bcase (decide (0 ≤ x2))
 (bcase (decide (x2 < (↑n0 : Int)))
 (Qv (Pt 500 (0 + Int.toNat x2 * 2)))
 False)
 False) ∧
 ((Qv (vI x2)) ∧
 ((Qv (Sl 500 (n0) (c1))) ∧
 ((Qv (Value.bool true)) ∧
 ((bcase (decide (x2 > 0))
 (Qv (Value.bool true))
 ((Value.bool false) = (Value.bool true))) ∧
 ((Qv (vI x2)) ∧
 True)))))))))))))))) ∧
 (k [(D.val (vI x2)), (D.val (vI 9))]))
 (((Qv (Value.bool false)) ∧
 ((bcase (decide (n4 ≤ n5))
 ((Value.bool true) = (Value.bool false))
 (Qv (Value.bool false))) ∧
 ((∃ n6 : Int,
 ((At (l3) (0 + Int.toNat (IntKind.wrap .i64 (x2 - 1)) * 2) 1 [(vI n6)]) ∧
 ((vI n6) = (vI n5)))) ∧
 ((Qv (Pt 500 (0 + Int.toNat (IntKind.wrap .i64 (x2 - 1)) * 2))) ∧
 ((bcase (decide (0 ≤ IntKind.wrap .i64 (x2 - 1)))
 (bcase (decide (IntKind.wrap .i64 (x2 - 1) < (↑n0 : Int)))
 (Qv (Pt 500 (0 + Int.toNat (IntKind.wrap .i64 (x2 - 1)) * 2)))
 False)
 False) ∧
 ((Qv (vI (IntKind.wrap .i64 (x2 - 1)))) ∧
 ((Qv (vI x2)) ∧
 ((Qv (Sl 500 (n0) (c1))) ∧
 ((∃ n6 : Int,
 ((At (l3) (0 + Int.toNat x2 * 2) 1 [(vI n6)]) ∧
 ((vI n6) = (vI n4)))) ∧
 ((Qv (Pt 500 (0 + Int.toNat x2 * 2))) ∧
 ((bcase (decide (0 ≤ x2))
 (bcase (decide (x2 < (↑n0 : Int)))
 (Qv (Pt 500 (0 + Int.toNat x2 * 2)))
 False)
 False) ∧
 ((Qv (vI x2)) ∧
 ((Qv (Sl 500 (n0) (c1))) ∧
 ((Qv (Value.bool true)) ∧
 ((bcase (decide (x2 > 0))
 (Qv (Value.bool true))
 ((Value.bool false) = (Value.bool true))) ∧
 ((Qv (vI x2)) ∧
 True)))))))))))))))) ∧
 (B [(Prod.mk 0 (Sl 500 (n0) (c1))), (Prod.mk 4 (vI (IntKind.wrap .i64 (x2 + 1))))] [(Prod.mk 500 (AObj.sym (l3) false 2))])))))
 False)
 False)))
 False)
 False)
 (((Qv (Value.bool false)) ∧
 ((Qv (Value.tuple [].toArray)) ∧
 ((Qv (Value.tuple [].toArray)) ∧
 ((Qv (Value.tuple [].toArray)) ∧
 ((Qv (Value.tuple [].toArray)) ∧
 ((Qv (Value.tuple [].toArray)) ∧
 ((Qv (Value.tuple [].toArray)) ∧
 ((Qv (Value.tuple [].toArray)) ∧
 ((Qv (Value.tuple [].toArray)) ∧
 ((Qv (Value.tuple [].toArray)) ∧
 ((Qv (Value.tuple [].toArray)) ∧
 ((Qv (Value.tuple [].toArray)) ∧
 ((Qv (Value.tuple [].toArray)) ∧
 ((Qv (Value.bool false)) ∧
 ((bcase (decide (x2 > 0))
 ((Value.bool true) = (Value.bool false))
 (Qv (Value.bool false))) ∧
 ((Qv (vI x2)) ∧
 True)))))))))))))))) ∧
 (B [(Prod.mk 0 (Sl 500 (n0) (c1))), (Prod.mk 4 (vI (IntKind.wrap .i64 (x2 + 1))))] [(Prod.mk 500 (AObj.sym (l3) false 2))])))) ∨
 ((Says C 21 [(D.val (vI n3)), (D.val (vI 1)), (D.val (vI 100000))] [(D.val (Value.bool false))]) ∧
 (k [(D.val (vI x2)), (D.val (vI 2))])))))
 False)
 False))))))
 False)
 False)
 (X 0 [] [])) := by kernel_rfl
def nRK2 (C : Ct) (L : AtLoop) (k : List D → Prop) : Prop := wpNext Try.prog (hL C) L 74 0 .normal [] [] (dataK k)
theorem nRK2_text (C : Ct) (L : AtLoop) (k : List D → Prop) : nRK2 C L k =
 (k [(D.val (vI 0)), (D.val (vI 0))]) := by kernel_rfl
def gRKn (C : Ct) (L : AtLoop) (k : List D → Prop) : Prop := wpFn Try.prog (hL C) L 0 74 #[.slice none 0 0] (heapOf []) (dataK k)
theorem gRKn_text (C : Ct) (L : AtLoop) (k : List D → Prop) : gRKn C L k =
 (k [(D.val (vI 0)), (D.val (vI 10))]) := by kernel_rfl
def gXE (C : Ct) (L : AtLoop) (x0 : Int) (k : List D → Prop) : Prop := wpFn Try.prog (hL C) L 0 45 #[.int .i64 x0] (heapOf []) (dataK k)
theorem gXE_text (C : Ct) (L : AtLoop) (x0 : Int) (k : List D → Prop) : gXE C L x0 k =
 (((Says C 21 [(D.val (vI x0)), (D.val (vI 0)), (D.val (vI 20000))] [(D.val (Value.bool true))]) ∧
 (k [(D.val (vI 0))])) ∨
 ((Says C 21 [(D.val (vI x0)), (D.val (vI 0)), (D.val (vI 20000))] [(D.val (Value.bool false))]) ∧
 (k [(D.val (vI 2))]))) := by kernel_rfl
def gvI (C : Ct) (L : AtLoop) (n0 : Nat) (c0 : Nat) (l0 : List Value) (x1 : Int) (k : List D → Prop) : Prop := wpFn Try.prog (hL C) L 0 52 #[.slice (some ⟨500, 0, none⟩) n0 c0, .int .i64 x1] (heapOf [(500, .sym l0 false 2)]) (dataK k)
theorem gvI_text (C : Ct) (L : AtLoop) (n0 : Nat) (c0 : Nat) (l0 : List Go.Value) (x1 : Int) (k : List D → Prop) : gvI C L n0 c0 l0 x1 k =
 (L 0 [(Prod.mk 0 (Sl 500 (n0) (c0))), (Prod.mk 1 (vI x1)), (Prod.mk 5 (vI 0))] [(Prod.mk 500 (AObj.sym (l0) false 2))]) := by kernel_rfl
abbrev zvI1 (n0 : Nat) (c1 : Nat) (x2 : Int) (x3 : Int) (l4 : List Value) : Slots × Blocks := ([(0, (Value.slice (some ⟨500, 0, none⟩) n0 c1)), (1, (Value.int .i64 x2)), (5, (Value.int .i64 x3))], [(500, (AObj.sym l4 false 2))])
def rvI1 (C : Ct) (L : AtLoop) (n0 : Nat) (c1 : Nat) (x2 : Int) (x3 : Int) (l4 : List Value) (B : Bx) (X : Xx) (k : List D → Prop) : Prop := wpRound Try.prog (hL C) L 52 0 [(0, (Value.slice (some ⟨500, 0, none⟩) n0 c1)), (1, (Value.int .i64 x2)), (5, (Value.int .i64 x3))] [(500, (AObj.sym l4 false 2))] B X (dataK k)
theorem rvI1_text (C : Ct) (L : AtLoop) (n0 : Nat) (c1 : Nat) (x2 : Int) (x3 : Int) (l4 : List Go.Value) (B : Bx) (X : Xx) (k : List D → Prop) : rvI1 C L n0 c1 x2 x3 l4 B X k =
 (bcase (decide (x3 < (↑n0 : Int)))
 (bcase (decide (0 ≤ x3))
 (bcase (decide (x3 < (↑n0 : Int)))
 (∃ n1 : Int,
 ((At (l4) (0 + Int.toNat x3 * 2) 1 [(vI n1)]) ∧
 (bcase (decide (n1 < x2))
 (B [(Prod.mk 0 (Sl 500 (n0) (c1))), (Prod.mk 1 (vI x2)), (Prod.mk 5 (vI (IntKind.wrap .i64 (x3 + 1))))] [(Prod.mk 500 (AObj.sym (l4) false 2))])
 (X 0 [(Prod.mk 0 (Sl 500 (n0) (c1))), (Prod.mk 1 (vI x2)), (Prod.mk 5 (vI x3))] [(Prod.mk 500 (AObj.sym (l4) false 2))]))))
 False)
 False)
 (X 0 [(Prod.mk 0 (Sl 500 (n0) (c1))), (Prod.mk 1 (vI x2)), (Prod.mk 5 (vI x3))] [(Prod.mk 500 (AObj.sym (l4) false 2))])) := by kernel_rfl
def nvI2 (C : Ct) (L : AtLoop) (n0 : Nat) (c1 : Nat) (x2 : Int) (x3 : Int) (l4 : List Value) (k : List D → Prop) : Prop := wpNext Try.prog (hL C) L 52 0 .normal [(0, (Value.slice (some ⟨500, 0, none⟩) n0 c1)), (1, (Value.int .i64 x2)), (5, (Value.int .i64 x3))] [(500, (AObj.sym l4 false 2))] (dataK k)
theorem nvI2_text (C : Ct) (L : AtLoop) (n0 : Nat) (c1 : Nat) (x2 : Int) (x3 : Int) (l4 : List Go.Value) (k : List D → Prop) : nvI2 C L n0 c1 x2 x3 l4 k =
 (bcase (x3 == 0)
 (bcase (decide (0 < (↑n0 : Int)))
 (∃ n1 : Int,
 ((At (l4) 1 1 [(vI n1)]) ∧
 (k [(D.val (vI n1))])))
 False)
 (bcase (x3 == (↑n0 : Int))
 (bcase (decide (0 ≤ IntKind.wrap .i64 (x3 - 1)))
 (bcase (decide (IntKind.wrap .i64 (x3 - 1) < (↑n0 : Int)))
 (∃ n1 : Int,
 ((At (l4) (Addr.off { block := 500, off := 0 + Int.toNat (IntKind.wrap .i64 (x3 - 1)) * 2 } + 1) 1 [(vI n1)]) ∧
 (k [(D.val (vI n1))])))
 False)
 False)
 (bcase (decide (0 ≤ IntKind.wrap .i64 (x3 - 1)))
 (bcase (decide (IntKind.wrap .i64 (x3 - 1) < (↑n0 : Int)))
 (∃ n1 : Int,
 (∃ n2 : Int,
 ((At (l4) (0 + Int.toNat (IntKind.wrap .i64 (x3 - 1)) * 2) 2 [(vI n1), (vI n2)]) ∧
 (bcase (decide (0 ≤ x3))
 (bcase (decide (x3 < (↑n0 : Int)))
 (∃ n3 : Int,
 (∃ n4 : Int,
 ((At (l4) (0 + Int.toNat x3 * 2) 2 [(vI n3), (vI n4)]) ∧
 ((((Qv (Pt 1001 0)) ∧
 (Qv (some (AObj.cells [(vI 0), (vI 0)] 105 false 2)))) ∧
 (((Qv (Pt 1000 0)) ∧
 (Qv (some (AObj.cells [(vI 0), (vI 0)] 105 false 2)))) ∧
 ((∃ n5 : Int,
 (∃ n6 : Int,
 ((At (l4) (0 + Int.toNat x3 * 2) 2 [(vI n5), (vI n6)]) ∧
 ((Value.agg [(vI n5), (vI n6)].toArray) = (Value.agg [(vI n3), (vI n4)].toArray))))) ∧
 ((bcase (decide (0 ≤ x3))
 (bcase (decide (x3 < (↑n0 : Int)))
 (Qv (Pt 500 (0 + Int.toNat x3 * 2)))
 False)
 False) ∧
 ((Qv (vI x3)) ∧
 ((Qv (Sl 500 (n0) (c1))) ∧
 ((∃ n5 : Int,
 (∃ n6 : Int,
 ((At (l4) (0 + Int.toNat (IntKind.wrap .i64 (x3 - 1)) * 2) 2 [(vI n5), (vI n6)]) ∧
 ((Value.agg [(vI n5), (vI n6)].toArray) = (Value.agg [(vI n1), (vI n2)].toArray))))) ∧
 ((bcase (decide (0 ≤ IntKind.wrap .i64 (x3 - 1)))
 (bcase (decide (IntKind.wrap .i64 (x3 - 1) < (↑n0 : Int)))
 (Qv (Pt 500 (0 + Int.toNat (IntKind.wrap .i64 (x3 - 1)) * 2)))
 False)
 False) ∧
 ((Qv (vI (IntKind.wrap .i64 (x3 - 1)))) ∧
 ((Qv (vI x3)) ∧
 ((Qv (Sl 500 (n0) (c1))) ∧
 True))))))))))) ∧
 (((∃ n5 : Int,
 (∃ n6 : Int,
 ((At (l4) (0 + Int.toNat x3 * 2) 2 [(vI n5), (vI n6)]) ∧
 ((Value.agg [(vI n5), (vI n6)].toArray) = (Value.agg [(vI n3), (vI n4)].toArray))))) ∧
 ((bcase (decide (0 ≤ x3))
 (bcase (decide (x3 < (↑n0 : Int)))
 (Qv (Pt 500 (0 + Int.toNat x3 * 2)))
 False)
 False) ∧
 ((Qv (vI x3)) ∧
 ((Qv (Sl 500 (n0) (c1))) ∧
 True)))) ∧
 (True ∧
 (bcase (IntKind.wrap .i64 (n3 - n1) != 0)
 (k [(D.val (vI (IntKind.wrap .i64 (Int.tdiv (IntKind.wrap .i64 (IntKind.wrap .i64 (n2 * IntKind.wrap .i64 (n3 - x2)) + IntKind.wrap .i64 (n4 * IntKind.wrap .i64 (x2 - n1)))) (IntKind.wrap .i64 (n3 - n1))))))])
 False)))))))
 False)
 False))))
 False)
 False))) := by kernel_rfl
def giG (C : Ct) (L : AtLoop) (x0 : Int) (x1 : Int) (k : List D → Prop) : Prop := wpFn Try.prog (hL C) L 0 75 #[.agg #[.int .i64 x0, .int .i64 x1]] (heapOf []) (dataK k)
theorem giG_text (C : Ct) (L : AtLoop) (x0 : Int) (x1 : Int) (k : List D → Prop) : giG C L x0 x1 k =
 (((Says C 21 [(D.val (vI x0)), (D.val (vI 1)), (D.val (vI 900))] [(D.val (Value.bool true))]) ∧
 (bcase (decide (x1 ≤ 900))
 (k [(D.val (Value.bool true))])
 (k [(D.val (Value.bool false))]))) ∨
 ((Says C 21 [(D.val (vI x0)), (D.val (vI 1)), (D.val (vI 900))] [(D.val (Value.bool false))]) ∧
 (k [(D.val (Value.bool false))]))) := by kernel_rfl
def gIL (C : Ct) (L : AtLoop) (x0 : Int) (x1 : Int) (k : List D → Prop) : Prop := wpFn Try.prog (hL C) L 0 22 #[.agg #[.int .i64 x0, .int .i64 x1]] (heapOf []) (dataK k)
theorem gIL_text (C : Ct) (L : AtLoop) (x0 : Int) (x1 : Int) (k : List D → Prop) : gIL C L x0 x1 k =
 (bcase (decide (x1 > 0))
 (∃ n1 : Int,
 ((Says C 49 [(D.val (vI x0)), (D.val (vI x1))] [(D.val (vI n1))]) ∧
 (bcase (n1 == 1)
 (k [(D.val (Value.bool true))])
 (k [(D.val (Value.bool false))]))))
 (k [(D.val (Value.bool false))])) := by kernel_rfl
def gIS (C : Ct) (L : AtLoop) (x0 : Int) (x1 : Int) (k : List D → Prop) : Prop := wpFn Try.prog (hL C) L 0 23 #[.agg #[.int .i64 x0, .int .i64 x1]] (heapOf []) (dataK k)
theorem gIS_text (C : Ct) (L : AtLoop) (x0 : Int) (x1 : Int) (k : List D → Prop) : gIS C L x0 x1 k =
 (((Says C 21 [(D.val (vI x0)), (D.val (vI (-(999999999 + 1) : Int))), (D.val (vI 1000000000))] [(D.val (Value.bool true))]) ∧
 (((Says C 21 [(D.val (vI x1)), (D.val (vI 1)), (D.val (vI 1000000000))] [(D.val (Value.bool true))]) ∧
 (k [(D.val (Value.bool true))])) ∨
 ((Says C 21 [(D.val (vI x1)), (D.val (vI 1)), (D.val (vI 1000000000))] [(D.val (Value.bool false))]) ∧
 (k [(D.val (Value.bool false))])))) ∨
 ((Says C 21 [(D.val (vI x0)), (D.val (vI (-(999999999 + 1) : Int))), (D.val (vI 1000000000))] [(D.val (Value.bool false))]) ∧
 (k [(D.val (Value.bool false))]))) := by kernel_rfl
def gKR (C : Ct) (L : AtLoop) (n0 : Nat) (c0 : Nat) (l0 : List Value) (x1 : Int) (x2 : Int) (x3 : Int) (x4 : Int) (x5 : Int) (k : List D → Prop) : Prop := wpFn Try.prog (hL C) L 0 33 #[.agg #[.slice (some ⟨500, 0, none⟩) n0 c0, .int .i64 x1, .int .i64 x2, .int .i64 x3, .int .i64 x4, .int .i64 x5]] (heapOf [(500, .sym l0 false 2)]) (dataK k)
theorem gKR_text (C : Ct) (L : AtLoop) (n0 : Nat) (c0 : Nat) (l0 : List Go.Value) (x1 : Int) (x2 : Int) (x3 : Int) (x4 : Int) (x5 : Int) (k : List D → Prop) : gKR C L n0 c0 l0 x1 x2 x3 x4 x5 k =
 (bcase (decide (0 + n0 * 2 ≤ List.length l0))
 (∃ n1 : Int,
 (∃ n2 : Int,
 ((Says C 50 [(D.sl (n0) 2 (List.take (n0 * 2) (List.drop 0 l0)))] [(D.val (vI n1)), (D.val (vI n2))]) ∧
 (bcase (n2 != 0)
 (k [(D.val (vI n1)), (D.val (vI n2))])
 ((((Qv (Sl 1003 1 1)) ∧
 (Qv (some (AObj.cells [(vI x5)] 3 false 1)))) ∧
 ((Qv (vI x5)) ∧
 ((Qv (Pt 1000 5)) ∧
 (((Qv (Sl 1002 4 4)) ∧
 (Qv (some (AObj.cells [(vI x1), (vI x2), (vI x3), (vI x4)] 3 false 1)))) ∧
 ((Qv (vI x4)) ∧
 ((Qv (Pt 1000 4)) ∧
 ((Qv (Pt 1000 3)) ∧
 ((Qv (vI x3)) ∧
 ((Qv (Pt 1000 3)) ∧
 ((Qv (Pt 1000 3)) ∧
 ((Qv (vI x2)) ∧
 ((Qv (Pt 1000 2)) ∧
 ((Qv (Pt 1000 1)) ∧
 ((Qv (vI x1)) ∧
 ((Qv (Pt 1000 1)) ∧
 ((Qv (Pt 1000 1)) ∧
 (((Qv (Sl 1001 2 2)) ∧
 (Qv (some (AObj.cells [(vI x1), (vI x2), (vI x3), (vI x4)] 24 false 2)))) ∧
 ((Qv (Value.agg [(vI x3), (vI x4)].toArray)) ∧
 ((Qv (Pt 1000 3)) ∧
 ((Qv (Value.agg [(vI x1), (vI x2)].toArray)) ∧
 ((Qv (Pt 1000 1)) ∧
 True))))))))))))))))))))) ∧
 (∃ n3 : Int,
 ((Says C 62 [(D.sl 2 2 [(vI x1), (vI x2), (vI x3), (vI x4)])] [(D.val (vI n3))]) ∧
 ((((Qv (Sl 1003 1 1)) ∧
 (Qv (some (AObj.cells [(vI x5)] 3 false 1)))) ∧
 ((Qv (vI x5)) ∧
 ((Qv (Pt 1000 5)) ∧
 (((Qv (Sl 1002 4 4)) ∧
 (Qv (some (AObj.cells [(vI x1), (vI x2), (vI x3), (vI x4)] 3 false 1)))) ∧
 ((Qv (vI x4)) ∧
 ((Qv (Pt 1000 4)) ∧
 ((Qv (Pt 1000 3)) ∧
 ((Qv (vI x3)) ∧
 ((Qv (Pt 1000 3)) ∧
 ((Qv (Pt 1000 3)) ∧
 ((Qv (vI x2)) ∧
 ((Qv (Pt 1000 2)) ∧
 ((Qv (Pt 1000 1)) ∧
 ((Qv (vI x1)) ∧
 ((Qv (Pt 1000 1)) ∧
 ((Qv (Pt 1000 1)) ∧
 ((Qv (Value.agg [(vI x3), (vI x4)].toArray)) ∧
 ((Qv (Pt 1000 3)) ∧
 ((Qv (Value.agg [(vI x1), (vI x2)].toArray)) ∧
 ((Qv (Pt 1000 1)) ∧
 True)))))))))))))))))))) ∧
 ((((Qv (Sl 1003 1 1)) ∧
 (Qv (some (AObj.cells [(vI x5)] 3 false 1)))) ∧
 ((Qv (vI x5)) ∧
 ((Qv (Pt 1000 5)) ∧
 (((Qv (Sl 1002 4 4)) ∧
 (Qv (some (AObj.cells [(vI x1), (vI x2), (vI x3), (vI x4)] 3 false 1)))) ∧
 ((Qv (vI x4)) ∧
 ((Qv (Pt 1000 4)) ∧
 ((Qv (Pt 1000 3)) ∧
 ((Qv (vI x3)) ∧
 ((Qv (Pt 1000 3)) ∧
 ((Qv (Pt 1000 3)) ∧
 ((Qv (vI x2)) ∧
 ((Qv (Pt 1000 2)) ∧
 ((Qv (Pt 1000 1)) ∧
 ((Qv (vI x1)) ∧
 ((Qv (Pt 1000 1)) ∧
 ((Qv (Pt 1000 1)) ∧
 ((Qv (Value.agg [(vI x3), (vI x4)].toArray)) ∧
 ((Qv (Pt 1000 3)) ∧
 ((Qv (Value.agg [(vI x1), (vI x2)].toArray)) ∧
 ((Qv (Pt 1000 1)) ∧
 True)))))))))))))))))))) ∧
 (∃ e1 : Int,
 ((Says limC 0 [(D.val (vI 1)), (D.val (vI 900)), (D.sl 4 1 [(vI x1), (vI x2), (vI x3), (vI x4)])] [(D.val (vI e1))]) ∧
 ((((Qv (Sl 1003 1 1)) ∧
 (Qv (some (AObj.cells [(vI x5)] 3 false 1)))) ∧
 ((Qv (vI x5)) ∧
 ((Qv (Pt 1000 5)) ∧
 ((Qv (vI x4)) ∧
 ((Qv (Pt 1000 4)) ∧
 ((Qv (Pt 1000 3)) ∧
 ((Qv (vI x3)) ∧
 ((Qv (Pt 1000 3)) ∧
 ((Qv (Pt 1000 3)) ∧
 ((Qv (vI x2)) ∧
 ((Qv (Pt 1000 2)) ∧
 ((Qv (Pt 1000 1)) ∧
 ((Qv (vI x1)) ∧
 ((Qv (Pt 1000 1)) ∧
 ((Qv (Pt 1000 1)) ∧
 ((Qv (Value.agg [(vI x3), (vI x4)].toArray)) ∧
 ((Qv (Pt 1000 3)) ∧
 ((Qv (Value.agg [(vI x1), (vI x2)].toArray)) ∧
 ((Qv (Pt 1000 1)) ∧
 True))))))))))))))))))) ∧
 ((((Qv (Sl 1003 1 1)) ∧
 (Qv (some (AObj.cells [(vI x5)] 3 false 1)))) ∧
 ((Qv (vI x5)) ∧
 ((Qv (Pt 1000 5)) ∧
 ((Qv (vI x4)) ∧
 ((Qv (Pt 1000 4)) ∧
 ((Qv (Pt 1000 3)) ∧
 ((Qv (vI x3)) ∧
 ((Qv (Pt 1000 3)) ∧
 ((Qv (Pt 1000 3)) ∧
 ((Qv (vI x2)) ∧
 ((Qv (Pt 1000 2)) ∧
 ((Qv (Pt 1000 1)) ∧
 ((Qv (vI x1)) ∧
 ((Qv (Pt 1000 1)) ∧
 ((Qv (Pt 1000 1)) ∧
 ((Qv (Value.agg [(vI x3), (vI x4)].toArray)) ∧
 ((Qv (Pt 1000 3)) ∧
 ((Qv (Value.agg [(vI x1), (vI x2)].toArray)) ∧
 ((Qv (Pt 1000 1)) ∧
 True))))))))))))))))))) ∧
 (∃ e2 : Int,
 ((Says limC 0 [(D.val (vI 0)), (D.val (vI 900)), (D.sl 1 1 [(vI x5)])] [(D.val (vI e2))]) ∧
 ((((Qv (Sl 1008 3 3)) ∧
 (Qv (some (AObj.cells [(vI n3), (vI e1), (vI e2)] 35 false 1)))) ∧
 ((Qv (vI x5)) ∧
 ((Qv (Pt 1000 5)) ∧
 ((Qv (vI x4)) ∧
 ((Qv (Pt 1000 4)) ∧
 ((Qv (Pt 1000 3)) ∧
 ((Qv (vI x3)) ∧
 ((Qv (Pt 1000 3)) ∧
 ((Qv (Pt 1000 3)) ∧
 ((Qv (vI x2)) ∧
 ((Qv (Pt 1000 2)) ∧
 ((Qv (Pt 1000 1)) ∧
 ((Qv (vI x1)) ∧
 ((Qv (Pt 1000 1)) ∧
 ((Qv (Pt 1000 1)) ∧
 ((Qv (Value.agg [(vI x3), (vI x4)].toArray)) ∧
 ((Qv (Pt 1000 3)) ∧
 ((Qv (Value.agg [(vI x1), (vI x2)].toArray)) ∧
 ((Qv (Pt 1000 1)) ∧
 True))))))))))))))))))) ∧
 (∃ n4 : Int,
 ((Says C 37 [(D.sl 3 1 [(vI n3), (vI e1), (vI e2)])] [(D.val (vI n4))]) ∧
 (((Qv (vI x5)) ∧
 ((Qv (Pt 1000 5)) ∧
 ((Qv (vI x4)) ∧
 ((Qv (Pt 1000 4)) ∧
 ((Qv (Pt 1000 3)) ∧
 ((Qv (vI x3)) ∧
 ((Qv (Pt 1000 3)) ∧
 ((Qv (Pt 1000 3)) ∧
 ((Qv (vI x2)) ∧
 ((Qv (Pt 1000 2)) ∧
 ((Qv (Pt 1000 1)) ∧
 ((Qv (vI x1)) ∧
 ((Qv (Pt 1000 1)) ∧
 ((Qv (Pt 1000 1)) ∧
 ((Qv (Value.agg [(vI x3), (vI x4)].toArray)) ∧
 ((Qv (Pt 1000 3)) ∧
 ((Qv (Value.agg [(vI x1), (vI x2)].toArray)) ∧
 ((Qv (Pt 1000 1)) ∧
 True)))))))))))))))))) ∧
 (((Qv (vI x5)) ∧
 ((Qv (Pt 1000 5)) ∧
 ((Qv (vI x4)) ∧
 ((Qv (Pt 1000 4)) ∧
 ((Qv (Pt 1000 3)) ∧
 ((Qv (vI x3)) ∧
 ((Qv (Pt 1000 3)) ∧
 ((Qv (Pt 1000 3)) ∧
 ((Qv (vI x2)) ∧
 ((Qv (Pt 1000 2)) ∧
 ((Qv (Pt 1000 1)) ∧
 ((Qv (vI x1)) ∧
 ((Qv (Pt 1000 1)) ∧
 ((Qv (Pt 1000 1)) ∧
 ((Qv (Value.agg [(vI x3), (vI x4)].toArray)) ∧
 ((Qv (Pt 1000 3)) ∧
 ((Qv (Value.agg [(vI x1), (vI x2)].toArray)) ∧
 ((Qv (Pt 1000 1)) ∧
 True)))))))))))))))))) ∧
 (True ∧
 (k [(D.val (vI 0)), (D.val (vI n4))]))))))))))))))))))))))
 False) := by kernel_rfl
def gRR (C : Ct) (L : AtLoop) (n0 : Nat) (c0 : Nat) (l0 : List Value) (x1 : Int) (x2 : Int) (x3 : Int) (x4 : Int) (x5 : Int) (k : List D → Prop) : Prop := wpFn Try.prog (hL C) L 0 43 #[.agg #[.slice (some ⟨500, 0, none⟩) n0 c0, .int .i64 x1, .int .i64 x2, .int .i64 x3, .int .i64 x4, .int .i64 x5]] (heapOf [(500, .sym l0 false 2)]) (dataK k)
theorem gRR_text (C : Ct) (L : AtLoop) (n0 : Nat) (c0 : Nat) (l0 : List Go.Value) (x1 : Int) (x2 : Int) (x3 : Int) (x4 : Int) (x5 : Int) (k : List D → Prop) : gRR C L n0 c0 l0 x1 x2 x3 x4 x5 k =
 (bcase (decide (0 + n0 * 2 ≤ List.length l0))
 (∃ n1 : Int,
 (∃ n2 : Int,
 ((Says C 74 [(D.sl (n0) 2 (List.take (n0 * 2) (List.drop 0 l0)))] [(D.val (vI n1)), (D.val (vI n2))]) ∧
 (bcase (n2 != 0)
 (k [(D.val (vI n1)), (D.val (vI n2))])
 (((Says C 22 [(D.agg [(D.val (vI x1)), (D.val (vI x2))])] [(D.val (Value.bool true))]) ∧
 (((Says C 22 [(D.agg [(D.val (vI x3)), (D.val (vI x4))])] [(D.val (Value.bool true))]) ∧
 (((Says C 75 [(D.agg [(D.val (vI x1)), (D.val (vI x2))])] [(D.val (Value.bool true))]) ∧
 (((Says C 75 [(D.agg [(D.val (vI x3)), (D.val (vI x4))])] [(D.val (Value.bool true))]) ∧
 (((Says C 21 [(D.val (vI x5)), (D.val (vI 0)), (D.val (vI 900))] [(D.val (Value.bool true))]) ∧
 (k [(D.val (vI 0)), (D.val (vI 0))])) ∨
 ((Says C 21 [(D.val (vI x5)), (D.val (vI 0)), (D.val (vI 900))] [(D.val (Value.bool false))]) ∧
 (k [(D.val (vI 0)), (D.val (vI 2))])))) ∨
 ((Says C 75 [(D.agg [(D.val (vI x3)), (D.val (vI x4))])] [(D.val (Value.bool false))]) ∧
 (k [(D.val (vI 0)), (D.val (vI 2))])))) ∨
 ((Says C 75 [(D.agg [(D.val (vI x1)), (D.val (vI x2))])] [(D.val (Value.bool false))]) ∧
 (k [(D.val (vI 0)), (D.val (vI 2))])))) ∨
 ((Says C 22 [(D.agg [(D.val (vI x3)), (D.val (vI x4))])] [(D.val (Value.bool false))]) ∧
 (k [(D.val (vI 0)), (D.val (vI 3))])))) ∨
 ((Says C 22 [(D.agg [(D.val (vI x1)), (D.val (vI x2))])] [(D.val (Value.bool false))]) ∧
 (k [(D.val (vI 0)), (D.val (vI 3))])))))))
 False) := by kernel_rfl
def gRRn (C : Ct) (L : AtLoop) (x1 : Int) (x2 : Int) (x3 : Int) (x4 : Int) (x5 : Int) (k : List D → Prop) : Prop := wpFn Try.prog (hL C) L 0 43 #[.agg #[.slice none 0 0, .int .i64 x1, .int .i64 x2, .int .i64 x3, .int .i64 x4, .int .i64 x5]] (heapOf []) (dataK k)
theorem gRRn_text (C : Ct) (L : AtLoop) (x1 : Int) (x2 : Int) (x3 : Int) (x4 : Int) (x5 : Int) (k : List D → Prop) : gRRn C L x1 x2 x3 x4 x5 k =
 (∃ n1 : Int,
 (∃ n2 : Int,
 ((Says C 74 [D.nil] [(D.val (vI n1)), (D.val (vI n2))]) ∧
 (bcase (n2 != 0)
 (k [(D.val (vI n1)), (D.val (vI n2))])
 (((Says C 22 [(D.agg [(D.val (vI x1)), (D.val (vI x2))])] [(D.val (Value.bool true))]) ∧
 (((Says C 22 [(D.agg [(D.val (vI x3)), (D.val (vI x4))])] [(D.val (Value.bool true))]) ∧
 (((Says C 75 [(D.agg [(D.val (vI x1)), (D.val (vI x2))])] [(D.val (Value.bool true))]) ∧
 (((Says C 75 [(D.agg [(D.val (vI x3)), (D.val (vI x4))])] [(D.val (Value.bool true))]) ∧
 (((Says C 21 [(D.val (vI x5)), (D.val (vI 0)), (D.val (vI 900))] [(D.val (Value.bool true))]) ∧
 (k [(D.val (vI 0)), (D.val (vI 0))])) ∨
 ((Says C 21 [(D.val (vI x5)), (D.val (vI 0)), (D.val (vI 900))] [(D.val (Value.bool false))]) ∧
 (k [(D.val (vI 0)), (D.val (vI 2))])))) ∨
 ((Says C 75 [(D.agg [(D.val (vI x3)), (D.val (vI x4))])] [(D.val (Value.bool false))]) ∧
 (k [(D.val (vI 0)), (D.val (vI 2))])))) ∨
 ((Says C 75 [(D.agg [(D.val (vI x1)), (D.val (vI x2))])] [(D.val (Value.bool false))]) ∧
 (k [(D.val (vI 0)), (D.val (vI 2))])))) ∨
 ((Says C 22 [(D.agg [(D.val (vI x3)), (D.val (vI x4))])] [(D.val (Value.bool false))]) ∧
 (k [(D.val (vI 0)), (D.val (vI 3))])))) ∨
 ((Says C 22 [(D.agg [(D.val (vI x1)), (D.val (vI x2))])] [(D.val (Value.bool false))]) ∧
 (k [(D.val (vI 0)), (D.val (vI 3))]))))))) := by kernel_rfl
def gRE (C : Ct) (L : AtLoop) (n0 : Nat) (c0 : Nat) (l0 : List Value) (x1 : Int) (x2 : Int) (x3 : Int) (x4 : Int) (x5 : Int) (k : List D → Prop) : Prop := wpFn Try.prog (hL C) L 0 14 #[.agg #[.slice (some ⟨500, 0, none⟩) n0 c0, .int .i64 x1, .int .i64 x2, .int .i64 x3, .int .i64 x4, .int .i64 x5]] (heapOf [(500, .sym l0 false 2)]) (dataK k)
theorem gRE_text (C : Ct) (L : AtLoop) (n0 : Nat) (c0 : Nat) (l0 : List Go.Value) (x1 : Int) (x2 : Int) (x3 : Int) (x4 : Int) (x5 : Int) (k : List D → Prop) : gRE C L n0 c0 l0 x1 x2 x3 x4 x5 k =
 (bcase (decide (0 + n0 * 2 ≤ List.length l0))
 (∃ n1 : Int,
 (∃ n2 : Int,
 ((Says C 43 [(D.agg [(D.sl (n0) 2 (List.take (n0 * 2) (List.drop 0 l0))), (D.val (vI x1)), (D.val (vI x2)), (D.val (vI x3)), (D.val (vI x4)), (D.val (vI x5))])] [(D.val (vI n1)), (D.val (vI n2))]) ∧
 (k [(D.val (vI n2))]))))
 False) := by kernel_rfl
def gREn (C : Ct) (L : AtLoop) (x1 : Int) (x2 : Int) (x3 : Int) (x4 : Int) (x5 : Int) (k : List D → Prop) : Prop := wpFn Try.prog (hL C) L 0 14 #[.agg #[.slice none 0 0, .int .i64 x1, .int .i64 x2, .int .i64 x3, .int .i64 x4, .int .i64 x5]] (heapOf []) (dataK k)
theorem gREn_text (C : Ct) (L : AtLoop) (x1 : Int) (x2 : Int) (x3 : Int) (x4 : Int) (x5 : Int) (k : List D → Prop) : gREn C L x1 x2 x3 x4 x5 k =
 (∃ n1 : Int,
 (∃ n2 : Int,
 ((Says C 43 [(D.agg [D.nil, (D.val (vI x1)), (D.val (vI x2)), (D.val (vI x3)), (D.val (vI x4)), (D.val (vI x5))])] [(D.val (vI n1)), (D.val (vI n2))]) ∧
 (k [(D.val (vI n2))])))) := by kernel_rfl
def gCE (C : Ct) (L : AtLoop) (n0 : Nat) (c0 : Nat) (l0 : List Value) (x1 : Int) (x2 : Int) (x3 : Int) (x4 : Int) (x5 : Int) (x6 : Int) (x7 : Int) (k : List D → Prop) : Prop := wpFn Try.prog (hL C) L 0 17 #[.agg #[.slice (some ⟨500, 0, none⟩) n0 c0, .int .i64 x1, .int .i64 x2, .int .i64 x3, .int .i64 x4, .int .i64 x5], .agg #[.int .i64 x6, .int .i64 x7]] (heapOf [(500, .sym l0 false 2)]) (dataK k)
theorem gCE_text (C : Ct) (L : AtLoop) (n0 : Nat) (c0 : Nat) (l0 : List Go.Value) (x1 : Int) (x2 : Int) (x3 : Int) (x4 : Int) (x5 : Int) (x6 : Int) (x7 : Int) (k : List D → Prop) : gCE C L n0 c0 l0 x1 x2 x3 x4 x5 x6 x7 k =
 (((Says C 21 [(D.val (vI x6)), (D.val (vI 0)), (D.val (vI 1000000))] [(D.val (Value.bool true))]) ∧
 (((Says C 21 [(D.val (vI x7)), (D.val (vI 0)), (D.val (vI x5))] [(D.val (Value.bool true))]) ∧
 (k [(D.val (vI 0))])) ∨
 ((Says C 21 [(D.val (vI x7)), (D.val (vI 0)), (D.val (vI x5))] [(D.val (Value.bool false))]) ∧
 (k [(D.val (vI 2))])))) ∨
 ((Says C 21 [(D.val (vI x6)), (D.val (vI 0)), (D.val (vI 1000000))] [(D.val (Value.bool false))]) ∧
 (k [(D.val (vI 2))]))) := by kernel_rfl
def ggA (C : Ct) (L : AtLoop) (n0 : Nat) (c0 : Nat) (l0 : List Value) (x1 : Int) (x2 : Int) (x3 : Int) (x4 : Int) (x5 : Int) (x6 : Int) (k : List D → Prop) : Prop := wpFn Try.prog (hL C) L 0 68 #[.agg #[.slice (some ⟨500, 0, none⟩) n0 c0, .int .i64 x1, .int .i64 x2, .int .i64 x3, .int .i64 x4, .int .i64 x5], .int .i64 x6] (heapOf [(500, .sym l0 false 2)]) (dataK k)
theorem ggA_text (C : Ct) (L : AtLoop) (n0 : Nat) (c0 : Nat) (l0 : List Go.Value) (x1 : Int) (x2 : Int) (x3 : Int) (x4 : Int) (x5 : Int) (x6 : Int) (k : List D → Prop) : ggA C L n0 c0 l0 x1 x2 x3 x4 x5 x6 k =
 (k [(D.agg [(D.val (vI (IntKind.wrap .i64 (IntKind.wrap .i64 (x1 * x4) + IntKind.wrap .i64 (IntKind.wrap .i64 (x6 * x3) * x2))))), (D.val (vI (IntKind.wrap .i64 (x2 * x4))))])]) := by kernel_rfl
def gkC (C : Ct) (L : AtLoop) (s0 : ByteArray) (n1 : Nat) (c1 : Nat) (l1 : List Value) (k : List D → Prop) : Prop := wpFn Try.prog (hL C) L 0 34 #[.agg #[.string s0, .slice (some ⟨500, 0, none⟩) n1 c1]] (heapOf [(500, .sym l1 false 2)]) (dataK k)
theorem gkC_text (C : Ct) (L : AtLoop) (s0 : ByteArray) (n1 : Nat) (c1 : Nat) (l1 : List Go.Value) (k : List D → Prop) : gkC C L s0 n1 c1 l1 k =
 (((Qv (vI ((↑n1 : Int)))) ∧
 ((Qv (Sl 500 (n1) (c1))) ∧
 ((Qv (Pt 1000 1)) ∧
 ((Qv (Value.string (s0))) ∧
 ((Qv (Pt 1000 0)) ∧
 True))))) ∧
 (∃ n2 : Int,
 ((Says C 64 [(D.val (Value.string (s0)))] [(D.val (vI n2))]) ∧
 (((Qv (vI ((↑n1 : Int)))) ∧
 ((Qv (Sl 500 (n1) (c1))) ∧
 ((Qv (Pt 1000 1)) ∧
 ((Qv (Pt 1000 0)) ∧
 True)))) ∧
 (∃ n3 : Int,
 ((Says C 65 [(D.val (vI ((↑n1 : Int)))), (D.val (vI 12))] [(D.val (vI n3))]) ∧
 ((((Qv (Sl 1001 2 2)) ∧
 (Qv (some (AObj.cells [(vI n2), (vI n3)] 35 false 1)))) ∧
 ((Qv (Sl 500 (n1) (c1))) ∧
 ((Qv (Pt 1000 1)) ∧
 ((Qv (Pt 1000 0)) ∧
 True)))) ∧
 (∃ n4 : Int,
 ((Says C 37 [(D.sl 2 1 [(vI n2), (vI n3)])] [(D.val (vI n4))]) ∧
 (((Qv (Sl 500 (n1) (c1))) ∧
 ((Qv (Pt 1000 1)) ∧
 ((Qv (Pt 1000 0)) ∧
 True))) ∧
 (True ∧
 (bcase (n4 != 0)
 (k [(D.val (vI 0)), (D.val (vI n4))])
 (L 0 [(Prod.mk 21 (Sl 500 (n1) (c1))), (Prod.mk 22 (vI ((↑n1 : Int)))), (Prod.mk 23 (vI 0))] [(Prod.mk 500 (AObj.sym (l1) false 2))]))))))))))))) := by kernel_rfl
abbrev zkC1 (n0 : Nat) (c1 : Nat) (x2 : Int) (x3 : Int) (l4 : List Value) : Slots × Blocks := ([(21, (Value.slice (some ⟨500, 0, none⟩) n0 c1)), (22, (Value.int .i64 x2)), (23, (Value.int .i64 x3))], [(500, (AObj.sym l4 false 2))])
def rkC1 (C : Ct) (L : AtLoop) (n0 : Nat) (c1 : Nat) (x2 : Int) (x3 : Int) (l4 : List Value) (B : Bx) (X : Xx) (k : List D → Prop) : Prop := wpRound Try.prog (hL C) L 34 0 [(21, (Value.slice (some ⟨500, 0, none⟩) n0 c1)), (22, (Value.int .i64 x2)), (23, (Value.int .i64 x3))] [(500, (AObj.sym l4 false 2))] B X (dataK k)
theorem rkC1_text (C : Ct) (L : AtLoop) (n0 : Nat) (c1 : Nat) (x2 : Int) (x3 : Int) (l4 : List Go.Value) (B : Bx) (X : Xx) (k : List D → Prop) : rkC1 C L n0 c1 x2 x3 l4 B X k =
 (bcase (decide (x3 < x2))
 (bcase (decide (0 ≤ x3))
 (bcase (decide (x3 < (↑n0 : Int)))
 (∃ n1 : Int,
 (∃ n2 : Int,
 ((At (l4) (0 + Int.toNat x3 * 2) 2 [(vI n1), (vI n2)]) ∧
 ((((Qv (Sl 1002 1 1)) ∧
 (Qv (some (AObj.cells [(vI n2)] 3 false 1)))) ∧
 ((Qv (vI n2)) ∧
 ((Qv (Pt 1000 1)) ∧
 (((Qv (Sl 1001 1 1)) ∧
 (Qv (some (AObj.cells [(vI n1)] 3 false 1)))) ∧
 ((Qv (vI n1)) ∧
 ((Qv (Pt 1000 0)) ∧
 True)))))) ∧
 (∃ n3 : Int,
 ((Says C 51 [(D.sl 1 1 [(vI n1)])] [(D.val (vI n3))]) ∧
 ((((Qv (Sl 1002 1 1)) ∧
 (Qv (some (AObj.cells [(vI n2)] 3 false 1)))) ∧
 ((Qv (vI n2)) ∧
 ((Qv (Pt 1000 1)) ∧
 ((Qv (vI n1)) ∧
 ((Qv (Pt 1000 0)) ∧
 True))))) ∧
 ((((Qv (Sl 1002 1 1)) ∧
 (Qv (some (AObj.cells [(vI n2)] 3 false 1)))) ∧
 ((Qv (vI n2)) ∧
 ((Qv (Pt 1000 1)) ∧
 ((Qv (vI n1)) ∧
 ((Qv (Pt 1000 0)) ∧
 True))))) ∧
 (∃ e1 : Int,
 ((Says limC 0 [(D.val (vI 0)), (D.val (vI 100000)), (D.sl 1 1 [(vI n2)])] [(D.val (vI e1))]) ∧
 ((((Qv (Sl 1005 2 2)) ∧
 (Qv (some (AObj.cells [(vI n3), (vI e1)] 35 false 1)))) ∧
 ((Qv (vI n2)) ∧
 ((Qv (Pt 1000 1)) ∧
 ((Qv (vI n1)) ∧
 ((Qv (Pt 1000 0)) ∧
 True))))) ∧
 (∃ n4 : Int,
 ((Says C 37 [(D.sl 2 1 [(vI n3), (vI e1)])] [(D.val (vI n4))]) ∧
 (((Qv (vI n2)) ∧
 ((Qv (Pt 1000 1)) ∧
 ((Qv (vI n1)) ∧
 ((Qv (Pt 1000 0)) ∧
 True)))) ∧
 (True ∧
 (bcase (n4 != 0)
 (k [(D.val (vI x3)), (D.val (vI n4))])
 (B [(Prod.mk 21 (Sl 500 (n0) (c1))), (Prod.mk 22 (vI x2)), (Prod.mk 23 (vI (IntKind.wrap .i64 (x3 + 1))))] [(Prod.mk 500 (AObj.sym (l4) false 2))])))))))))))))))))
 False)
 False)
 (X 0 [] [])) := by kernel_rfl
def nkC2 (C : Ct) (L : AtLoop) (k : List D → Prop) : Prop := wpNext Try.prog (hL C) L 34 0 .normal [] [] (dataK k)
theorem nkC2_text (C : Ct) (L : AtLoop) (k : List D → Prop) : nkC2 C L k =
 (k [(D.val (vI 0)), (D.val (vI 0))]) := by kernel_rfl
def gRC (C : Ct) (L : AtLoop) (s0 : ByteArray) (n1 : Nat) (c1 : Nat) (l1 : List Value) (k : List D → Prop) : Prop := wpFn Try.prog (hL C) L 0 15 #[.agg #[.string s0, .slice (some ⟨500, 0, none⟩) n1 c1]] (heapOf [(500, .sym l1 false 2)]) (dataK k)
theorem gRC_text (C : Ct) (L : AtLoop) (s0 : ByteArray) (n1 : Nat) (c1 : Nat) (l1 : List Go.Value) (k : List D → Prop) : gRC C L s0 n1 c1 l1 k =
 (((Says C 44 [(D.val (Value.string (s0)))] [(D.val (Value.bool true))]) ∧
 (bcase ((↑n1 : Int) == 0)
 (k [(D.val (vI 0)), (D.val (vI 10))])
 (bcase (decide ((↑n1 : Int) > 12))
 (k [(D.val (vI 0)), (D.val (vI 8))])
 (L 0 [(Prod.mk 1 (Pt 1000 0)), (Prod.mk 4 (vI 0))] [(Prod.mk 1000 (AObj.cells [(Value.string (s0)), (Sl 500 (n1) (c1))] 31 false 1)), (Prod.mk 500 (AObj.sym (l1) false 2))])))) ∨
 ((Says C 44 [(D.val (Value.string (s0)))] [(D.val (Value.bool false))]) ∧
 (k [(D.val (vI 0)), (D.val (vI 4))]))) := by kernel_rfl
abbrev zRC1 (x0 : Int) (s1 : ByteArray) (n2 : Nat) (c3 : Nat) (l4 : List Value) : Slots × Blocks := ([(1, (Value.pointer (some ⟨1000, 0, none⟩))), (4, (Value.int .i64 x0))], [(1000, (AObj.cells [(Value.string s1), (Value.slice (some ⟨500, 0, none⟩) n2 c3)] 31 false 1)), (500, (AObj.sym l4 false 2))])
def rRC1 (C : Ct) (L : AtLoop) (x0 : Int) (s1 : ByteArray) (n2 : Nat) (c3 : Nat) (l4 : List Value) (B : Bx) (X : Xx) (k : List D → Prop) : Prop := wpRound Try.prog (hL C) L 15 0 [(1, (Value.pointer (some ⟨1000, 0, none⟩))), (4, (Value.int .i64 x0))] [(1000, (AObj.cells [(Value.string s1), (Value.slice (some ⟨500, 0, none⟩) n2 c3)] 31 false 1)), (500, (AObj.sym l4 false 2))] B X (dataK k)
theorem rRC1_text (C : Ct) (L : AtLoop) (x0 : Int) (s1 : ByteArray) (n2 : Nat) (c3 : Nat) (l4 : List Go.Value) (B : Bx) (X : Xx) (k : List D → Prop) : rRC1 C L x0 s1 n2 c3 l4 B X k =
 (bcase (decide (x0 < (↑n2 : Int)))
 (bcase (decide (0 ≤ x0))
 (bcase (decide (x0 < (↑n2 : Int)))
 (∃ n1 : Int,
 ((At (l4) (0 + Int.toNat x0 * 2) 1 [(vI n1)]) ∧
 (∃ n3 : Int,
 ((Says C 45 [(D.val (vI n1))] [(D.val (vI n3))]) ∧
 (bcase (n3 != 0)
 (k [(D.val (vI x0)), (D.val (vI 2))])
 (bcase (decide (0 ≤ x0))
 (bcase (decide (x0 < (↑n2 : Int)))
 (∃ n4 : Int,
 ((At (l4) (Addr.off { block := 500, off := 0 + Int.toNat x0 * 2 } + 1) 1 [(vI n4)]) ∧
 (((Says C 21 [(D.val (vI n4)), (D.val (vI 0)), (D.val (vI 100000))] [(D.val (Value.bool true))]) ∧
 (B [(Prod.mk 1 (Pt 1000 0)), (Prod.mk 4 (vI (IntKind.wrap .i64 (x0 + 1))))] [(Prod.mk 1000 (AObj.cells [(Value.string (s1)), (Sl 500 (n2) (c3))] 31 false 1)), (Prod.mk 500 (AObj.sym (l4) false 2))])) ∨
 ((Says C 21 [(D.val (vI n4)), (D.val (vI 0)), (D.val (vI 100000))] [(D.val (Value.bool false))]) ∧
 (k [(D.val (vI x0)), (D.val (vI 2))])))))
 False)
 False))))))
 False)
 False)
 (X 0 [] [])) := by kernel_rfl
def nRC2 (C : Ct) (L : AtLoop) (k : List D → Prop) : Prop := wpNext Try.prog (hL C) L 15 0 .normal [] [] (dataK k)
theorem nRC2_text (C : Ct) (L : AtLoop) (k : List D → Prop) : nRC2 C L k =
 (k [(D.val (vI 0)), (D.val (vI 0))]) := by kernel_rfl
def gRCn (C : Ct) (L : AtLoop) (s0 : ByteArray) (k : List D → Prop) : Prop := wpFn Try.prog (hL C) L 0 15 #[.agg #[.string s0, .slice none 0 0]] (heapOf []) (dataK k)
theorem gRCn_text (C : Ct) (L : AtLoop) (s0 : ByteArray) (k : List D → Prop) : gRCn C L s0 k =
 (((Says C 44 [(D.val (Value.string (s0)))] [(D.val (Value.bool true))]) ∧
 (k [(D.val (vI 0)), (D.val (vI 10))])) ∨
 ((Says C 44 [(D.val (Value.string (s0)))] [(D.val (Value.bool false))]) ∧
 (k [(D.val (vI 0)), (D.val (vI 4))]))) := by kernel_rfl
def gCe (C : Ct) (L : AtLoop) (s0 : ByteArray) (n1 : Nat) (c1 : Nat) (l1 : List Value) (k : List D → Prop) : Prop := wpFn Try.prog (hL C) L 0 20 #[.agg #[.string s0, .slice (some ⟨500, 0, none⟩) n1 c1]] (heapOf [(500, .sym l1 false 2)]) (dataK k)
theorem gCe_text (C : Ct) (L : AtLoop) (s0 : ByteArray) (n1 : Nat) (c1 : Nat) (l1 : List Go.Value) (k : List D → Prop) : gCe C L s0 n1 c1 l1 k =
 (bcase (decide (0 + n1 * 2 ≤ List.length l1))
 (∃ n2 : Int,
 (∃ n3 : Int,
 ((Says C 15 [(D.agg [(D.val (Value.string (s0))), (D.sl (n1) 2 (List.take (n1 * 2) (List.drop 0 l1)))])] [(D.val (vI n2)), (D.val (vI n3))]) ∧
 (k [(D.val (vI n3))]))))
 False) := by kernel_rfl
def gCen (C : Ct) (L : AtLoop) (s0 : ByteArray) (k : List D → Prop) : Prop := wpFn Try.prog (hL C) L 0 20 #[.agg #[.string s0, .slice none 0 0]] (heapOf []) (dataK k)
theorem gCen_text (C : Ct) (L : AtLoop) (s0 : ByteArray) (k : List D → Prop) : gCen C L s0 k =
 (∃ n1 : Int,
 (∃ n2 : Int,
 ((Says C 15 [(D.agg [(D.val (Value.string (s0))), D.nil])] [(D.val (vI n1)), (D.val (vI n2))]) ∧
 (k [(D.val (vI n2))])))) := by kernel_rfl
def gKC (C : Ct) (L : AtLoop) (n0 : Nat) (c0 : Nat) (l0 : List Value) (x1 : Int) (x2 : Int) (x3 : Int) (x4 : Int) (x5 : Int) (s6 : ByteArray) (n7 : Nat) (c7 : Nat) (l7 : List Value) (k : List D → Prop) : Prop := wpFn Try.prog (hL C) L 0 8 #[.agg #[.slice (some ⟨500, 0, none⟩) n0 c0, .int .i64 x1, .int .i64 x2, .int .i64 x3, .int .i64 x4, .int .i64 x5], .agg #[.string s6, .slice (some ⟨501, 0, none⟩) n7 c7]] (heapOf [(500, .sym l0 false 2), (501, .sym l7 false 2)]) (dataK k)
theorem gKC_text (C : Ct) (L : AtLoop) (n0 : Nat) (c0 : Nat) (l0 : List Go.Value) (x1 : Int) (x2 : Int) (x3 : Int) (x4 : Int) (x5 : Int) (s6 : ByteArray) (n7 : Nat) (c7 : Nat) (l7 : List Go.Value) (k : List D → Prop) : gKC C L n0 c0 l0 x1 x2 x3 x4 x5 s6 n7 c7 l7 k =
 (bcase (decide (0 + n0 * 2 ≤ List.length l0))
 (∃ n1 : Int,
 (∃ n2 : Int,
 ((Says C 33 [(D.agg [(D.sl (n0) 2 (List.take (n0 * 2) (List.drop 0 l0))), (D.val (vI x1)), (D.val (vI x2)), (D.val (vI x3)), (D.val (vI x4)), (D.val (vI x5))])] [(D.val (vI n1)), (D.val (vI n2))]) ∧
 (bcase (n2 != 0)
 (k [(D.val (vI 0)), (D.val (vI n2))])
 (bcase (decide (0 + n7 * 2 ≤ List.length l7))
 (∃ n3 : Int,
 (∃ n4 : Int,
 ((Says C 34 [(D.agg [(D.val (Value.string (s6))), (D.sl (n7) 2 (List.take (n7 * 2) (List.drop 0 l7)))])] [(D.val (vI n3)), (D.val (vI n4))]) ∧
 (k [(D.val (vI n3)), (D.val (vI n4))]))))
 False)))))
 False) := by kernel_rfl
def glA (C : Ct) (L : AtLoop) (n0 : Nat) (c0 : Nat) (l0 : List Value) (x1 : Int) (x2 : Int) (x3 : Int) (x4 : Int) (x5 : Int) (s6 : ByteArray) (n7 : Nat) (c7 : Nat) (l7 : List Value) (x8 : Int) (k : List D → Prop) : Prop := wpFn Try.prog (hL C) L 0 39 #[.agg #[.slice (some ⟨500, 0, none⟩) n0 c0, .int .i64 x1, .int .i64 x2, .int .i64 x3, .int .i64 x4, .int .i64 x5], .agg #[.string s6, .slice (some ⟨501, 0, none⟩) n7 c7], .int .i64 x8] (heapOf [(500, .sym l0 false 2), (501, .sym l7 false 2)]) (dataK k)
theorem glA_text (C : Ct) (L : AtLoop) (n0 : Nat) (c0 : Nat) (l0 : List Go.Value) (x1 : Int) (x2 : Int) (x3 : Int) (x4 : Int) (x5 : Int) (s6 : ByteArray) (n7 : Nat) (c7 : Nat) (l7 : List Go.Value) (x8 : Int) (k : List D → Prop) : glA C L n0 c0 l0 x1 x2 x3 x4 x5 s6 n7 c7 l7 x8 k =
 (bcase (decide (0 + n0 * 2 ≤ List.length l0))
 (∃ n1 : Int,
 (∃ n2 : Int,
 ((Says C 68 [(D.agg [(D.sl (n0) 2 (List.take (n0 * 2) (List.drop 0 l0))), (D.val (vI x1)), (D.val (vI x2)), (D.val (vI x3)), (D.val (vI x4)), (D.val (vI x5))]), (D.val (vI x8))] [(D.agg [(D.val (vI n1)), (D.val (vI n2))])]) ∧
 (L 0 [(Prod.mk 3 (Pt 1000 0)), (Prod.mk 6 (Pt 1001 0)), (Prod.mk 7 (Pt 1002 0)), (Prod.mk 8 (Pt 1003 0)), (Prod.mk 19 (Sl 501 (n7) (c7))), (Prod.mk 20 (vI ((↑n7 : Int)))), (Prod.mk 21 (vI 0))] [(Prod.mk 1000 (AObj.cells [(Sl 500 (n0) (c0)), (vI x1), (vI x2), (vI x3), (vI x4), (vI x5)] 83 false 1)), (Prod.mk 1001 (AObj.cells [(vI 0), (vI 0)] 24 false 2)), (Prod.mk 1002 (AObj.cells [(vI n1), (vI n2)] 24 false 2)), (Prod.mk 1003 (AObj.cells [(vI 0), (vI n2)] 24 false 2)), (Prod.mk 501 (AObj.sym (l7) false 2)), (Prod.mk 500 (AObj.sym (l0) false 2))]))))
 False) := by kernel_rfl
abbrev zlA1 (n0 : Nat) (c1 : Nat) (x2 : Int) (x3 : Int) (n4 : Nat) (c5 : Nat) (x6 : Int) (x7 : Int) (x8 : Int) (x9 : Int) (x10 : Int) (x11 : Int) (x12 : Int) (x13 : Int) (x14 : Int) (x15 : Int) (x16 : Int) (l17 : List Value) (l18 : List Value) : Slots × Blocks := ([(3, (Value.pointer (some ⟨1000, 0, none⟩))), (6, (Value.pointer (some ⟨1001, 0, none⟩))), (7, (Value.pointer (some ⟨1002, 0, none⟩))), (8, (Value.pointer (some ⟨1003, 0, none⟩))), (19, (Value.slice (some ⟨501, 0, none⟩) n0 c1)), (20, (Value.int .i64 x2)), (21, (Value.int .i64 x3))], [(1000, (AObj.cells [(Value.slice (some ⟨500, 0, none⟩) n4 c5), (Value.int .i64 x6), (Value.int .i64 x7), (Value.int .i64 x8), (Value.int .i64 x9), (Value.int .i64 x10)] 83 false 1)), (1001, (AObj.cells [(Value.int .i64 x11), (Value.int .i64 x12)] 24 false 2)), (1002, (AObj.cells [(Value.int .i64 x13), (Value.int .i64 x14)] 24 false 2)), (1003, (AObj.cells [(Value.int .i64 x15), (Value.int .i64 x16)] 24 false 2)), (501, (AObj.sym l17 false 2)), (500, (AObj.sym l18 false 2))])
def rlA1 (C : Ct) (L : AtLoop) (n0 : Nat) (c1 : Nat) (x2 : Int) (x3 : Int) (n4 : Nat) (c5 : Nat) (x6 : Int) (x7 : Int) (x8 : Int) (x9 : Int) (x10 : Int) (x11 : Int) (x12 : Int) (x13 : Int) (x14 : Int) (x15 : Int) (x16 : Int) (l17 : List Value) (l18 : List Value) (B : Bx) (X : Xx) (k : List D → Prop) : Prop := wpRound Try.prog (hL C) L 39 0 [(3, (Value.pointer (some ⟨1000, 0, none⟩))), (6, (Value.pointer (some ⟨1001, 0, none⟩))), (7, (Value.pointer (some ⟨1002, 0, none⟩))), (8, (Value.pointer (some ⟨1003, 0, none⟩))), (19, (Value.slice (some ⟨501, 0, none⟩) n0 c1)), (20, (Value.int .i64 x2)), (21, (Value.int .i64 x3))] [(1000, (AObj.cells [(Value.slice (some ⟨500, 0, none⟩) n4 c5), (Value.int .i64 x6), (Value.int .i64 x7), (Value.int .i64 x8), (Value.int .i64 x9), (Value.int .i64 x10)] 83 false 1)), (1001, (AObj.cells [(Value.int .i64 x11), (Value.int .i64 x12)] 24 false 2)), (1002, (AObj.cells [(Value.int .i64 x13), (Value.int .i64 x14)] 24 false 2)), (1003, (AObj.cells [(Value.int .i64 x15), (Value.int .i64 x16)] 24 false 2)), (501, (AObj.sym l17 false 2)), (500, (AObj.sym l18 false 2))] B X (dataK k)
theorem rlA1_text (C : Ct) (L : AtLoop) (n0 : Nat) (c1 : Nat) (x2 : Int) (x3 : Int) (n4 : Nat) (c5 : Nat) (x6 : Int) (x7 : Int) (x8 : Int) (x9 : Int) (x10 : Int) (x11 : Int) (x12 : Int) (x13 : Int) (x14 : Int) (x15 : Int) (x16 : Int) (l17 : List Go.Value) (l18 : List Go.Value) (B : Bx) (X : Xx) (k : List D → Prop) : rlA1 C L n0 c1 x2 x3 n4 c5 x6 x7 x8 x9 x10 x11 x12 x13 x14 x15 x16 l17 l18 B X k =
 (bcase (decide (x3 < x2))
 (bcase (decide (0 ≤ x3))
 (bcase (decide (x3 < (↑n0 : Int)))
 (∃ n1 : Int,
 (∃ n2 : Int,
 ((At (l17) (0 + Int.toNat x3 * 2) 2 [(vI n1), (vI n2)]) ∧
 (((Qv (vI (IntKind.wrap .i64 (n2 * x14)))) ∧
 ((Qv (vI x14)) ∧
 ((Qv (Pt 1002 1)) ∧
 ((Qv (vI n2)) ∧
 ((Qv (Pt 1004 1)) ∧
 ((Qv (vI x13)) ∧
 ((Qv (Pt 1002 0)) ∧
 ((Qv (vI n1)) ∧
 ((Qv (Pt 1004 0)) ∧
 ((Qv (Sl 500 (n4) (c5))) ∧
 ((Qv (Pt 1000 0)) ∧
 ((Qv (Pt 1000 0)) ∧
 True)))))))))))) ∧
 (bcase (decide (0 + n4 * 2 ≤ List.length l18))
 (∃ n3 : Int,
 ((Says C 52 [(D.sl (n4) 2 (List.take (n4 * 2) (List.drop 0 l18))), (D.val (vI n1))] [(D.val (vI n3))]) ∧
 (((Qv (vI (IntKind.wrap .i64 (IntKind.wrap .i64 (n3 * x13) - IntKind.wrap .i64 (n2 * x14))))) ∧
 ((Qv (vI (IntKind.wrap .i64 (n3 * x13)))) ∧
 ((Qv (vI (IntKind.wrap .i64 (n2 * x14)))) ∧
 ((Qv (vI x14)) ∧
 ((Qv (Pt 1002 1)) ∧
 ((Qv (vI n2)) ∧
 ((Qv (Pt 1004 1)) ∧
 ((Qv (vI x13)) ∧
 ((Qv (Pt 1002 0)) ∧
 ((Qv (Pt 1004 0)) ∧
 ((Qv (Pt 1000 0)) ∧
 ((Qv (Pt 1000 0)) ∧
 True)))))))))))) ∧
 (True ∧
 (B [(Prod.mk 3 (Pt 1000 0)), (Prod.mk 6 (Pt 1001 0)), (Prod.mk 7 (Pt 1002 0)), (Prod.mk 8 (Pt 1003 0)), (Prod.mk 19 (Sl 501 (n0) (c1))), (Prod.mk 20 (vI x2)), (Prod.mk 21 (vI (IntKind.wrap .i64 (x3 + 1))))] [(Prod.mk 1000 (AObj.cells [(Sl 500 (n4) (c5)), (vI x6), (vI x7), (vI x8), (vI x9), (vI x10)] 83 false 1)), (Prod.mk 1001 (AObj.cells [(vI x11), (vI x12)] 24 false 2)), (Prod.mk 1002 (AObj.cells [(vI x13), (vI x14)] 24 false 2)), (Prod.mk 1003 (AObj.cells [(vI (IntKind.wrap .i64 (x15 + if IntKind.wrap .i64 (0 - IntKind.wrap .i64 (IntKind.wrap .i64 (n3 * x13) - IntKind.wrap .i64 (n2 * x14))) > IntKind.wrap .i64 (IntKind.wrap .i64 (n3 * x13) - IntKind.wrap .i64 (n2 * x14)) then IntKind.wrap .i64 (0 - IntKind.wrap .i64 (IntKind.wrap .i64 (n3 * x13) - IntKind.wrap .i64 (n2 * x14))) else IntKind.wrap .i64 (IntKind.wrap .i64 (n3 * x13) - IntKind.wrap .i64 (n2 * x14))))), (vI x16)] 24 false 2)), (Prod.mk 501 (AObj.sym (l17) false 2)), (Prod.mk 500 (AObj.sym (l18) false 2))])))))
 False)))))
 False)
 False)
 (X 0 [(Prod.mk 6 (Pt 1000 0)), (Prod.mk 8 (Pt 1001 0))] [(Prod.mk 1000 (AObj.cells [(vI x11), (vI x12)] 24 false 2)), (Prod.mk 1001 (AObj.cells [(vI x15), (vI x16)] 24 false 2))])) := by kernel_rfl
def nlA2 (C : Ct) (L : AtLoop) (x0 : Int) (x1 : Int) (x2 : Int) (x3 : Int) (k : List D → Prop) : Prop := wpNext Try.prog (hL C) L 39 0 .normal [(6, (Value.pointer (some ⟨1000, 0, none⟩))), (8, (Value.pointer (some ⟨1001, 0, none⟩)))] [(1000, (AObj.cells [(Value.int .i64 x0), (Value.int .i64 x1)] 24 false 2)), (1001, (AObj.cells [(Value.int .i64 x2), (Value.int .i64 x3)] 24 false 2))] (dataK k)
theorem nlA2_text (C : Ct) (L : AtLoop) (x0 : Int) (x1 : Int) (x2 : Int) (x3 : Int) (k : List D → Prop) : nlA2 C L x0 x1 x2 x3 k =
 (k [(D.agg [(D.val (vI x2)), (D.val (vI x3))])]) := by kernel_rfl
def gLO (C : Ct) (L : AtLoop) (n0 : Nat) (c0 : Nat) (l0 : List Value) (x1 : Int) (x2 : Int) (x3 : Int) (x4 : Int) (x5 : Int) (x6 : Int) (x7 : Int) (s8 : ByteArray) (n9 : Nat) (c9 : Nat) (l9 : List Value) (k : List D → Prop) : Prop := wpFn Try.prog (hL C) L 0 11 #[.agg #[.slice (some ⟨500, 0, none⟩) n0 c0, .int .i64 x1, .int .i64 x2, .int .i64 x3, .int .i64 x4, .int .i64 x5], .agg #[.int .i64 x6, .int .i64 x7], .agg #[.string s8, .slice (some ⟨501, 0, none⟩) n9 c9]] (heapOf [(500, .sym l0 false 2), (501, .sym l9 false 2)]) (dataK k)
theorem gLO_text (C : Ct) (L : AtLoop) (n0 : Nat) (c0 : Nat) (l0 : List Go.Value) (x1 : Int) (x2 : Int) (x3 : Int) (x4 : Int) (x5 : Int) (x6 : Int) (x7 : Int) (s8 : ByteArray) (n9 : Nat) (c9 : Nat) (l9 : List Go.Value) (k : List D → Prop) : gLO C L n0 c0 l0 x1 x2 x3 x4 x5 x6 x7 s8 n9 c9 l9 k =
 (bcase (decide (0 + n0 * 2 ≤ List.length l0))
 (∃ n1 : Int,
 (∃ n2 : Int,
 ((Says C 33 [(D.agg [(D.sl (n0) 2 (List.take (n0 * 2) (List.drop 0 l0))), (D.val (vI x1)), (D.val (vI x2)), (D.val (vI x3)), (D.val (vI x4)), (D.val (vI x5))])] [(D.val (vI n1)), (D.val (vI n2))]) ∧
 ((((Qv (Sl 1008 1 1)) ∧
 (Qv (some (AObj.cells [(vI x7)] 3 false 1)))) ∧
 ((Qv (vI x7)) ∧
 ((Qv (Pt 1005 1)) ∧
 ((Qv (vI x5)) ∧
 ((Qv (Pt 1004 5)) ∧
 (((Qv (Sl 1007 1 1)) ∧
 (Qv (some (AObj.cells [(vI x6)] 3 false 1)))) ∧
 ((Qv (vI x6)) ∧
 ((Qv (Pt 1005 0)) ∧
 ((Qv (vI n2)) ∧
 True))))))))) ∧
 ((((Qv (Sl 1008 1 1)) ∧
 (Qv (some (AObj.cells [(vI x7)] 3 false 1)))) ∧
 ((Qv (vI x7)) ∧
 ((Qv (Pt 1005 1)) ∧
 ((Qv (vI x5)) ∧
 ((Qv (Pt 1004 5)) ∧
 (((Qv (Sl 1007 1 1)) ∧
 (Qv (some (AObj.cells [(vI x6)] 3 false 1)))) ∧
 ((Qv (vI x6)) ∧
 ((Qv (Pt 1005 0)) ∧
 ((Qv (vI n2)) ∧
 True))))))))) ∧
 (∃ e1 : Int,
 ((Says limC 0 [(D.val (vI 0)), (D.val (vI 1000000)), (D.sl 1 1 [(vI x6)])] [(D.val (vI e1))]) ∧
 ((((Qv (Sl 1008 1 1)) ∧
 (Qv (some (AObj.cells [(vI x7)] 3 false 1)))) ∧
 ((Qv (vI x7)) ∧
 ((Qv (Pt 1005 1)) ∧
 ((Qv (vI x5)) ∧
 ((Qv (Pt 1004 5)) ∧
 ((Qv (vI x6)) ∧
 ((Qv (Pt 1005 0)) ∧
 ((Qv (vI n2)) ∧
 True)))))))) ∧
 ((((Qv (Sl 1008 1 1)) ∧
 (Qv (some (AObj.cells [(vI x7)] 3 false 1)))) ∧
 ((Qv (vI x7)) ∧
 ((Qv (Pt 1005 1)) ∧
 ((Qv (Pt 1004 5)) ∧
 ((Qv (vI x6)) ∧
 ((Qv (Pt 1005 0)) ∧
 ((Qv (vI n2)) ∧
 True))))))) ∧
 (∃ e2 : Int,
 ((Says limC 0 [(D.val (vI 0)), (D.val (vI x5)), (D.sl 1 1 [(vI x7)])] [(D.val (vI e2))]) ∧
 ((((Qv (Sl 1013 3 3)) ∧
 (Qv (some (AObj.cells [(vI n2), (vI e1), (vI e2)] 35 false 1)))) ∧
 ((Qv (vI x7)) ∧
 ((Qv (Pt 1005 1)) ∧
 ((Qv (Pt 1004 5)) ∧
 ((Qv (vI x6)) ∧
 ((Qv (Pt 1005 0)) ∧
 ((Qv (vI n2)) ∧
 True))))))) ∧
 (∃ n3 : Int,
 ((Says C 37 [(D.sl 3 1 [(vI n2), (vI e1), (vI e2)])] [(D.val (vI n3))]) ∧
 (((Qv (vI x7)) ∧
 ((Qv (Pt 1005 1)) ∧
 ((Qv (Pt 1004 5)) ∧
 ((Qv (vI x6)) ∧
 ((Qv (Pt 1005 0)) ∧
 ((Qv (vI n2)) ∧
 True)))))) ∧
 (True ∧
 (bcase (n3 != 0)
 (bcase (decide (0 + n9 * 2 ≤ List.length l9))
 (∃ n4 : Int,
 (∃ n5 : Int,
 ((Says C 34 [(D.agg [(D.val (Value.string (s8))), (D.sl (n9) 2 (List.take (n9 * 2) (List.drop 0 l9)))])] [(D.val (vI n4)), (D.val (vI n5))]) ∧
 (∃ n6 : Int,
 ((Says C 37 [(D.sl 2 1 [(vI n3), (vI n5)])] [(D.val (vI n6))]) ∧
 (bcase (n6 != 0)
 (k [(D.agg [(D.val (vI 0)), (D.val (vI 0))]), (D.val (vI n6))])
 (bcase (decide (0 + n9 * 2 ≤ List.length l9))
 (∃ n7 : Int,
 (∃ n8 : Int,
 ((Says C 39 [(D.agg [D.nil, (D.val (vI 0)), (D.val (vI 0)), (D.val (vI 0)), (D.val (vI 0)), (D.val (vI 0))]), (D.agg [(D.val (Value.string (s8))), (D.sl (n9) 2 (List.take (n9 * 2) (List.drop 0 l9)))]), (D.val (vI x7))] [(D.agg [(D.val (vI n7)), (D.val (vI n8))])]) ∧
 (∃ n10 : Int,
 (∃ n11 : Int,
 (∃ n12 : Int,
 ((Says C 38 [(D.agg [(D.val (vI n7)), (D.val (vI n8))])] [(D.agg [(D.val (vI n10)), (D.val (vI n11))]), (D.val (vI n12))]) ∧
 (k [(D.agg [(D.val (vI n10)), (D.val (vI n11))]), (D.val (vI n12))]))))))))
 False)))))))
 False)
 (bcase (decide (0 + n9 * 2 ≤ List.length l9))
 (∃ n4 : Int,
 (∃ n5 : Int,
 ((Says C 34 [(D.agg [(D.val (Value.string (s8))), (D.sl (n9) 2 (List.take (n9 * 2) (List.drop 0 l9)))])] [(D.val (vI n4)), (D.val (vI n5))]) ∧
 (∃ n6 : Int,
 ((Says C 37 [(D.sl 2 1 [(vI 0), (vI n5)])] [(D.val (vI n6))]) ∧
 (bcase (n6 != 0)
 (k [(D.agg [(D.val (vI 0)), (D.val (vI 0))]), (D.val (vI n6))])
 (bcase (decide (0 + n0 * 2 ≤ List.length l0))
 (bcase (decide (0 + n9 * 2 ≤ List.length l9))
 (∃ n7 : Int,
 (∃ n8 : Int,
 ((Says C 39 [(D.agg [(D.sl (n0) 2 (List.take (n0 * 2) (List.drop 0 l0))), (D.val (vI x1)), (D.val (vI x2)), (D.val (vI x3)), (D.val (vI x4)), (D.val (vI x5))]), (D.agg [(D.val (Value.string (s8))), (D.sl (n9) 2 (List.take (n9 * 2) (List.drop 0 l9)))]), (D.val (vI x7))] [(D.agg [(D.val (vI n7)), (D.val (vI n8))])]) ∧
 (∃ n10 : Int,
 (∃ n11 : Int,
 (∃ n12 : Int,
 ((Says C 38 [(D.agg [(D.val (vI n7)), (D.val (vI n8))])] [(D.agg [(D.val (vI n10)), (D.val (vI n11))]), (D.val (vI n12))]) ∧
 (k [(D.agg [(D.val (vI n10)), (D.val (vI n11))]), (D.val (vI n12))]))))))))
 False)
 False)))))))
 False))))))))))))))))))
 False) := by kernel_rfl
def gcG (C : Ct) (L : AtLoop) (x0 : Int) (x1 : Int) (x2 : Int) (k : List D → Prop) : Prop := wpFn Try.prog (hL C) L 0 40 #[.agg #[.int .i64 x0, .int .i64 x1], .int .i64 x2] (heapOf []) (dataK k)
theorem gcG_text (C : Ct) (L : AtLoop) (x0 : Int) (x1 : Int) (x2 : Int) (k : List D → Prop) : gcG C L x0 x1 x2 k =
 (bcase (decide (IntKind.wrap .i64 (x0 + x2) > 1000000))
 (k [(D.val (vI 8))])
 (k [(D.val (vI 0))])) := by kernel_rfl
def gLE (C : Ct) (n0 : Nat) (c0 : Nat) (l0 : List Value) (x1 : Int) (x2 : Int) (x3 : Int) (x4 : Int) (x5 : Int) (x6 : Int) (x7 : Int) (s8 : ByteArray) (n9 : Nat) (c9 : Nat) (l9 : List Value) (k : List D → Prop) : Prop := wpFn Try.prog (hL C) (fun _ _ _ => False) 8 12 #[.agg #[.slice (some ⟨500, 0, none⟩) n0 c0, .int .i64 x1, .int .i64 x2, .int .i64 x3, .int .i64 x4, .int .i64 x5], .agg #[.int .i64 x6, .int .i64 x7], .agg #[.string s8, .slice (some ⟨501, 0, none⟩) n9 c9]] (heapOf [(500, .sym l0 false 2), (501, .sym l9 false 2)]) (dataK k)
theorem gLE_text (C : Ct) (n0 : Nat) (c0 : Nat) (l0 : List Go.Value) (x1 : Int) (x2 : Int) (x3 : Int) (x4 : Int) (x5 : Int) (x6 : Int) (x7 : Int) (s8 : ByteArray) (n9 : Nat) (c9 : Nat) (l9 : List Go.Value) (k : List D → Prop) : gLE C n0 c0 l0 x1 x2 x3 x4 x5 x6 x7 s8 n9 c9 l9 k =
 (bcase (decide (0 + n0 * 2 ≤ List.length l0))
 (∃ n1 : Int,
 (∃ n2 : Int,
 ((Says C 33 [(D.agg [(D.sl (n0) 2 (List.take (n0 * 2) (List.drop 0 l0))), (D.val (vI x1)), (D.val (vI x2)), (D.val (vI x3)), (D.val (vI x4)), (D.val (vI x5))])] [(D.val (vI n1)), (D.val (vI n2))]) ∧
 ((((Qv (Sl 1008 1 1)) ∧
 (Qv (some (AObj.cells [(vI x7)] 3 false 1)))) ∧
 ((Qv (vI x7)) ∧
 ((Qv (Pt 1005 1)) ∧
 ((Qv (vI x5)) ∧
 ((Qv (Pt 1004 5)) ∧
 (((Qv (Sl 1007 1 1)) ∧
 (Qv (some (AObj.cells [(vI x6)] 3 false 1)))) ∧
 ((Qv (vI x6)) ∧
 ((Qv (Pt 1005 0)) ∧
 ((Qv (vI n2)) ∧
 True))))))))) ∧
 ((((Qv (Sl 1008 1 1)) ∧
 (Qv (some (AObj.cells [(vI x7)] 3 false 1)))) ∧
 ((Qv (vI x7)) ∧
 ((Qv (Pt 1005 1)) ∧
 ((Qv (vI x5)) ∧
 ((Qv (Pt 1004 5)) ∧
 (((Qv (Sl 1007 1 1)) ∧
 (Qv (some (AObj.cells [(vI x6)] 3 false 1)))) ∧
 ((Qv (vI x6)) ∧
 ((Qv (Pt 1005 0)) ∧
 ((Qv (vI n2)) ∧
 True))))))))) ∧
 (∃ e1 : Int,
 ((Says limC 0 [(D.val (vI 0)), (D.val (vI 1000000)), (D.sl 1 1 [(vI x6)])] [(D.val (vI e1))]) ∧
 ((((Qv (Sl 1008 1 1)) ∧
 (Qv (some (AObj.cells [(vI x7)] 3 false 1)))) ∧
 ((Qv (vI x7)) ∧
 ((Qv (Pt 1005 1)) ∧
 ((Qv (vI x5)) ∧
 ((Qv (Pt 1004 5)) ∧
 ((Qv (vI x6)) ∧
 ((Qv (Pt 1005 0)) ∧
 ((Qv (vI n2)) ∧
 True)))))))) ∧
 ((((Qv (Sl 1008 1 1)) ∧
 (Qv (some (AObj.cells [(vI x7)] 3 false 1)))) ∧
 ((Qv (vI x7)) ∧
 ((Qv (Pt 1005 1)) ∧
 ((Qv (Pt 1004 5)) ∧
 ((Qv (vI x6)) ∧
 ((Qv (Pt 1005 0)) ∧
 ((Qv (vI n2)) ∧
 True))))))) ∧
 (∃ e2 : Int,
 ((Says limC 0 [(D.val (vI 0)), (D.val (vI x5)), (D.sl 1 1 [(vI x7)])] [(D.val (vI e2))]) ∧
 ((((Qv (Sl 1013 3 3)) ∧
 (Qv (some (AObj.cells [(vI n2), (vI e1), (vI e2)] 35 false 1)))) ∧
 ((Qv (vI x7)) ∧
 ((Qv (Pt 1005 1)) ∧
 ((Qv (Pt 1004 5)) ∧
 ((Qv (vI x6)) ∧
 ((Qv (Pt 1005 0)) ∧
 ((Qv (vI n2)) ∧
 True))))))) ∧
 (∃ n3 : Int,
 ((Says C 37 [(D.sl 3 1 [(vI n2), (vI e1), (vI e2)])] [(D.val (vI n3))]) ∧
 (((Qv (vI x7)) ∧
 ((Qv (Pt 1005 1)) ∧
 ((Qv (Pt 1004 5)) ∧
 ((Qv (vI x6)) ∧
 ((Qv (Pt 1005 0)) ∧
 ((Qv (vI n2)) ∧
 True)))))) ∧
 (True ∧
 (bcase (n3 != 0)
 (bcase (decide (0 + n9 * 2 ≤ List.length l9))
 (∃ n4 : Int,
 (∃ n5 : Int,
 ((Says C 34 [(D.agg [(D.val (Value.string (s8))), (D.sl (n9) 2 (List.take (n9 * 2) (List.drop 0 l9)))])] [(D.val (vI n4)), (D.val (vI n5))]) ∧
 (∃ n6 : Int,
 ((Says C 40 [(D.agg [(D.val (vI x6)), (D.val (vI x7))]), (D.val (vI 1))] [(D.val (vI n6))]) ∧
 (∃ n7 : Int,
 ((Says C 37 [(D.sl 3 1 [(vI n3), (vI n5), (vI n6)])] [(D.val (vI n7))]) ∧
 (bcase (n7 != 0)
 (k [(D.agg [(D.val (vI 0)), (D.val (vI 0))]), (D.val (vI n7))])
 (∃ e3 : Int,
 ((Says limC 0 [(D.val (vI 0)), (D.val (vI 0)), (D.sl 1 1 [(vI x7)])] [(D.val (vI e3))]) ∧
 (bcase (e3 != 0)
 (∃ e4 : Int,
 ((Says limC 0 [(D.val (vI 0)), (D.val (vI 0)), (D.sl 1 1 [(vI (IntKind.wrap .i64 (x7 - 1)))])] [(D.val (vI e4))]) ∧
 (bcase (e4 != 0)
 (∃ e5 : Int,
 ((Says limC 0 [(D.val (vI 0)), (D.val (vI 0)), (D.sl 1 1 [(vI (IntKind.wrap .i64 (x7 + 1)))])] [(D.val (vI e5))]) ∧
 (bcase (e5 != 0)
 (((Qv (Sl 1020 0 3)) ∧
 ((Qv (Value.agg [(Value.string (s8)), (Sl 501 (n9) (c9))].toArray)) ∧
 ((Qv (Value.agg [(Value.slice none 0 0), (vI 0), (vI 0), (vI 0), (vI 0), (vI 0)].toArray)) ∧
 ((Qv (vI (IntKind.wrap .i64 (x6 + 1)))) ∧
 ((Qv (vI x6)) ∧
 ((Qv (Pt 1017 0)) ∧
 True)))))) ∧
 False)
 (((Qv (Sl 1020 1 3)) ∧
 ((Qv (Value.agg [(Value.string (s8)), (Sl 501 (n9) (c9))].toArray)) ∧
 ((Qv (Value.agg [(Value.slice none 0 0), (vI 0), (vI 0), (vI 0), (vI 0), (vI 0)].toArray)) ∧
 ((Qv (vI (IntKind.wrap .i64 (x6 + 1)))) ∧
 ((Qv (vI x6)) ∧
 ((Qv (Pt 1017 0)) ∧
 True)))))) ∧
 (((Qv (Value.agg [(vI (IntKind.wrap .i64 (x6 + 1))), (vI (IntKind.wrap .i64 (x7 + 1)))].toArray)) ∧
 ((Qv (vI (IntKind.wrap .i64 (x6 + 1)))) ∧
 ((Qv (vI x6)) ∧
 ((Qv (Pt 1017 0)) ∧
 True)))) ∧
 (True ∧
 (k [(D.agg [(D.val (vI (IntKind.wrap .i64 (x6 + 1)))), (D.val (vI (IntKind.wrap .i64 (x7 + 1))))]), (D.val (vI 0))])))))))
 (∃ e5 : Int,
 ((Says limC 0 [(D.val (vI 0)), (D.val (vI 0)), (D.sl 1 1 [(vI (IntKind.wrap .i64 (x7 + 1)))])] [(D.val (vI e5))]) ∧
 (bcase (e5 != 0)
 (((Qv (Sl 1020 1 3)) ∧
 ((Qv (Value.agg [(Value.string (s8)), (Sl 501 (n9) (c9))].toArray)) ∧
 ((Qv (Value.agg [(Value.slice none 0 0), (vI 0), (vI 0), (vI 0), (vI 0), (vI 0)].toArray)) ∧
 ((Qv (vI (IntKind.wrap .i64 (x6 + 1)))) ∧
 ((Qv (vI x6)) ∧
 ((Qv (Pt 1017 0)) ∧
 True)))))) ∧
 (((Qv (Value.agg [(vI (IntKind.wrap .i64 (x6 + 1))), (vI (IntKind.wrap .i64 (x7 - 1)))].toArray)) ∧
 ((Qv (vI (IntKind.wrap .i64 (x6 + 1)))) ∧
 ((Qv (vI x6)) ∧
 ((Qv (Pt 1017 0)) ∧
 True)))) ∧
 (True ∧
 (k [(D.agg [(D.val (vI (IntKind.wrap .i64 (x6 + 1)))), (D.val (vI (IntKind.wrap .i64 (x7 - 1))))]), (D.val (vI 0))]))))
 (((Qv (Sl 1020 2 3)) ∧
 ((Qv (Value.agg [(Value.string (s8)), (Sl 501 (n9) (c9))].toArray)) ∧
 ((Qv (Value.agg [(Value.slice none 0 0), (vI 0), (vI 0), (vI 0), (vI 0), (vI 0)].toArray)) ∧
 ((Qv (vI (IntKind.wrap .i64 (x6 + 1)))) ∧
 ((Qv (vI x6)) ∧
 ((Qv (Pt 1017 0)) ∧
 True)))))) ∧
 (((Qv (vI (IntKind.wrap .i64 (x7 - 1)))) ∧
 ((Qv (Value.agg [(Value.string (s8)), (Sl 501 (n9) (c9))].toArray)) ∧
 ((Qv (Value.agg [(Value.slice none 0 0), (vI 0), (vI 0), (vI 0), (vI 0), (vI 0)].toArray)) ∧
 ((Qv (vI (IntKind.wrap .i64 (x7 + 1)))) ∧
 ((Qv (Value.agg [(Value.string (s8)), (Sl 501 (n9) (c9))].toArray)) ∧
 ((Qv (Value.agg [(Value.slice none 0 0), (vI 0), (vI 0), (vI 0), (vI 0), (vI 0)].toArray)) ∧
 True)))))) ∧
 (bcase (decide (0 + n9 * 2 ≤ List.length l9))
 (∃ n8 : Int,
 (∃ n10 : Int,
 ((Says C 39 [(D.agg [D.nil, (D.val (vI 0)), (D.val (vI 0)), (D.val (vI 0)), (D.val (vI 0)), (D.val (vI 0))]), (D.agg [(D.val (Value.string (s8))), (D.sl (n9) 2 (List.take (n9 * 2) (List.drop 0 l9)))]), (D.val (vI (IntKind.wrap .i64 (x7 + 1))))] [(D.agg [(D.val (vI n8)), (D.val (vI n10))])]) ∧
 (((Qv (vI n8)) ∧
 ((Qv (vI (IntKind.wrap .i64 (x7 - 1)))) ∧
 ((Qv (Value.agg [(Value.string (s8)), (Sl 501 (n9) (c9))].toArray)) ∧
 ((Qv (Value.agg [(Value.slice none 0 0), (vI 0), (vI 0), (vI 0), (vI 0), (vI 0)].toArray)) ∧
 True)))) ∧
 (bcase (decide (0 + n9 * 2 ≤ List.length l9))
 (∃ n11 : Int,
 (∃ n12 : Int,
 ((Says C 39 [(D.agg [D.nil, (D.val (vI 0)), (D.val (vI 0)), (D.val (vI 0)), (D.val (vI 0)), (D.val (vI 0))]), (D.agg [(D.val (Value.string (s8))), (D.sl (n9) 2 (List.take (n9 * 2) (List.drop 0 l9)))]), (D.val (vI (IntKind.wrap .i64 (x7 - 1))))] [(D.agg [(D.val (vI n11)), (D.val (vI n12))])]) ∧
 (((Qv (vI n11)) ∧
 ((Qv (vI n8)) ∧
 True)) ∧
 (bcase (n8 != n8)
 (bcase (n11 != n11)
 (True ∧
 (True ∧
 (((Qv (Value.agg [(vI (IntKind.wrap .i64 (x6 + 1))), (vI (IntKind.wrap .i64 (x7 - 1)))].toArray)) ∧
 ((Qv (vI (IntKind.wrap .i64 (x6 + 1)))) ∧
 ((Qv (vI x6)) ∧
 ((Qv (Pt 1017 0)) ∧
 True)))) ∧
 (True ∧
 (k [(D.agg [(D.val (vI (IntKind.wrap .i64 (x6 + 1)))), (D.val (vI (IntKind.wrap .i64 (x7 - 1))))]), (D.val (vI 0))])))))
 (True ∧
 (True ∧
 (((Qv (Value.agg [(vI (IntKind.wrap .i64 (x6 + 1))), (vI (IntKind.wrap .i64 (x7 + 1)))].toArray)) ∧
 ((Qv (vI (IntKind.wrap .i64 (x6 + 1)))) ∧
 ((Qv (vI x6)) ∧
 ((Qv (Pt 1017 0)) ∧
 True)))) ∧
 (True ∧
 (k [(D.agg [(D.val (vI (IntKind.wrap .i64 (x6 + 1)))), (D.val (vI (IntKind.wrap .i64 (x7 + 1))))]), (D.val (vI 0))]))))))
 (bcase (n11 != n11)
 (True ∧
 (True ∧
 (((Qv (Value.agg [(vI (IntKind.wrap .i64 (x6 + 1))), (vI (IntKind.wrap .i64 (x7 - 1)))].toArray)) ∧
 ((Qv (vI (IntKind.wrap .i64 (x6 + 1)))) ∧
 ((Qv (vI x6)) ∧
 ((Qv (Pt 1017 0)) ∧
 True)))) ∧
 (True ∧
 (k [(D.agg [(D.val (vI (IntKind.wrap .i64 (x6 + 1)))), (D.val (vI (IntKind.wrap .i64 (x7 - 1))))]), (D.val (vI 0))])))))
 (bcase (decide (n8 < n11))
 (True ∧
 (True ∧
 (((Qv (Value.agg [(vI (IntKind.wrap .i64 (x6 + 1))), (vI (IntKind.wrap .i64 (x7 + 1)))].toArray)) ∧
 ((Qv (vI (IntKind.wrap .i64 (x6 + 1)))) ∧
 ((Qv (vI x6)) ∧
 ((Qv (Pt 1017 0)) ∧
 True)))) ∧
 (True ∧
 (k [(D.agg [(D.val (vI (IntKind.wrap .i64 (x6 + 1)))), (D.val (vI (IntKind.wrap .i64 (x7 + 1))))]), (D.val (vI 0))])))))
 (bcase (decide (n8 > n11))
 (True ∧
 (True ∧
 (((Qv (Value.agg [(vI (IntKind.wrap .i64 (x6 + 1))), (vI (IntKind.wrap .i64 (x7 - 1)))].toArray)) ∧
 ((Qv (vI (IntKind.wrap .i64 (x6 + 1)))) ∧
 ((Qv (vI x6)) ∧
 ((Qv (Pt 1017 0)) ∧
 True)))) ∧
 (True ∧
 (k [(D.agg [(D.val (vI (IntKind.wrap .i64 (x6 + 1)))), (D.val (vI (IntKind.wrap .i64 (x7 - 1))))]), (D.val (vI 0))])))))
 (True ∧
 (True ∧
 (((Qv (Value.agg [(vI (IntKind.wrap .i64 (x6 + 1))), (vI (IntKind.wrap .i64 (x7 - 1)))].toArray)) ∧
 ((Qv (vI (IntKind.wrap .i64 (x6 + 1)))) ∧
 ((Qv (vI x6)) ∧
 ((Qv (Pt 1017 0)) ∧
 True)))) ∧
 (True ∧
 (k [(D.agg [(D.val (vI (IntKind.wrap .i64 (x6 + 1)))), (D.val (vI (IntKind.wrap .i64 (x7 - 1))))]), (D.val (vI 0))])))))))))))))
 False)))))
 False)))))))))
 (∃ e4 : Int,
 ((Says limC 0 [(D.val (vI 0)), (D.val (vI 0)), (D.sl 1 1 [(vI (IntKind.wrap .i64 (x7 - 1)))])] [(D.val (vI e4))]) ∧
 (bcase (e4 != 0)
 (∃ e5 : Int,
 ((Says limC 0 [(D.val (vI 0)), (D.val (vI 0)), (D.sl 1 1 [(vI (IntKind.wrap .i64 (x7 + 1)))])] [(D.val (vI e5))]) ∧
 (bcase (e5 != 0)
 (((Qv (Sl 1020 1 3)) ∧
 ((Qv (Value.agg [(Value.string (s8)), (Sl 501 (n9) (c9))].toArray)) ∧
 ((Qv (Value.agg [(Value.slice none 0 0), (vI 0), (vI 0), (vI 0), (vI 0), (vI 0)].toArray)) ∧
 ((Qv (vI (IntKind.wrap .i64 (x6 + 1)))) ∧
 ((Qv (vI x6)) ∧
 ((Qv (Pt 1017 0)) ∧
 True)))))) ∧
 (((Qv (Value.agg [(vI (IntKind.wrap .i64 (x6 + 1))), (vI x7)].toArray)) ∧
 ((Qv (vI (IntKind.wrap .i64 (x6 + 1)))) ∧
 ((Qv (vI x6)) ∧
 ((Qv (Pt 1017 0)) ∧
 True)))) ∧
 (True ∧
 (k [(D.agg [(D.val (vI (IntKind.wrap .i64 (x6 + 1)))), (D.val (vI x7))]), (D.val (vI 0))]))))
 (((Qv (Sl 1020 2 3)) ∧
 ((Qv (Value.agg [(Value.string (s8)), (Sl 501 (n9) (c9))].toArray)) ∧
 ((Qv (Value.agg [(Value.slice none 0 0), (vI 0), (vI 0), (vI 0), (vI 0), (vI 0)].toArray)) ∧
 ((Qv (vI (IntKind.wrap .i64 (x6 + 1)))) ∧
 ((Qv (vI x6)) ∧
 ((Qv (Pt 1017 0)) ∧
 True)))))) ∧
 (((Qv (vI x7)) ∧
 ((Qv (Value.agg [(Value.string (s8)), (Sl 501 (n9) (c9))].toArray)) ∧
 ((Qv (Value.agg [(Value.slice none 0 0), (vI 0), (vI 0), (vI 0), (vI 0), (vI 0)].toArray)) ∧
 ((Qv (vI (IntKind.wrap .i64 (x7 + 1)))) ∧
 ((Qv (Value.agg [(Value.string (s8)), (Sl 501 (n9) (c9))].toArray)) ∧
 ((Qv (Value.agg [(Value.slice none 0 0), (vI 0), (vI 0), (vI 0), (vI 0), (vI 0)].toArray)) ∧
 True)))))) ∧
 (bcase (decide (0 + n9 * 2 ≤ List.length l9))
 (∃ n8 : Int,
 (∃ n10 : Int,
 ((Says C 39 [(D.agg [D.nil, (D.val (vI 0)), (D.val (vI 0)), (D.val (vI 0)), (D.val (vI 0)), (D.val (vI 0))]), (D.agg [(D.val (Value.string (s8))), (D.sl (n9) 2 (List.take (n9 * 2) (List.drop 0 l9)))]), (D.val (vI (IntKind.wrap .i64 (x7 + 1))))] [(D.agg [(D.val (vI n8)), (D.val (vI n10))])]) ∧
 (((Qv (vI n8)) ∧
 ((Qv (vI x7)) ∧
 ((Qv (Value.agg [(Value.string (s8)), (Sl 501 (n9) (c9))].toArray)) ∧
 ((Qv (Value.agg [(Value.slice none 0 0), (vI 0), (vI 0), (vI 0), (vI 0), (vI 0)].toArray)) ∧
 True)))) ∧
 (bcase (decide (0 + n9 * 2 ≤ List.length l9))
 (∃ n11 : Int,
 (∃ n12 : Int,
 ((Says C 39 [(D.agg [D.nil, (D.val (vI 0)), (D.val (vI 0)), (D.val (vI 0)), (D.val (vI 0)), (D.val (vI 0))]), (D.agg [(D.val (Value.string (s8))), (D.sl (n9) 2 (List.take (n9 * 2) (List.drop 0 l9)))]), (D.val (vI x7))] [(D.agg [(D.val (vI n11)), (D.val (vI n12))])]) ∧
 (((Qv (vI n11)) ∧
 ((Qv (vI n8)) ∧
 True)) ∧
 (bcase (n8 != n8)
 (bcase (n11 != n11)
 (True ∧
 (True ∧
 (((Qv (Value.agg [(vI (IntKind.wrap .i64 (x6 + 1))), (vI x7)].toArray)) ∧
 ((Qv (vI (IntKind.wrap .i64 (x6 + 1)))) ∧
 ((Qv (vI x6)) ∧
 ((Qv (Pt 1017 0)) ∧
 True)))) ∧
 (True ∧
 (k [(D.agg [(D.val (vI (IntKind.wrap .i64 (x6 + 1)))), (D.val (vI x7))]), (D.val (vI 0))])))))
 (True ∧
 (True ∧
 (((Qv (Value.agg [(vI (IntKind.wrap .i64 (x6 + 1))), (vI (IntKind.wrap .i64 (x7 + 1)))].toArray)) ∧
 ((Qv (vI (IntKind.wrap .i64 (x6 + 1)))) ∧
 ((Qv (vI x6)) ∧
 ((Qv (Pt 1017 0)) ∧
 True)))) ∧
 (True ∧
 (k [(D.agg [(D.val (vI (IntKind.wrap .i64 (x6 + 1)))), (D.val (vI (IntKind.wrap .i64 (x7 + 1))))]), (D.val (vI 0))]))))))
 (bcase (n11 != n11)
 (True ∧
 (True ∧
 (((Qv (Value.agg [(vI (IntKind.wrap .i64 (x6 + 1))), (vI x7)].toArray)) ∧
 ((Qv (vI (IntKind.wrap .i64 (x6 + 1)))) ∧
 ((Qv (vI x6)) ∧
 ((Qv (Pt 1017 0)) ∧
 True)))) ∧
 (True ∧
 (k [(D.agg [(D.val (vI (IntKind.wrap .i64 (x6 + 1)))), (D.val (vI x7))]), (D.val (vI 0))])))))
 (bcase (decide (n8 < n11))
 (True ∧
 (True ∧
 (((Qv (Value.agg [(vI (IntKind.wrap .i64 (x6 + 1))), (vI (IntKind.wrap .i64 (x7 + 1)))].toArray)) ∧
 ((Qv (vI (IntKind.wrap .i64 (x6 + 1)))) ∧
 ((Qv (vI x6)) ∧
 ((Qv (Pt 1017 0)) ∧
 True)))) ∧
 (True ∧
 (k [(D.agg [(D.val (vI (IntKind.wrap .i64 (x6 + 1)))), (D.val (vI (IntKind.wrap .i64 (x7 + 1))))]), (D.val (vI 0))])))))
 (bcase (decide (n8 > n11))
 (True ∧
 (True ∧
 (((Qv (Value.agg [(vI (IntKind.wrap .i64 (x6 + 1))), (vI x7)].toArray)) ∧
 ((Qv (vI (IntKind.wrap .i64 (x6 + 1)))) ∧
 ((Qv (vI x6)) ∧
 ((Qv (Pt 1017 0)) ∧
 True)))) ∧
 (True ∧
 (k [(D.agg [(D.val (vI (IntKind.wrap .i64 (x6 + 1)))), (D.val (vI x7))]), (D.val (vI 0))])))))
 (True ∧
 (True ∧
 (((Qv (Value.agg [(vI (IntKind.wrap .i64 (x6 + 1))), (vI x7)].toArray)) ∧
 ((Qv (vI (IntKind.wrap .i64 (x6 + 1)))) ∧
 ((Qv (vI x6)) ∧
 ((Qv (Pt 1017 0)) ∧
 True)))) ∧
 (True ∧
 (k [(D.agg [(D.val (vI (IntKind.wrap .i64 (x6 + 1)))), (D.val (vI x7))]), (D.val (vI 0))])))))))))))))
 False)))))
 False))))))
 (∃ e5 : Int,
 ((Says limC 0 [(D.val (vI 0)), (D.val (vI 0)), (D.sl 1 1 [(vI (IntKind.wrap .i64 (x7 + 1)))])] [(D.val (vI e5))]) ∧
 (bcase (e5 != 0)
 (((Qv (Sl 1020 2 3)) ∧
 ((Qv (Value.agg [(Value.string (s8)), (Sl 501 (n9) (c9))].toArray)) ∧
 ((Qv (Value.agg [(Value.slice none 0 0), (vI 0), (vI 0), (vI 0), (vI 0), (vI 0)].toArray)) ∧
 ((Qv (vI (IntKind.wrap .i64 (x6 + 1)))) ∧
 ((Qv (vI x6)) ∧
 ((Qv (Pt 1017 0)) ∧
 True)))))) ∧
 (((Qv (vI x7)) ∧
 ((Qv (Value.agg [(Value.string (s8)), (Sl 501 (n9) (c9))].toArray)) ∧
 ((Qv (Value.agg [(Value.slice none 0 0), (vI 0), (vI 0), (vI 0), (vI 0), (vI 0)].toArray)) ∧
 ((Qv (vI (IntKind.wrap .i64 (x7 - 1)))) ∧
 ((Qv (Value.agg [(Value.string (s8)), (Sl 501 (n9) (c9))].toArray)) ∧
 ((Qv (Value.agg [(Value.slice none 0 0), (vI 0), (vI 0), (vI 0), (vI 0), (vI 0)].toArray)) ∧
 True)))))) ∧
 (bcase (decide (0 + n9 * 2 ≤ List.length l9))
 (∃ n8 : Int,
 (∃ n10 : Int,
 ((Says C 39 [(D.agg [D.nil, (D.val (vI 0)), (D.val (vI 0)), (D.val (vI 0)), (D.val (vI 0)), (D.val (vI 0))]), (D.agg [(D.val (Value.string (s8))), (D.sl (n9) 2 (List.take (n9 * 2) (List.drop 0 l9)))]), (D.val (vI (IntKind.wrap .i64 (x7 - 1))))] [(D.agg [(D.val (vI n8)), (D.val (vI n10))])]) ∧
 (((Qv (vI n8)) ∧
 ((Qv (vI x7)) ∧
 ((Qv (Value.agg [(Value.string (s8)), (Sl 501 (n9) (c9))].toArray)) ∧
 ((Qv (Value.agg [(Value.slice none 0 0), (vI 0), (vI 0), (vI 0), (vI 0), (vI 0)].toArray)) ∧
 True)))) ∧
 (bcase (decide (0 + n9 * 2 ≤ List.length l9))
 (∃ n11 : Int,
 (∃ n12 : Int,
 ((Says C 39 [(D.agg [D.nil, (D.val (vI 0)), (D.val (vI 0)), (D.val (vI 0)), (D.val (vI 0)), (D.val (vI 0))]), (D.agg [(D.val (Value.string (s8))), (D.sl (n9) 2 (List.take (n9 * 2) (List.drop 0 l9)))]), (D.val (vI x7))] [(D.agg [(D.val (vI n11)), (D.val (vI n12))])]) ∧
 (((Qv (vI n11)) ∧
 ((Qv (vI n8)) ∧
 True)) ∧
 (bcase (n8 != n8)
 (bcase (n11 != n11)
 (True ∧
 (True ∧
 (((Qv (Value.agg [(vI (IntKind.wrap .i64 (x6 + 1))), (vI x7)].toArray)) ∧
 ((Qv (vI (IntKind.wrap .i64 (x6 + 1)))) ∧
 ((Qv (vI x6)) ∧
 ((Qv (Pt 1017 0)) ∧
 True)))) ∧
 (True ∧
 (k [(D.agg [(D.val (vI (IntKind.wrap .i64 (x6 + 1)))), (D.val (vI x7))]), (D.val (vI 0))])))))
 (True ∧
 (True ∧
 (((Qv (Value.agg [(vI (IntKind.wrap .i64 (x6 + 1))), (vI (IntKind.wrap .i64 (x7 - 1)))].toArray)) ∧
 ((Qv (vI (IntKind.wrap .i64 (x6 + 1)))) ∧
 ((Qv (vI x6)) ∧
 ((Qv (Pt 1017 0)) ∧
 True)))) ∧
 (True ∧
 (k [(D.agg [(D.val (vI (IntKind.wrap .i64 (x6 + 1)))), (D.val (vI (IntKind.wrap .i64 (x7 - 1))))]), (D.val (vI 0))]))))))
 (bcase (n11 != n11)
 (True ∧
 (True ∧
 (((Qv (Value.agg [(vI (IntKind.wrap .i64 (x6 + 1))), (vI x7)].toArray)) ∧
 ((Qv (vI (IntKind.wrap .i64 (x6 + 1)))) ∧
 ((Qv (vI x6)) ∧
 ((Qv (Pt 1017 0)) ∧
 True)))) ∧
 (True ∧
 (k [(D.agg [(D.val (vI (IntKind.wrap .i64 (x6 + 1)))), (D.val (vI x7))]), (D.val (vI 0))])))))
 (bcase (decide (n8 < n11))
 (True ∧
 (True ∧
 (((Qv (Value.agg [(vI (IntKind.wrap .i64 (x6 + 1))), (vI (IntKind.wrap .i64 (x7 - 1)))].toArray)) ∧
 ((Qv (vI (IntKind.wrap .i64 (x6 + 1)))) ∧
 ((Qv (vI x6)) ∧
 ((Qv (Pt 1017 0)) ∧
 True)))) ∧
 (True ∧
 (k [(D.agg [(D.val (vI (IntKind.wrap .i64 (x6 + 1)))), (D.val (vI (IntKind.wrap .i64 (x7 - 1))))]), (D.val (vI 0))])))))
 (bcase (decide (n8 > n11))
 (True ∧
 (True ∧
 (((Qv (Value.agg [(vI (IntKind.wrap .i64 (x6 + 1))), (vI x7)].toArray)) ∧
 ((Qv (vI (IntKind.wrap .i64 (x6 + 1)))) ∧
 ((Qv (vI x6)) ∧
 ((Qv (Pt 1017 0)) ∧
 True)))) ∧
 (True ∧
 (k [(D.agg [(D.val (vI (IntKind.wrap .i64 (x6 + 1)))), (D.val (vI x7))]), (D.val (vI 0))])))))
 (True ∧
 (True ∧
 (((Qv (Value.agg [(vI (IntKind.wrap .i64 (x6 + 1))), (vI x7)].toArray)) ∧
 ((Qv (vI (IntKind.wrap .i64 (x6 + 1)))) ∧
 ((Qv (vI x6)) ∧
 ((Qv (Pt 1017 0)) ∧
 True)))) ∧
 (True ∧
 (k [(D.agg [(D.val (vI (IntKind.wrap .i64 (x6 + 1)))), (D.val (vI x7))]), (D.val (vI 0))])))))))))))))
 False)))))
 False)))
 (((Qv (Sl 1020 3 3)) ∧
 ((Qv (Value.agg [(Value.string (s8)), (Sl 501 (n9) (c9))].toArray)) ∧
 ((Qv (Value.agg [(Value.slice none 0 0), (vI 0), (vI 0), (vI 0), (vI 0), (vI 0)].toArray)) ∧
 ((Qv (vI (IntKind.wrap .i64 (x6 + 1)))) ∧
 ((Qv (vI x6)) ∧
 ((Qv (Pt 1017 0)) ∧
 True)))))) ∧
 (((Qv (vI x7)) ∧
 ((Qv (Value.agg [(Value.string (s8)), (Sl 501 (n9) (c9))].toArray)) ∧
 ((Qv (Value.agg [(Value.slice none 0 0), (vI 0), (vI 0), (vI 0), (vI 0), (vI 0)].toArray)) ∧
 ((Qv (vI (IntKind.wrap .i64 (x7 - 1)))) ∧
 ((Qv (Value.agg [(Value.string (s8)), (Sl 501 (n9) (c9))].toArray)) ∧
 ((Qv (Value.agg [(Value.slice none 0 0), (vI 0), (vI 0), (vI 0), (vI 0), (vI 0)].toArray)) ∧
 True)))))) ∧
 (bcase (decide (0 + n9 * 2 ≤ List.length l9))
 (∃ n8 : Int,
 (∃ n10 : Int,
 ((Says C 39 [(D.agg [D.nil, (D.val (vI 0)), (D.val (vI 0)), (D.val (vI 0)), (D.val (vI 0)), (D.val (vI 0))]), (D.agg [(D.val (Value.string (s8))), (D.sl (n9) 2 (List.take (n9 * 2) (List.drop 0 l9)))]), (D.val (vI (IntKind.wrap .i64 (x7 - 1))))] [(D.agg [(D.val (vI n8)), (D.val (vI n10))])]) ∧
 (((Qv (vI n8)) ∧
 ((Qv (vI x7)) ∧
 ((Qv (Value.agg [(Value.string (s8)), (Sl 501 (n9) (c9))].toArray)) ∧
 ((Qv (Value.agg [(Value.slice none 0 0), (vI 0), (vI 0), (vI 0), (vI 0), (vI 0)].toArray)) ∧
 True)))) ∧
 (bcase (decide (0 + n9 * 2 ≤ List.length l9))
 (∃ n11 : Int,
 (∃ n12 : Int,
 ((Says C 39 [(D.agg [D.nil, (D.val (vI 0)), (D.val (vI 0)), (D.val (vI 0)), (D.val (vI 0)), (D.val (vI 0))]), (D.agg [(D.val (Value.string (s8))), (D.sl (n9) 2 (List.take (n9 * 2) (List.drop 0 l9)))]), (D.val (vI x7))] [(D.agg [(D.val (vI n11)), (D.val (vI n12))])]) ∧
 (((Qv (vI n11)) ∧
 ((Qv (vI n8)) ∧
 True)) ∧
 (bcase (n8 != n8)
 (bcase (n11 != n11)
 (True ∧
 (True ∧
 (((Qv (vI x7)) ∧
 ((Qv (Value.agg [(Value.string (s8)), (Sl 501 (n9) (c9))].toArray)) ∧
 ((Qv (Value.agg [(Value.slice none 0 0), (vI 0), (vI 0), (vI 0), (vI 0), (vI 0)].toArray)) ∧
 ((Qv (vI (IntKind.wrap .i64 (x7 + 1)))) ∧
 ((Qv (Value.agg [(Value.string (s8)), (Sl 501 (n9) (c9))].toArray)) ∧
 ((Qv (Value.agg [(Value.slice none 0 0), (vI 0), (vI 0), (vI 0), (vI 0), (vI 0)].toArray)) ∧
 True)))))) ∧
 (bcase (decide (0 + n9 * 2 ≤ List.length l9))
 (∃ n13 : Int,
 (∃ n14 : Int,
 ((Says C 39 [(D.agg [D.nil, (D.val (vI 0)), (D.val (vI 0)), (D.val (vI 0)), (D.val (vI 0)), (D.val (vI 0))]), (D.agg [(D.val (Value.string (s8))), (D.sl (n9) 2 (List.take (n9 * 2) (List.drop 0 l9)))]), (D.val (vI (IntKind.wrap .i64 (x7 + 1))))] [(D.agg [(D.val (vI n13)), (D.val (vI n14))])]) ∧
 (((Qv (vI n13)) ∧
 ((Qv (vI x7)) ∧
 ((Qv (Value.agg [(Value.string (s8)), (Sl 501 (n9) (c9))].toArray)) ∧
 ((Qv (Value.agg [(Value.slice none 0 0), (vI 0), (vI 0), (vI 0), (vI 0), (vI 0)].toArray)) ∧
 True)))) ∧
 (bcase (decide (0 + n9 * 2 ≤ List.length l9))
 (∃ n15 : Int,
 (∃ n16 : Int,
 ((Says C 39 [(D.agg [D.nil, (D.val (vI 0)), (D.val (vI 0)), (D.val (vI 0)), (D.val (vI 0)), (D.val (vI 0))]), (D.agg [(D.val (Value.string (s8))), (D.sl (n9) 2 (List.take (n9 * 2) (List.drop 0 l9)))]), (D.val (vI x7))] [(D.agg [(D.val (vI n15)), (D.val (vI n16))])]) ∧
 (((Qv (vI n15)) ∧
 ((Qv (vI n13)) ∧
 True)) ∧
 (bcase (n13 != n13)
 (bcase (n15 != n15)
 (True ∧
 (True ∧
 (((Qv (Value.agg [(vI (IntKind.wrap .i64 (x6 + 1))), (vI x7)].toArray)) ∧
 ((Qv (vI (IntKind.wrap .i64 (x6 + 1)))) ∧
 ((Qv (vI x6)) ∧
 ((Qv (Pt 1017 0)) ∧
 True)))) ∧
 (True ∧
 (k [(D.agg [(D.val (vI (IntKind.wrap .i64 (x6 + 1)))), (D.val (vI x7))]), (D.val (vI 0))])))))
 (True ∧
 (True ∧
 (((Qv (Value.agg [(vI (IntKind.wrap .i64 (x6 + 1))), (vI (IntKind.wrap .i64 (x7 + 1)))].toArray)) ∧
 ((Qv (vI (IntKind.wrap .i64 (x6 + 1)))) ∧
 ((Qv (vI x6)) ∧
 ((Qv (Pt 1017 0)) ∧
 True)))) ∧
 (True ∧
 (k [(D.agg [(D.val (vI (IntKind.wrap .i64 (x6 + 1)))), (D.val (vI (IntKind.wrap .i64 (x7 + 1))))]), (D.val (vI 0))]))))))
 (bcase (n15 != n15)
 (True ∧
 (True ∧
 (((Qv (Value.agg [(vI (IntKind.wrap .i64 (x6 + 1))), (vI x7)].toArray)) ∧
 ((Qv (vI (IntKind.wrap .i64 (x6 + 1)))) ∧
 ((Qv (vI x6)) ∧
 ((Qv (Pt 1017 0)) ∧
 True)))) ∧
 (True ∧
 (k [(D.agg [(D.val (vI (IntKind.wrap .i64 (x6 + 1)))), (D.val (vI x7))]), (D.val (vI 0))])))))
 (bcase (decide (n13 < n15))
 (True ∧
 (True ∧
 (((Qv (Value.agg [(vI (IntKind.wrap .i64 (x6 + 1))), (vI (IntKind.wrap .i64 (x7 + 1)))].toArray)) ∧
 ((Qv (vI (IntKind.wrap .i64 (x6 + 1)))) ∧
 ((Qv (vI x6)) ∧
 ((Qv (Pt 1017 0)) ∧
 True)))) ∧
 (True ∧
 (k [(D.agg [(D.val (vI (IntKind.wrap .i64 (x6 + 1)))), (D.val (vI (IntKind.wrap .i64 (x7 + 1))))]), (D.val (vI 0))])))))
 (bcase (decide (n13 > n15))
 (True ∧
 (True ∧
 (((Qv (Value.agg [(vI (IntKind.wrap .i64 (x6 + 1))), (vI x7)].toArray)) ∧
 ((Qv (vI (IntKind.wrap .i64 (x6 + 1)))) ∧
 ((Qv (vI x6)) ∧
 ((Qv (Pt 1017 0)) ∧
 True)))) ∧
 (True ∧
 (k [(D.agg [(D.val (vI (IntKind.wrap .i64 (x6 + 1)))), (D.val (vI x7))]), (D.val (vI 0))])))))
 (True ∧
 (True ∧
 (((Qv (Value.agg [(vI (IntKind.wrap .i64 (x6 + 1))), (vI x7)].toArray)) ∧
 ((Qv (vI (IntKind.wrap .i64 (x6 + 1)))) ∧
 ((Qv (vI x6)) ∧
 ((Qv (Pt 1017 0)) ∧
 True)))) ∧
 (True ∧
 (k [(D.agg [(D.val (vI (IntKind.wrap .i64 (x6 + 1)))), (D.val (vI x7))]), (D.val (vI 0))])))))))))))))
 False)))))
 False))))
 (True ∧
 (True ∧
 (((Qv (vI (IntKind.wrap .i64 (x7 - 1)))) ∧
 ((Qv (Value.agg [(Value.string (s8)), (Sl 501 (n9) (c9))].toArray)) ∧
 ((Qv (Value.agg [(Value.slice none 0 0), (vI 0), (vI 0), (vI 0), (vI 0), (vI 0)].toArray)) ∧
 ((Qv (vI (IntKind.wrap .i64 (x7 + 1)))) ∧
 ((Qv (Value.agg [(Value.string (s8)), (Sl 501 (n9) (c9))].toArray)) ∧
 ((Qv (Value.agg [(Value.slice none 0 0), (vI 0), (vI 0), (vI 0), (vI 0), (vI 0)].toArray)) ∧
 True)))))) ∧
 (bcase (decide (0 + n9 * 2 ≤ List.length l9))
 (∃ n13 : Int,
 (∃ n14 : Int,
 ((Says C 39 [(D.agg [D.nil, (D.val (vI 0)), (D.val (vI 0)), (D.val (vI 0)), (D.val (vI 0)), (D.val (vI 0))]), (D.agg [(D.val (Value.string (s8))), (D.sl (n9) 2 (List.take (n9 * 2) (List.drop 0 l9)))]), (D.val (vI (IntKind.wrap .i64 (x7 + 1))))] [(D.agg [(D.val (vI n13)), (D.val (vI n14))])]) ∧
 (((Qv (vI n13)) ∧
 ((Qv (vI (IntKind.wrap .i64 (x7 - 1)))) ∧
 ((Qv (Value.agg [(Value.string (s8)), (Sl 501 (n9) (c9))].toArray)) ∧
 ((Qv (Value.agg [(Value.slice none 0 0), (vI 0), (vI 0), (vI 0), (vI 0), (vI 0)].toArray)) ∧
 True)))) ∧
 (bcase (decide (0 + n9 * 2 ≤ List.length l9))
 (∃ n15 : Int,
 (∃ n16 : Int,
 ((Says C 39 [(D.agg [D.nil, (D.val (vI 0)), (D.val (vI 0)), (D.val (vI 0)), (D.val (vI 0)), (D.val (vI 0))]), (D.agg [(D.val (Value.string (s8))), (D.sl (n9) 2 (List.take (n9 * 2) (List.drop 0 l9)))]), (D.val (vI (IntKind.wrap .i64 (x7 - 1))))] [(D.agg [(D.val (vI n15)), (D.val (vI n16))])]) ∧
 (((Qv (vI n15)) ∧
 ((Qv (vI n13)) ∧
 True)) ∧
 (bcase (n13 != n13)
 (bcase (n15 != n15)
 (True ∧
 (True ∧
 (((Qv (Value.agg [(vI (IntKind.wrap .i64 (x6 + 1))), (vI (IntKind.wrap .i64 (x7 - 1)))].toArray)) ∧
 ((Qv (vI (IntKind.wrap .i64 (x6 + 1)))) ∧
 ((Qv (vI x6)) ∧
 ((Qv (Pt 1017 0)) ∧
 True)))) ∧
 (True ∧
 (k [(D.agg [(D.val (vI (IntKind.wrap .i64 (x6 + 1)))), (D.val (vI (IntKind.wrap .i64 (x7 - 1))))]), (D.val (vI 0))])))))
 (True ∧
 (True ∧
 (((Qv (Value.agg [(vI (IntKind.wrap .i64 (x6 + 1))), (vI (IntKind.wrap .i64 (x7 + 1)))].toArray)) ∧
 ((Qv (vI (IntKind.wrap .i64 (x6 + 1)))) ∧
 ((Qv (vI x6)) ∧
 ((Qv (Pt 1017 0)) ∧
 True)))) ∧
 (True ∧
 (k [(D.agg [(D.val (vI (IntKind.wrap .i64 (x6 + 1)))), (D.val (vI (IntKind.wrap .i64 (x7 + 1))))]), (D.val (vI 0))]))))))
 (bcase (n15 != n15)
 (True ∧
 (True ∧
 (((Qv (Value.agg [(vI (IntKind.wrap .i64 (x6 + 1))), (vI (IntKind.wrap .i64 (x7 - 1)))].toArray)) ∧
 ((Qv (vI (IntKind.wrap .i64 (x6 + 1)))) ∧
 ((Qv (vI x6)) ∧
 ((Qv (Pt 1017 0)) ∧
 True)))) ∧
 (True ∧
 (k [(D.agg [(D.val (vI (IntKind.wrap .i64 (x6 + 1)))), (D.val (vI (IntKind.wrap .i64 (x7 - 1))))]), (D.val (vI 0))])))))
 (bcase (decide (n13 < n15))
 (True ∧
 (True ∧
 (((Qv (Value.agg [(vI (IntKind.wrap .i64 (x6 + 1))), (vI (IntKind.wrap .i64 (x7 + 1)))].toArray)) ∧
 ((Qv (vI (IntKind.wrap .i64 (x6 + 1)))) ∧
 ((Qv (vI x6)) ∧
 ((Qv (Pt 1017 0)) ∧
 True)))) ∧
 (True ∧
 (k [(D.agg [(D.val (vI (IntKind.wrap .i64 (x6 + 1)))), (D.val (vI (IntKind.wrap .i64 (x7 + 1))))]), (D.val (vI 0))])))))
 (bcase (decide (n13 > n15))
 (True ∧
 (True ∧
 (((Qv (Value.agg [(vI (IntKind.wrap .i64 (x6 + 1))), (vI (IntKind.wrap .i64 (x7 - 1)))].toArray)) ∧
 ((Qv (vI (IntKind.wrap .i64 (x6 + 1)))) ∧
 ((Qv (vI x6)) ∧
 ((Qv (Pt 1017 0)) ∧
 True)))) ∧
 (True ∧
 (k [(D.agg [(D.val (vI (IntKind.wrap .i64 (x6 + 1)))), (D.val (vI (IntKind.wrap .i64 (x7 - 1))))]), (D.val (vI 0))])))))
 (True ∧
 (True ∧
 (((Qv (Value.agg [(vI (IntKind.wrap .i64 (x6 + 1))), (vI (IntKind.wrap .i64 (x7 - 1)))].toArray)) ∧
 ((Qv (vI (IntKind.wrap .i64 (x6 + 1)))) ∧
 ((Qv (vI x6)) ∧
 ((Qv (Pt 1017 0)) ∧
 True)))) ∧
 (True ∧
 (k [(D.agg [(D.val (vI (IntKind.wrap .i64 (x6 + 1)))), (D.val (vI (IntKind.wrap .i64 (x7 - 1))))]), (D.val (vI 0))])))))))))))))
 False)))))
 False)))))
 (bcase (n11 != n11)
 (True ∧
 (True ∧
 (((Qv (vI x7)) ∧
 ((Qv (Value.agg [(Value.string (s8)), (Sl 501 (n9) (c9))].toArray)) ∧
 ((Qv (Value.agg [(Value.slice none 0 0), (vI 0), (vI 0), (vI 0), (vI 0), (vI 0)].toArray)) ∧
 ((Qv (vI (IntKind.wrap .i64 (x7 + 1)))) ∧
 ((Qv (Value.agg [(Value.string (s8)), (Sl 501 (n9) (c9))].toArray)) ∧
 ((Qv (Value.agg [(Value.slice none 0 0), (vI 0), (vI 0), (vI 0), (vI 0), (vI 0)].toArray)) ∧
 True)))))) ∧
 (bcase (decide (0 + n9 * 2 ≤ List.length l9))
 (∃ n13 : Int,
 (∃ n14 : Int,
 ((Says C 39 [(D.agg [D.nil, (D.val (vI 0)), (D.val (vI 0)), (D.val (vI 0)), (D.val (vI 0)), (D.val (vI 0))]), (D.agg [(D.val (Value.string (s8))), (D.sl (n9) 2 (List.take (n9 * 2) (List.drop 0 l9)))]), (D.val (vI (IntKind.wrap .i64 (x7 + 1))))] [(D.agg [(D.val (vI n13)), (D.val (vI n14))])]) ∧
 (((Qv (vI n13)) ∧
 ((Qv (vI x7)) ∧
 ((Qv (Value.agg [(Value.string (s8)), (Sl 501 (n9) (c9))].toArray)) ∧
 ((Qv (Value.agg [(Value.slice none 0 0), (vI 0), (vI 0), (vI 0), (vI 0), (vI 0)].toArray)) ∧
 True)))) ∧
 (bcase (decide (0 + n9 * 2 ≤ List.length l9))
 (∃ n15 : Int,
 (∃ n16 : Int,
 ((Says C 39 [(D.agg [D.nil, (D.val (vI 0)), (D.val (vI 0)), (D.val (vI 0)), (D.val (vI 0)), (D.val (vI 0))]), (D.agg [(D.val (Value.string (s8))), (D.sl (n9) 2 (List.take (n9 * 2) (List.drop 0 l9)))]), (D.val (vI x7))] [(D.agg [(D.val (vI n15)), (D.val (vI n16))])]) ∧
 (((Qv (vI n15)) ∧
 ((Qv (vI n13)) ∧
 True)) ∧
 (bcase (n13 != n13)
 (bcase (n15 != n15)
 (True ∧
 (True ∧
 (((Qv (Value.agg [(vI (IntKind.wrap .i64 (x6 + 1))), (vI x7)].toArray)) ∧
 ((Qv (vI (IntKind.wrap .i64 (x6 + 1)))) ∧
 ((Qv (vI x6)) ∧
 ((Qv (Pt 1017 0)) ∧
 True)))) ∧
 (True ∧
 (k [(D.agg [(D.val (vI (IntKind.wrap .i64 (x6 + 1)))), (D.val (vI x7))]), (D.val (vI 0))])))))
 (True ∧
 (True ∧
 (((Qv (Value.agg [(vI (IntKind.wrap .i64 (x6 + 1))), (vI (IntKind.wrap .i64 (x7 + 1)))].toArray)) ∧
 ((Qv (vI (IntKind.wrap .i64 (x6 + 1)))) ∧
 ((Qv (vI x6)) ∧
 ((Qv (Pt 1017 0)) ∧
 True)))) ∧
 (True ∧
 (k [(D.agg [(D.val (vI (IntKind.wrap .i64 (x6 + 1)))), (D.val (vI (IntKind.wrap .i64 (x7 + 1))))]), (D.val (vI 0))]))))))
 (bcase (n15 != n15)
 (True ∧
 (True ∧
 (((Qv (Value.agg [(vI (IntKind.wrap .i64 (x6 + 1))), (vI x7)].toArray)) ∧
 ((Qv (vI (IntKind.wrap .i64 (x6 + 1)))) ∧
 ((Qv (vI x6)) ∧
 ((Qv (Pt 1017 0)) ∧
 True)))) ∧
 (True ∧
 (k [(D.agg [(D.val (vI (IntKind.wrap .i64 (x6 + 1)))), (D.val (vI x7))]), (D.val (vI 0))])))))
 (bcase (decide (n13 < n15))
 (True ∧
 (True ∧
 (((Qv (Value.agg [(vI (IntKind.wrap .i64 (x6 + 1))), (vI (IntKind.wrap .i64 (x7 + 1)))].toArray)) ∧
 ((Qv (vI (IntKind.wrap .i64 (x6 + 1)))) ∧
 ((Qv (vI x6)) ∧
 ((Qv (Pt 1017 0)) ∧
 True)))) ∧
 (True ∧
 (k [(D.agg [(D.val (vI (IntKind.wrap .i64 (x6 + 1)))), (D.val (vI (IntKind.wrap .i64 (x7 + 1))))]), (D.val (vI 0))])))))
 (bcase (decide (n13 > n15))
 (True ∧
 (True ∧
 (((Qv (Value.agg [(vI (IntKind.wrap .i64 (x6 + 1))), (vI x7)].toArray)) ∧
 ((Qv (vI (IntKind.wrap .i64 (x6 + 1)))) ∧
 ((Qv (vI x6)) ∧
 ((Qv (Pt 1017 0)) ∧
 True)))) ∧
 (True ∧
 (k [(D.agg [(D.val (vI (IntKind.wrap .i64 (x6 + 1)))), (D.val (vI x7))]), (D.val (vI 0))])))))
 (True ∧
 (True ∧
 (((Qv (Value.agg [(vI (IntKind.wrap .i64 (x6 + 1))), (vI x7)].toArray)) ∧
 ((Qv (vI (IntKind.wrap .i64 (x6 + 1)))) ∧
 ((Qv (vI x6)) ∧
 ((Qv (Pt 1017 0)) ∧
 True)))) ∧
 (True ∧
 (k [(D.agg [(D.val (vI (IntKind.wrap .i64 (x6 + 1)))), (D.val (vI x7))]), (D.val (vI 0))])))))))))))))
 False)))))
 False))))
 (bcase (decide (n8 < n11))
 (True ∧
 (True ∧
 (((Qv (vI (IntKind.wrap .i64 (x7 - 1)))) ∧
 ((Qv (Value.agg [(Value.string (s8)), (Sl 501 (n9) (c9))].toArray)) ∧
 ((Qv (Value.agg [(Value.slice none 0 0), (vI 0), (vI 0), (vI 0), (vI 0), (vI 0)].toArray)) ∧
 ((Qv (vI (IntKind.wrap .i64 (x7 + 1)))) ∧
 ((Qv (Value.agg [(Value.string (s8)), (Sl 501 (n9) (c9))].toArray)) ∧
 ((Qv (Value.agg [(Value.slice none 0 0), (vI 0), (vI 0), (vI 0), (vI 0), (vI 0)].toArray)) ∧
 True)))))) ∧
 (bcase (decide (0 + n9 * 2 ≤ List.length l9))
 (∃ n13 : Int,
 (∃ n14 : Int,
 ((Says C 39 [(D.agg [D.nil, (D.val (vI 0)), (D.val (vI 0)), (D.val (vI 0)), (D.val (vI 0)), (D.val (vI 0))]), (D.agg [(D.val (Value.string (s8))), (D.sl (n9) 2 (List.take (n9 * 2) (List.drop 0 l9)))]), (D.val (vI (IntKind.wrap .i64 (x7 + 1))))] [(D.agg [(D.val (vI n13)), (D.val (vI n14))])]) ∧
 (((Qv (vI n13)) ∧
 ((Qv (vI (IntKind.wrap .i64 (x7 - 1)))) ∧
 ((Qv (Value.agg [(Value.string (s8)), (Sl 501 (n9) (c9))].toArray)) ∧
 ((Qv (Value.agg [(Value.slice none 0 0), (vI 0), (vI 0), (vI 0), (vI 0), (vI 0)].toArray)) ∧
 True)))) ∧
 (bcase (decide (0 + n9 * 2 ≤ List.length l9))
 (∃ n15 : Int,
 (∃ n16 : Int,
 ((Says C 39 [(D.agg [D.nil, (D.val (vI 0)), (D.val (vI 0)), (D.val (vI 0)), (D.val (vI 0)), (D.val (vI 0))]), (D.agg [(D.val (Value.string (s8))), (D.sl (n9) 2 (List.take (n9 * 2) (List.drop 0 l9)))]), (D.val (vI (IntKind.wrap .i64 (x7 - 1))))] [(D.agg [(D.val (vI n15)), (D.val (vI n16))])]) ∧
 (((Qv (vI n15)) ∧
 ((Qv (vI n13)) ∧
 True)) ∧
 (bcase (n13 != n13)
 (bcase (n15 != n15)
 (True ∧
 (True ∧
 (((Qv (Value.agg [(vI (IntKind.wrap .i64 (x6 + 1))), (vI (IntKind.wrap .i64 (x7 - 1)))].toArray)) ∧
 ((Qv (vI (IntKind.wrap .i64 (x6 + 1)))) ∧
 ((Qv (vI x6)) ∧
 ((Qv (Pt 1017 0)) ∧
 True)))) ∧
 (True ∧
 (k [(D.agg [(D.val (vI (IntKind.wrap .i64 (x6 + 1)))), (D.val (vI (IntKind.wrap .i64 (x7 - 1))))]), (D.val (vI 0))])))))
 (True ∧
 (True ∧
 (((Qv (Value.agg [(vI (IntKind.wrap .i64 (x6 + 1))), (vI (IntKind.wrap .i64 (x7 + 1)))].toArray)) ∧
 ((Qv (vI (IntKind.wrap .i64 (x6 + 1)))) ∧
 ((Qv (vI x6)) ∧
 ((Qv (Pt 1017 0)) ∧
 True)))) ∧
 (True ∧
 (k [(D.agg [(D.val (vI (IntKind.wrap .i64 (x6 + 1)))), (D.val (vI (IntKind.wrap .i64 (x7 + 1))))]), (D.val (vI 0))]))))))
 (bcase (n15 != n15)
 (True ∧
 (True ∧
 (((Qv (Value.agg [(vI (IntKind.wrap .i64 (x6 + 1))), (vI (IntKind.wrap .i64 (x7 - 1)))].toArray)) ∧
 ((Qv (vI (IntKind.wrap .i64 (x6 + 1)))) ∧
 ((Qv (vI x6)) ∧
 ((Qv (Pt 1017 0)) ∧
 True)))) ∧
 (True ∧
 (k [(D.agg [(D.val (vI (IntKind.wrap .i64 (x6 + 1)))), (D.val (vI (IntKind.wrap .i64 (x7 - 1))))]), (D.val (vI 0))])))))
 (bcase (decide (n13 < n15))
 (True ∧
 (True ∧
 (((Qv (Value.agg [(vI (IntKind.wrap .i64 (x6 + 1))), (vI (IntKind.wrap .i64 (x7 + 1)))].toArray)) ∧
 ((Qv (vI (IntKind.wrap .i64 (x6 + 1)))) ∧
 ((Qv (vI x6)) ∧
 ((Qv (Pt 1017 0)) ∧
 True)))) ∧
 (True ∧
 (k [(D.agg [(D.val (vI (IntKind.wrap .i64 (x6 + 1)))), (D.val (vI (IntKind.wrap .i64 (x7 + 1))))]), (D.val (vI 0))])))))
 (bcase (decide (n13 > n15))
 (True ∧
 (True ∧
 (((Qv (Value.agg [(vI (IntKind.wrap .i64 (x6 + 1))), (vI (IntKind.wrap .i64 (x7 - 1)))].toArray)) ∧
 ((Qv (vI (IntKind.wrap .i64 (x6 + 1)))) ∧
 ((Qv (vI x6)) ∧
 ((Qv (Pt 1017 0)) ∧
 True)))) ∧
 (True ∧
 (k [(D.agg [(D.val (vI (IntKind.wrap .i64 (x6 + 1)))), (D.val (vI (IntKind.wrap .i64 (x7 - 1))))]), (D.val (vI 0))])))))
 (True ∧
 (True ∧
 (((Qv (Value.agg [(vI (IntKind.wrap .i64 (x6 + 1))), (vI (IntKind.wrap .i64 (x7 - 1)))].toArray)) ∧
 ((Qv (vI (IntKind.wrap .i64 (x6 + 1)))) ∧
 ((Qv (vI x6)) ∧
 ((Qv (Pt 1017 0)) ∧
 True)))) ∧
 (True ∧
 (k [(D.agg [(D.val (vI (IntKind.wrap .i64 (x6 + 1)))), (D.val (vI (IntKind.wrap .i64 (x7 - 1))))]), (D.val (vI 0))])))))))))))))
 False)))))
 False))))
 (bcase (decide (n8 > n11))
 (True ∧
 (True ∧
 (((Qv (vI x7)) ∧
 ((Qv (Value.agg [(Value.string (s8)), (Sl 501 (n9) (c9))].toArray)) ∧
 ((Qv (Value.agg [(Value.slice none 0 0), (vI 0), (vI 0), (vI 0), (vI 0), (vI 0)].toArray)) ∧
 ((Qv (vI (IntKind.wrap .i64 (x7 + 1)))) ∧
 ((Qv (Value.agg [(Value.string (s8)), (Sl 501 (n9) (c9))].toArray)) ∧
 ((Qv (Value.agg [(Value.slice none 0 0), (vI 0), (vI 0), (vI 0), (vI 0), (vI 0)].toArray)) ∧
 True)))))) ∧
 (bcase (decide (0 + n9 * 2 ≤ List.length l9))
 (∃ n13 : Int,
 (∃ n14 : Int,
 ((Says C 39 [(D.agg [D.nil, (D.val (vI 0)), (D.val (vI 0)), (D.val (vI 0)), (D.val (vI 0)), (D.val (vI 0))]), (D.agg [(D.val (Value.string (s8))), (D.sl (n9) 2 (List.take (n9 * 2) (List.drop 0 l9)))]), (D.val (vI (IntKind.wrap .i64 (x7 + 1))))] [(D.agg [(D.val (vI n13)), (D.val (vI n14))])]) ∧
 (((Qv (vI n13)) ∧
 ((Qv (vI x7)) ∧
 ((Qv (Value.agg [(Value.string (s8)), (Sl 501 (n9) (c9))].toArray)) ∧
 ((Qv (Value.agg [(Value.slice none 0 0), (vI 0), (vI 0), (vI 0), (vI 0), (vI 0)].toArray)) ∧
 True)))) ∧
 (bcase (decide (0 + n9 * 2 ≤ List.length l9))
 (∃ n15 : Int,
 (∃ n16 : Int,
 ((Says C 39 [(D.agg [D.nil, (D.val (vI 0)), (D.val (vI 0)), (D.val (vI 0)), (D.val (vI 0)), (D.val (vI 0))]), (D.agg [(D.val (Value.string (s8))), (D.sl (n9) 2 (List.take (n9 * 2) (List.drop 0 l9)))]), (D.val (vI x7))] [(D.agg [(D.val (vI n15)), (D.val (vI n16))])]) ∧
 (((Qv (vI n15)) ∧
 ((Qv (vI n13)) ∧
 True)) ∧
 (bcase (n13 != n13)
 (bcase (n15 != n15)
 (True ∧
 (True ∧
 (((Qv (Value.agg [(vI (IntKind.wrap .i64 (x6 + 1))), (vI x7)].toArray)) ∧
 ((Qv (vI (IntKind.wrap .i64 (x6 + 1)))) ∧
 ((Qv (vI x6)) ∧
 ((Qv (Pt 1017 0)) ∧
 True)))) ∧
 (True ∧
 (k [(D.agg [(D.val (vI (IntKind.wrap .i64 (x6 + 1)))), (D.val (vI x7))]), (D.val (vI 0))])))))
 (True ∧
 (True ∧
 (((Qv (Value.agg [(vI (IntKind.wrap .i64 (x6 + 1))), (vI (IntKind.wrap .i64 (x7 + 1)))].toArray)) ∧
 ((Qv (vI (IntKind.wrap .i64 (x6 + 1)))) ∧
 ((Qv (vI x6)) ∧
 ((Qv (Pt 1017 0)) ∧
 True)))) ∧
 (True ∧
 (k [(D.agg [(D.val (vI (IntKind.wrap .i64 (x6 + 1)))), (D.val (vI (IntKind.wrap .i64 (x7 + 1))))]), (D.val (vI 0))]))))))
 (bcase (n15 != n15)
 (True ∧
 (True ∧
 (((Qv (Value.agg [(vI (IntKind.wrap .i64 (x6 + 1))), (vI x7)].toArray)) ∧
 ((Qv (vI (IntKind.wrap .i64 (x6 + 1)))) ∧
 ((Qv (vI x6)) ∧
 ((Qv (Pt 1017 0)) ∧
 True)))) ∧
 (True ∧
 (k [(D.agg [(D.val (vI (IntKind.wrap .i64 (x6 + 1)))), (D.val (vI x7))]), (D.val (vI 0))])))))
 (bcase (decide (n13 < n15))
 (True ∧
 (True ∧
 (((Qv (Value.agg [(vI (IntKind.wrap .i64 (x6 + 1))), (vI (IntKind.wrap .i64 (x7 + 1)))].toArray)) ∧
 ((Qv (vI (IntKind.wrap .i64 (x6 + 1)))) ∧
 ((Qv (vI x6)) ∧
 ((Qv (Pt 1017 0)) ∧
 True)))) ∧
 (True ∧
 (k [(D.agg [(D.val (vI (IntKind.wrap .i64 (x6 + 1)))), (D.val (vI (IntKind.wrap .i64 (x7 + 1))))]), (D.val (vI 0))])))))
 (bcase (decide (n13 > n15))
 (True ∧
 (True ∧
 (((Qv (Value.agg [(vI (IntKind.wrap .i64 (x6 + 1))), (vI x7)].toArray)) ∧
 ((Qv (vI (IntKind.wrap .i64 (x6 + 1)))) ∧
 ((Qv (vI x6)) ∧
 ((Qv (Pt 1017 0)) ∧
 True)))) ∧
 (True ∧
 (k [(D.agg [(D.val (vI (IntKind.wrap .i64 (x6 + 1)))), (D.val (vI x7))]), (D.val (vI 0))])))))
 (True ∧
 (True ∧
 (((Qv (Value.agg [(vI (IntKind.wrap .i64 (x6 + 1))), (vI x7)].toArray)) ∧
 ((Qv (vI (IntKind.wrap .i64 (x6 + 1)))) ∧
 ((Qv (vI x6)) ∧
 ((Qv (Pt 1017 0)) ∧
 True)))) ∧
 (True ∧
 (k [(D.agg [(D.val (vI (IntKind.wrap .i64 (x6 + 1)))), (D.val (vI x7))]), (D.val (vI 0))])))))))))))))
 False)))))
 False))))
 (True ∧
 (True ∧
 (((Qv (vI x7)) ∧
 ((Qv (Value.agg [(Value.string (s8)), (Sl 501 (n9) (c9))].toArray)) ∧
 ((Qv (Value.agg [(Value.slice none 0 0), (vI 0), (vI 0), (vI 0), (vI 0), (vI 0)].toArray)) ∧
 ((Qv (vI (IntKind.wrap .i64 (x7 + 1)))) ∧
 ((Qv (Value.agg [(Value.string (s8)), (Sl 501 (n9) (c9))].toArray)) ∧
 ((Qv (Value.agg [(Value.slice none 0 0), (vI 0), (vI 0), (vI 0), (vI 0), (vI 0)].toArray)) ∧
 True)))))) ∧
 (bcase (decide (0 + n9 * 2 ≤ List.length l9))
 (∃ n13 : Int,
 (∃ n14 : Int,
 ((Says C 39 [(D.agg [D.nil, (D.val (vI 0)), (D.val (vI 0)), (D.val (vI 0)), (D.val (vI 0)), (D.val (vI 0))]), (D.agg [(D.val (Value.string (s8))), (D.sl (n9) 2 (List.take (n9 * 2) (List.drop 0 l9)))]), (D.val (vI (IntKind.wrap .i64 (x7 + 1))))] [(D.agg [(D.val (vI n13)), (D.val (vI n14))])]) ∧
 (((Qv (vI n13)) ∧
 ((Qv (vI x7)) ∧
 ((Qv (Value.agg [(Value.string (s8)), (Sl 501 (n9) (c9))].toArray)) ∧
 ((Qv (Value.agg [(Value.slice none 0 0), (vI 0), (vI 0), (vI 0), (vI 0), (vI 0)].toArray)) ∧
 True)))) ∧
 (bcase (decide (0 + n9 * 2 ≤ List.length l9))
 (∃ n15 : Int,
 (∃ n16 : Int,
 ((Says C 39 [(D.agg [D.nil, (D.val (vI 0)), (D.val (vI 0)), (D.val (vI 0)), (D.val (vI 0)), (D.val (vI 0))]), (D.agg [(D.val (Value.string (s8))), (D.sl (n9) 2 (List.take (n9 * 2) (List.drop 0 l9)))]), (D.val (vI x7))] [(D.agg [(D.val (vI n15)), (D.val (vI n16))])]) ∧
 (((Qv (vI n15)) ∧
 ((Qv (vI n13)) ∧
 True)) ∧
 (bcase (n13 != n13)
 (bcase (n15 != n15)
 (True ∧
 (True ∧
 (((Qv (Value.agg [(vI (IntKind.wrap .i64 (x6 + 1))), (vI x7)].toArray)) ∧
 ((Qv (vI (IntKind.wrap .i64 (x6 + 1)))) ∧
 ((Qv (vI x6)) ∧
 ((Qv (Pt 1017 0)) ∧
 True)))) ∧
 (True ∧
 (k [(D.agg [(D.val (vI (IntKind.wrap .i64 (x6 + 1)))), (D.val (vI x7))]), (D.val (vI 0))])))))
 (True ∧
 (True ∧
 (((Qv (Value.agg [(vI (IntKind.wrap .i64 (x6 + 1))), (vI (IntKind.wrap .i64 (x7 + 1)))].toArray)) ∧
 ((Qv (vI (IntKind.wrap .i64 (x6 + 1)))) ∧
 ((Qv (vI x6)) ∧
 ((Qv (Pt 1017 0)) ∧
 True)))) ∧
 (True ∧
 (k [(D.agg [(D.val (vI (IntKind.wrap .i64 (x6 + 1)))), (D.val (vI (IntKind.wrap .i64 (x7 + 1))))]), (D.val (vI 0))]))))))
 (bcase (n15 != n15)
 (True ∧
 (True ∧
 (((Qv (Value.agg [(vI (IntKind.wrap .i64 (x6 + 1))), (vI x7)].toArray)) ∧
 ((Qv (vI (IntKind.wrap .i64 (x6 + 1)))) ∧
 ((Qv (vI x6)) ∧
 ((Qv (Pt 1017 0)) ∧
 True)))) ∧
 (True ∧
 (k [(D.agg [(D.val (vI (IntKind.wrap .i64 (x6 + 1)))), (D.val (vI x7))]), (D.val (vI 0))])))))
 (bcase (decide (n13 < n15))
 (True ∧
 (True ∧
 (((Qv (Value.agg [(vI (IntKind.wrap .i64 (x6 + 1))), (vI (IntKind.wrap .i64 (x7 + 1)))].toArray)) ∧
 ((Qv (vI (IntKind.wrap .i64 (x6 + 1)))) ∧
 ((Qv (vI x6)) ∧
 ((Qv (Pt 1017 0)) ∧
 True)))) ∧
 (True ∧
 (k [(D.agg [(D.val (vI (IntKind.wrap .i64 (x6 + 1)))), (D.val (vI (IntKind.wrap .i64 (x7 + 1))))]), (D.val (vI 0))])))))
 (bcase (decide (n13 > n15))
 (True ∧
 (True ∧
 (((Qv (Value.agg [(vI (IntKind.wrap .i64 (x6 + 1))), (vI x7)].toArray)) ∧
 ((Qv (vI (IntKind.wrap .i64 (x6 + 1)))) ∧
 ((Qv (vI x6)) ∧
 ((Qv (Pt 1017 0)) ∧
 True)))) ∧
 (True ∧
 (k [(D.agg [(D.val (vI (IntKind.wrap .i64 (x6 + 1)))), (D.val (vI x7))]), (D.val (vI 0))])))))
 (True ∧
 (True ∧
 (((Qv (Value.agg [(vI (IntKind.wrap .i64 (x6 + 1))), (vI x7)].toArray)) ∧
 ((Qv (vI (IntKind.wrap .i64 (x6 + 1)))) ∧
 ((Qv (vI x6)) ∧
 ((Qv (Pt 1017 0)) ∧
 True)))) ∧
 (True ∧
 (k [(D.agg [(D.val (vI (IntKind.wrap .i64 (x6 + 1)))), (D.val (vI x7))]), (D.val (vI 0))])))))))))))))
 False)))))
 False))))))))))))
 False)))))
 False))))))))))))))))))))
 False)
 (bcase (decide (0 + n9 * 2 ≤ List.length l9))
 (∃ n4 : Int,
 (∃ n5 : Int,
 ((Says C 34 [(D.agg [(D.val (Value.string (s8))), (D.sl (n9) 2 (List.take (n9 * 2) (List.drop 0 l9)))])] [(D.val (vI n4)), (D.val (vI n5))]) ∧
 (∃ n6 : Int,
 ((Says C 40 [(D.agg [(D.val (vI x6)), (D.val (vI x7))]), (D.val (vI 1))] [(D.val (vI n6))]) ∧
 (∃ n7 : Int,
 ((Says C 37 [(D.sl 3 1 [(vI 0), (vI n5), (vI n6)])] [(D.val (vI n7))]) ∧
 (bcase (n7 != 0)
 (k [(D.agg [(D.val (vI 0)), (D.val (vI 0))]), (D.val (vI n7))])
 (∃ e3 : Int,
 ((Says limC 0 [(D.val (vI 0)), (D.val (vI x5)), (D.sl 1 1 [(vI x7)])] [(D.val (vI e3))]) ∧
 (bcase (e3 != 0)
 (∃ e4 : Int,
 ((Says limC 0 [(D.val (vI 0)), (D.val (vI x5)), (D.sl 1 1 [(vI (IntKind.wrap .i64 (x7 - 1)))])] [(D.val (vI e4))]) ∧
 (bcase (e4 != 0)
 (∃ e5 : Int,
 ((Says limC 0 [(D.val (vI 0)), (D.val (vI x5)), (D.sl 1 1 [(vI (IntKind.wrap .i64 (x7 + 1)))])] [(D.val (vI e5))]) ∧
 (bcase (e5 != 0)
 (((Qv (Sl 1020 0 3)) ∧
 ((Qv (Value.agg [(Value.string (s8)), (Sl 501 (n9) (c9))].toArray)) ∧
 ((Qv (Value.agg [(Sl 500 (n0) (c0)), (vI x1), (vI x2), (vI x3), (vI x4), (vI x5)].toArray)) ∧
 ((Qv (vI (IntKind.wrap .i64 (x6 + 1)))) ∧
 ((Qv (vI x6)) ∧
 ((Qv (Pt 1017 0)) ∧
 True)))))) ∧
 False)
 (((Qv (Sl 1020 1 3)) ∧
 ((Qv (Value.agg [(Value.string (s8)), (Sl 501 (n9) (c9))].toArray)) ∧
 ((Qv (Value.agg [(Sl 500 (n0) (c0)), (vI x1), (vI x2), (vI x3), (vI x4), (vI x5)].toArray)) ∧
 ((Qv (vI (IntKind.wrap .i64 (x6 + 1)))) ∧
 ((Qv (vI x6)) ∧
 ((Qv (Pt 1017 0)) ∧
 True)))))) ∧
 (((Qv (Value.agg [(vI (IntKind.wrap .i64 (x6 + 1))), (vI (IntKind.wrap .i64 (x7 + 1)))].toArray)) ∧
 ((Qv (vI (IntKind.wrap .i64 (x6 + 1)))) ∧
 ((Qv (vI x6)) ∧
 ((Qv (Pt 1017 0)) ∧
 True)))) ∧
 (True ∧
 (k [(D.agg [(D.val (vI (IntKind.wrap .i64 (x6 + 1)))), (D.val (vI (IntKind.wrap .i64 (x7 + 1))))]), (D.val (vI 0))])))))))
 (∃ e5 : Int,
 ((Says limC 0 [(D.val (vI 0)), (D.val (vI x5)), (D.sl 1 1 [(vI (IntKind.wrap .i64 (x7 + 1)))])] [(D.val (vI e5))]) ∧
 (bcase (e5 != 0)
 (((Qv (Sl 1020 1 3)) ∧
 ((Qv (Value.agg [(Value.string (s8)), (Sl 501 (n9) (c9))].toArray)) ∧
 ((Qv (Value.agg [(Sl 500 (n0) (c0)), (vI x1), (vI x2), (vI x3), (vI x4), (vI x5)].toArray)) ∧
 ((Qv (vI (IntKind.wrap .i64 (x6 + 1)))) ∧
 ((Qv (vI x6)) ∧
 ((Qv (Pt 1017 0)) ∧
 True)))))) ∧
 (((Qv (Value.agg [(vI (IntKind.wrap .i64 (x6 + 1))), (vI (IntKind.wrap .i64 (x7 - 1)))].toArray)) ∧
 ((Qv (vI (IntKind.wrap .i64 (x6 + 1)))) ∧
 ((Qv (vI x6)) ∧
 ((Qv (Pt 1017 0)) ∧
 True)))) ∧
 (True ∧
 (k [(D.agg [(D.val (vI (IntKind.wrap .i64 (x6 + 1)))), (D.val (vI (IntKind.wrap .i64 (x7 - 1))))]), (D.val (vI 0))]))))
 (((Qv (Sl 1020 2 3)) ∧
 ((Qv (Value.agg [(Value.string (s8)), (Sl 501 (n9) (c9))].toArray)) ∧
 ((Qv (Value.agg [(Sl 500 (n0) (c0)), (vI x1), (vI x2), (vI x3), (vI x4), (vI x5)].toArray)) ∧
 ((Qv (vI (IntKind.wrap .i64 (x6 + 1)))) ∧
 ((Qv (vI x6)) ∧
 ((Qv (Pt 1017 0)) ∧
 True)))))) ∧
 (((Qv (vI (IntKind.wrap .i64 (x7 - 1)))) ∧
 ((Qv (Value.agg [(Value.string (s8)), (Sl 501 (n9) (c9))].toArray)) ∧
 ((Qv (Value.agg [(Sl 500 (n0) (c0)), (vI x1), (vI x2), (vI x3), (vI x4), (vI x5)].toArray)) ∧
 ((Qv (vI (IntKind.wrap .i64 (x7 + 1)))) ∧
 ((Qv (Value.agg [(Value.string (s8)), (Sl 501 (n9) (c9))].toArray)) ∧
 ((Qv (Value.agg [(Sl 500 (n0) (c0)), (vI x1), (vI x2), (vI x3), (vI x4), (vI x5)].toArray)) ∧
 True)))))) ∧
 (bcase (decide (0 + n0 * 2 ≤ List.length l0))
 (bcase (decide (0 + n9 * 2 ≤ List.length l9))
 (∃ n8 : Int,
 (∃ n10 : Int,
 ((Says C 39 [(D.agg [(D.sl (n0) 2 (List.take (n0 * 2) (List.drop 0 l0))), (D.val (vI x1)), (D.val (vI x2)), (D.val (vI x3)), (D.val (vI x4)), (D.val (vI x5))]), (D.agg [(D.val (Value.string (s8))), (D.sl (n9) 2 (List.take (n9 * 2) (List.drop 0 l9)))]), (D.val (vI (IntKind.wrap .i64 (x7 + 1))))] [(D.agg [(D.val (vI n8)), (D.val (vI n10))])]) ∧
 (((Qv (vI n8)) ∧
 ((Qv (vI (IntKind.wrap .i64 (x7 - 1)))) ∧
 ((Qv (Value.agg [(Value.string (s8)), (Sl 501 (n9) (c9))].toArray)) ∧
 ((Qv (Value.agg [(Sl 500 (n0) (c0)), (vI x1), (vI x2), (vI x3), (vI x4), (vI x5)].toArray)) ∧
 True)))) ∧
 (bcase (decide (0 + n0 * 2 ≤ List.length l0))
 (bcase (decide (0 + n9 * 2 ≤ List.length l9))
 (∃ n11 : Int,
 (∃ n12 : Int,
 ((Says C 39 [(D.agg [(D.sl (n0) 2 (List.take (n0 * 2) (List.drop 0 l0))), (D.val (vI x1)), (D.val (vI x2)), (D.val (vI x3)), (D.val (vI x4)), (D.val (vI x5))]), (D.agg [(D.val (Value.string (s8))), (D.sl (n9) 2 (List.take (n9 * 2) (List.drop 0 l9)))]), (D.val (vI (IntKind.wrap .i64 (x7 - 1))))] [(D.agg [(D.val (vI n11)), (D.val (vI n12))])]) ∧
 (((Qv (vI n11)) ∧
 ((Qv (vI n8)) ∧
 True)) ∧
 (bcase (n8 != n8)
 (bcase (n11 != n11)
 (True ∧
 (True ∧
 (((Qv (Value.agg [(vI (IntKind.wrap .i64 (x6 + 1))), (vI (IntKind.wrap .i64 (x7 - 1)))].toArray)) ∧
 ((Qv (vI (IntKind.wrap .i64 (x6 + 1)))) ∧
 ((Qv (vI x6)) ∧
 ((Qv (Pt 1017 0)) ∧
 True)))) ∧
 (True ∧
 (k [(D.agg [(D.val (vI (IntKind.wrap .i64 (x6 + 1)))), (D.val (vI (IntKind.wrap .i64 (x7 - 1))))]), (D.val (vI 0))])))))
 (True ∧
 (True ∧
 (((Qv (Value.agg [(vI (IntKind.wrap .i64 (x6 + 1))), (vI (IntKind.wrap .i64 (x7 + 1)))].toArray)) ∧
 ((Qv (vI (IntKind.wrap .i64 (x6 + 1)))) ∧
 ((Qv (vI x6)) ∧
 ((Qv (Pt 1017 0)) ∧
 True)))) ∧
 (True ∧
 (k [(D.agg [(D.val (vI (IntKind.wrap .i64 (x6 + 1)))), (D.val (vI (IntKind.wrap .i64 (x7 + 1))))]), (D.val (vI 0))]))))))
 (bcase (n11 != n11)
 (True ∧
 (True ∧
 (((Qv (Value.agg [(vI (IntKind.wrap .i64 (x6 + 1))), (vI (IntKind.wrap .i64 (x7 - 1)))].toArray)) ∧
 ((Qv (vI (IntKind.wrap .i64 (x6 + 1)))) ∧
 ((Qv (vI x6)) ∧
 ((Qv (Pt 1017 0)) ∧
 True)))) ∧
 (True ∧
 (k [(D.agg [(D.val (vI (IntKind.wrap .i64 (x6 + 1)))), (D.val (vI (IntKind.wrap .i64 (x7 - 1))))]), (D.val (vI 0))])))))
 (bcase (decide (n8 < n11))
 (True ∧
 (True ∧
 (((Qv (Value.agg [(vI (IntKind.wrap .i64 (x6 + 1))), (vI (IntKind.wrap .i64 (x7 + 1)))].toArray)) ∧
 ((Qv (vI (IntKind.wrap .i64 (x6 + 1)))) ∧
 ((Qv (vI x6)) ∧
 ((Qv (Pt 1017 0)) ∧
 True)))) ∧
 (True ∧
 (k [(D.agg [(D.val (vI (IntKind.wrap .i64 (x6 + 1)))), (D.val (vI (IntKind.wrap .i64 (x7 + 1))))]), (D.val (vI 0))])))))
 (bcase (decide (n8 > n11))
 (True ∧
 (True ∧
 (((Qv (Value.agg [(vI (IntKind.wrap .i64 (x6 + 1))), (vI (IntKind.wrap .i64 (x7 - 1)))].toArray)) ∧
 ((Qv (vI (IntKind.wrap .i64 (x6 + 1)))) ∧
 ((Qv (vI x6)) ∧
 ((Qv (Pt 1017 0)) ∧
 True)))) ∧
 (True ∧
 (k [(D.agg [(D.val (vI (IntKind.wrap .i64 (x6 + 1)))), (D.val (vI (IntKind.wrap .i64 (x7 - 1))))]), (D.val (vI 0))])))))
 (True ∧
 (True ∧
 (((Qv (Value.agg [(vI (IntKind.wrap .i64 (x6 + 1))), (vI (IntKind.wrap .i64 (x7 - 1)))].toArray)) ∧
 ((Qv (vI (IntKind.wrap .i64 (x6 + 1)))) ∧
 ((Qv (vI x6)) ∧
 ((Qv (Pt 1017 0)) ∧
 True)))) ∧
 (True ∧
 (k [(D.agg [(D.val (vI (IntKind.wrap .i64 (x6 + 1)))), (D.val (vI (IntKind.wrap .i64 (x7 - 1))))]), (D.val (vI 0))])))))))))))))
 False)
 False)))))
 False)
 False)))))))))
 (∃ e4 : Int,
 ((Says limC 0 [(D.val (vI 0)), (D.val (vI x5)), (D.sl 1 1 [(vI (IntKind.wrap .i64 (x7 - 1)))])] [(D.val (vI e4))]) ∧
 (bcase (e4 != 0)
 (∃ e5 : Int,
 ((Says limC 0 [(D.val (vI 0)), (D.val (vI x5)), (D.sl 1 1 [(vI (IntKind.wrap .i64 (x7 + 1)))])] [(D.val (vI e5))]) ∧
 (bcase (e5 != 0)
 (((Qv (Sl 1020 1 3)) ∧
 ((Qv (Value.agg [(Value.string (s8)), (Sl 501 (n9) (c9))].toArray)) ∧
 ((Qv (Value.agg [(Sl 500 (n0) (c0)), (vI x1), (vI x2), (vI x3), (vI x4), (vI x5)].toArray)) ∧
 ((Qv (vI (IntKind.wrap .i64 (x6 + 1)))) ∧
 ((Qv (vI x6)) ∧
 ((Qv (Pt 1017 0)) ∧
 True)))))) ∧
 (((Qv (Value.agg [(vI (IntKind.wrap .i64 (x6 + 1))), (vI x7)].toArray)) ∧
 ((Qv (vI (IntKind.wrap .i64 (x6 + 1)))) ∧
 ((Qv (vI x6)) ∧
 ((Qv (Pt 1017 0)) ∧
 True)))) ∧
 (True ∧
 (k [(D.agg [(D.val (vI (IntKind.wrap .i64 (x6 + 1)))), (D.val (vI x7))]), (D.val (vI 0))]))))
 (((Qv (Sl 1020 2 3)) ∧
 ((Qv (Value.agg [(Value.string (s8)), (Sl 501 (n9) (c9))].toArray)) ∧
 ((Qv (Value.agg [(Sl 500 (n0) (c0)), (vI x1), (vI x2), (vI x3), (vI x4), (vI x5)].toArray)) ∧
 ((Qv (vI (IntKind.wrap .i64 (x6 + 1)))) ∧
 ((Qv (vI x6)) ∧
 ((Qv (Pt 1017 0)) ∧
 True)))))) ∧
 (((Qv (vI x7)) ∧
 ((Qv (Value.agg [(Value.string (s8)), (Sl 501 (n9) (c9))].toArray)) ∧
 ((Qv (Value.agg [(Sl 500 (n0) (c0)), (vI x1), (vI x2), (vI x3), (vI x4), (vI x5)].toArray)) ∧
 ((Qv (vI (IntKind.wrap .i64 (x7 + 1)))) ∧
 ((Qv (Value.agg [(Value.string (s8)), (Sl 501 (n9) (c9))].toArray)) ∧
 ((Qv (Value.agg [(Sl 500 (n0) (c0)), (vI x1), (vI x2), (vI x3), (vI x4), (vI x5)].toArray)) ∧
 True)))))) ∧
 (bcase (decide (0 + n0 * 2 ≤ List.length l0))
 (bcase (decide (0 + n9 * 2 ≤ List.length l9))
 (∃ n8 : Int,
 (∃ n10 : Int,
 ((Says C 39 [(D.agg [(D.sl (n0) 2 (List.take (n0 * 2) (List.drop 0 l0))), (D.val (vI x1)), (D.val (vI x2)), (D.val (vI x3)), (D.val (vI x4)), (D.val (vI x5))]), (D.agg [(D.val (Value.string (s8))), (D.sl (n9) 2 (List.take (n9 * 2) (List.drop 0 l9)))]), (D.val (vI (IntKind.wrap .i64 (x7 + 1))))] [(D.agg [(D.val (vI n8)), (D.val (vI n10))])]) ∧
 (((Qv (vI n8)) ∧
 ((Qv (vI x7)) ∧
 ((Qv (Value.agg [(Value.string (s8)), (Sl 501 (n9) (c9))].toArray)) ∧
 ((Qv (Value.agg [(Sl 500 (n0) (c0)), (vI x1), (vI x2), (vI x3), (vI x4), (vI x5)].toArray)) ∧
 True)))) ∧
 (bcase (decide (0 + n0 * 2 ≤ List.length l0))
 (bcase (decide (0 + n9 * 2 ≤ List.length l9))
 (∃ n11 : Int,
 (∃ n12 : Int,
 ((Says C 39 [(D.agg [(D.sl (n0) 2 (List.take (n0 * 2) (List.drop 0 l0))), (D.val (vI x1)), (D.val (vI x2)), (D.val (vI x3)), (D.val (vI x4)), (D.val (vI x5))]), (D.agg [(D.val (Value.string (s8))), (D.sl (n9) 2 (List.take (n9 * 2) (List.drop 0 l9)))]), (D.val (vI x7))] [(D.agg [(D.val (vI n11)), (D.val (vI n12))])]) ∧
 (((Qv (vI n11)) ∧
 ((Qv (vI n8)) ∧
 True)) ∧
 (bcase (n8 != n8)
 (bcase (n11 != n11)
 (True ∧
 (True ∧
 (((Qv (Value.agg [(vI (IntKind.wrap .i64 (x6 + 1))), (vI x7)].toArray)) ∧
 ((Qv (vI (IntKind.wrap .i64 (x6 + 1)))) ∧
 ((Qv (vI x6)) ∧
 ((Qv (Pt 1017 0)) ∧
 True)))) ∧
 (True ∧
 (k [(D.agg [(D.val (vI (IntKind.wrap .i64 (x6 + 1)))), (D.val (vI x7))]), (D.val (vI 0))])))))
 (True ∧
 (True ∧
 (((Qv (Value.agg [(vI (IntKind.wrap .i64 (x6 + 1))), (vI (IntKind.wrap .i64 (x7 + 1)))].toArray)) ∧
 ((Qv (vI (IntKind.wrap .i64 (x6 + 1)))) ∧
 ((Qv (vI x6)) ∧
 ((Qv (Pt 1017 0)) ∧
 True)))) ∧
 (True ∧
 (k [(D.agg [(D.val (vI (IntKind.wrap .i64 (x6 + 1)))), (D.val (vI (IntKind.wrap .i64 (x7 + 1))))]), (D.val (vI 0))]))))))
 (bcase (n11 != n11)
 (True ∧
 (True ∧
 (((Qv (Value.agg [(vI (IntKind.wrap .i64 (x6 + 1))), (vI x7)].toArray)) ∧
 ((Qv (vI (IntKind.wrap .i64 (x6 + 1)))) ∧
 ((Qv (vI x6)) ∧
 ((Qv (Pt 1017 0)) ∧
 True)))) ∧
 (True ∧
 (k [(D.agg [(D.val (vI (IntKind.wrap .i64 (x6 + 1)))), (D.val (vI x7))]), (D.val (vI 0))])))))
 (bcase (decide (n8 < n11))
 (True ∧
 (True ∧
 (((Qv (Value.agg [(vI (IntKind.wrap .i64 (x6 + 1))), (vI (IntKind.wrap .i64 (x7 + 1)))].toArray)) ∧
 ((Qv (vI (IntKind.wrap .i64 (x6 + 1)))) ∧
 ((Qv (vI x6)) ∧
 ((Qv (Pt 1017 0)) ∧
 True)))) ∧
 (True ∧
 (k [(D.agg [(D.val (vI (IntKind.wrap .i64 (x6 + 1)))), (D.val (vI (IntKind.wrap .i64 (x7 + 1))))]), (D.val (vI 0))])))))
 (bcase (decide (n8 > n11))
 (True ∧
 (True ∧
 (((Qv (Value.agg [(vI (IntKind.wrap .i64 (x6 + 1))), (vI x7)].toArray)) ∧
 ((Qv (vI (IntKind.wrap .i64 (x6 + 1)))) ∧
 ((Qv (vI x6)) ∧
 ((Qv (Pt 1017 0)) ∧
 True)))) ∧
 (True ∧
 (k [(D.agg [(D.val (vI (IntKind.wrap .i64 (x6 + 1)))), (D.val (vI x7))]), (D.val (vI 0))])))))
 (True ∧
 (True ∧
 (((Qv (Value.agg [(vI (IntKind.wrap .i64 (x6 + 1))), (vI x7)].toArray)) ∧
 ((Qv (vI (IntKind.wrap .i64 (x6 + 1)))) ∧
 ((Qv (vI x6)) ∧
 ((Qv (Pt 1017 0)) ∧
 True)))) ∧
 (True ∧
 (k [(D.agg [(D.val (vI (IntKind.wrap .i64 (x6 + 1)))), (D.val (vI x7))]), (D.val (vI 0))])))))))))))))
 False)
 False)))))
 False)
 False))))))
 (∃ e5 : Int,
 ((Says limC 0 [(D.val (vI 0)), (D.val (vI x5)), (D.sl 1 1 [(vI (IntKind.wrap .i64 (x7 + 1)))])] [(D.val (vI e5))]) ∧
 (bcase (e5 != 0)
 (((Qv (Sl 1020 2 3)) ∧
 ((Qv (Value.agg [(Value.string (s8)), (Sl 501 (n9) (c9))].toArray)) ∧
 ((Qv (Value.agg [(Sl 500 (n0) (c0)), (vI x1), (vI x2), (vI x3), (vI x4), (vI x5)].toArray)) ∧
 ((Qv (vI (IntKind.wrap .i64 (x6 + 1)))) ∧
 ((Qv (vI x6)) ∧
 ((Qv (Pt 1017 0)) ∧
 True)))))) ∧
 (((Qv (vI x7)) ∧
 ((Qv (Value.agg [(Value.string (s8)), (Sl 501 (n9) (c9))].toArray)) ∧
 ((Qv (Value.agg [(Sl 500 (n0) (c0)), (vI x1), (vI x2), (vI x3), (vI x4), (vI x5)].toArray)) ∧
 ((Qv (vI (IntKind.wrap .i64 (x7 - 1)))) ∧
 ((Qv (Value.agg [(Value.string (s8)), (Sl 501 (n9) (c9))].toArray)) ∧
 ((Qv (Value.agg [(Sl 500 (n0) (c0)), (vI x1), (vI x2), (vI x3), (vI x4), (vI x5)].toArray)) ∧
 True)))))) ∧
 (bcase (decide (0 + n0 * 2 ≤ List.length l0))
 (bcase (decide (0 + n9 * 2 ≤ List.length l9))
 (∃ n8 : Int,
 (∃ n10 : Int,
 ((Says C 39 [(D.agg [(D.sl (n0) 2 (List.take (n0 * 2) (List.drop 0 l0))), (D.val (vI x1)), (D.val (vI x2)), (D.val (vI x3)), (D.val (vI x4)), (D.val (vI x5))]), (D.agg [(D.val (Value.string (s8))), (D.sl (n9) 2 (List.take (n9 * 2) (List.drop 0 l9)))]), (D.val (vI (IntKind.wrap .i64 (x7 - 1))))] [(D.agg [(D.val (vI n8)), (D.val (vI n10))])]) ∧
 (((Qv (vI n8)) ∧
 ((Qv (vI x7)) ∧
 ((Qv (Value.agg [(Value.string (s8)), (Sl 501 (n9) (c9))].toArray)) ∧
 ((Qv (Value.agg [(Sl 500 (n0) (c0)), (vI x1), (vI x2), (vI x3), (vI x4), (vI x5)].toArray)) ∧
 True)))) ∧
 (bcase (decide (0 + n0 * 2 ≤ List.length l0))
 (bcase (decide (0 + n9 * 2 ≤ List.length l9))
 (∃ n11 : Int,
 (∃ n12 : Int,
 ((Says C 39 [(D.agg [(D.sl (n0) 2 (List.take (n0 * 2) (List.drop 0 l0))), (D.val (vI x1)), (D.val (vI x2)), (D.val (vI x3)), (D.val (vI x4)), (D.val (vI x5))]), (D.agg [(D.val (Value.string (s8))), (D.sl (n9) 2 (List.take (n9 * 2) (List.drop 0 l9)))]), (D.val (vI x7))] [(D.agg [(D.val (vI n11)), (D.val (vI n12))])]) ∧
 (((Qv (vI n11)) ∧
 ((Qv (vI n8)) ∧
 True)) ∧
 (bcase (n8 != n8)
 (bcase (n11 != n11)
 (True ∧
 (True ∧
 (((Qv (Value.agg [(vI (IntKind.wrap .i64 (x6 + 1))), (vI x7)].toArray)) ∧
 ((Qv (vI (IntKind.wrap .i64 (x6 + 1)))) ∧
 ((Qv (vI x6)) ∧
 ((Qv (Pt 1017 0)) ∧
 True)))) ∧
 (True ∧
 (k [(D.agg [(D.val (vI (IntKind.wrap .i64 (x6 + 1)))), (D.val (vI x7))]), (D.val (vI 0))])))))
 (True ∧
 (True ∧
 (((Qv (Value.agg [(vI (IntKind.wrap .i64 (x6 + 1))), (vI (IntKind.wrap .i64 (x7 - 1)))].toArray)) ∧
 ((Qv (vI (IntKind.wrap .i64 (x6 + 1)))) ∧
 ((Qv (vI x6)) ∧
 ((Qv (Pt 1017 0)) ∧
 True)))) ∧
 (True ∧
 (k [(D.agg [(D.val (vI (IntKind.wrap .i64 (x6 + 1)))), (D.val (vI (IntKind.wrap .i64 (x7 - 1))))]), (D.val (vI 0))]))))))
 (bcase (n11 != n11)
 (True ∧
 (True ∧
 (((Qv (Value.agg [(vI (IntKind.wrap .i64 (x6 + 1))), (vI x7)].toArray)) ∧
 ((Qv (vI (IntKind.wrap .i64 (x6 + 1)))) ∧
 ((Qv (vI x6)) ∧
 ((Qv (Pt 1017 0)) ∧
 True)))) ∧
 (True ∧
 (k [(D.agg [(D.val (vI (IntKind.wrap .i64 (x6 + 1)))), (D.val (vI x7))]), (D.val (vI 0))])))))
 (bcase (decide (n8 < n11))
 (True ∧
 (True ∧
 (((Qv (Value.agg [(vI (IntKind.wrap .i64 (x6 + 1))), (vI (IntKind.wrap .i64 (x7 - 1)))].toArray)) ∧
 ((Qv (vI (IntKind.wrap .i64 (x6 + 1)))) ∧
 ((Qv (vI x6)) ∧
 ((Qv (Pt 1017 0)) ∧
 True)))) ∧
 (True ∧
 (k [(D.agg [(D.val (vI (IntKind.wrap .i64 (x6 + 1)))), (D.val (vI (IntKind.wrap .i64 (x7 - 1))))]), (D.val (vI 0))])))))
 (bcase (decide (n8 > n11))
 (True ∧
 (True ∧
 (((Qv (Value.agg [(vI (IntKind.wrap .i64 (x6 + 1))), (vI x7)].toArray)) ∧
 ((Qv (vI (IntKind.wrap .i64 (x6 + 1)))) ∧
 ((Qv (vI x6)) ∧
 ((Qv (Pt 1017 0)) ∧
 True)))) ∧
 (True ∧
 (k [(D.agg [(D.val (vI (IntKind.wrap .i64 (x6 + 1)))), (D.val (vI x7))]), (D.val (vI 0))])))))
 (True ∧
 (True ∧
 (((Qv (Value.agg [(vI (IntKind.wrap .i64 (x6 + 1))), (vI x7)].toArray)) ∧
 ((Qv (vI (IntKind.wrap .i64 (x6 + 1)))) ∧
 ((Qv (vI x6)) ∧
 ((Qv (Pt 1017 0)) ∧
 True)))) ∧
 (True ∧
 (k [(D.agg [(D.val (vI (IntKind.wrap .i64 (x6 + 1)))), (D.val (vI x7))]), (D.val (vI 0))])))))))))))))
 False)
 False)))))
 False)
 False)))
 (((Qv (Sl 1020 3 3)) ∧
 ((Qv (Value.agg [(Value.string (s8)), (Sl 501 (n9) (c9))].toArray)) ∧
 ((Qv (Value.agg [(Sl 500 (n0) (c0)), (vI x1), (vI x2), (vI x3), (vI x4), (vI x5)].toArray)) ∧
 ((Qv (vI (IntKind.wrap .i64 (x6 + 1)))) ∧
 ((Qv (vI x6)) ∧
 ((Qv (Pt 1017 0)) ∧
 True)))))) ∧
 (((Qv (vI x7)) ∧
 ((Qv (Value.agg [(Value.string (s8)), (Sl 501 (n9) (c9))].toArray)) ∧
 ((Qv (Value.agg [(Sl 500 (n0) (c0)), (vI x1), (vI x2), (vI x3), (vI x4), (vI x5)].toArray)) ∧
 ((Qv (vI (IntKind.wrap .i64 (x7 - 1)))) ∧
 ((Qv (Value.agg [(Value.string (s8)), (Sl 501 (n9) (c9))].toArray)) ∧
 ((Qv (Value.agg [(Sl 500 (n0) (c0)), (vI x1), (vI x2), (vI x3), (vI x4), (vI x5)].toArray)) ∧
 True)))))) ∧
 (bcase (decide (0 + n0 * 2 ≤ List.length l0))
 (bcase (decide (0 + n9 * 2 ≤ List.length l9))
 (∃ n8 : Int,
 (∃ n10 : Int,
 ((Says C 39 [(D.agg [(D.sl (n0) 2 (List.take (n0 * 2) (List.drop 0 l0))), (D.val (vI x1)), (D.val (vI x2)), (D.val (vI x3)), (D.val (vI x4)), (D.val (vI x5))]), (D.agg [(D.val (Value.string (s8))), (D.sl (n9) 2 (List.take (n9 * 2) (List.drop 0 l9)))]), (D.val (vI (IntKind.wrap .i64 (x7 - 1))))] [(D.agg [(D.val (vI n8)), (D.val (vI n10))])]) ∧
 (((Qv (vI n8)) ∧
 ((Qv (vI x7)) ∧
 ((Qv (Value.agg [(Value.string (s8)), (Sl 501 (n9) (c9))].toArray)) ∧
 ((Qv (Value.agg [(Sl 500 (n0) (c0)), (vI x1), (vI x2), (vI x3), (vI x4), (vI x5)].toArray)) ∧
 True)))) ∧
 (bcase (decide (0 + n0 * 2 ≤ List.length l0))
 (bcase (decide (0 + n9 * 2 ≤ List.length l9))
 (∃ n11 : Int,
 (∃ n12 : Int,
 ((Says C 39 [(D.agg [(D.sl (n0) 2 (List.take (n0 * 2) (List.drop 0 l0))), (D.val (vI x1)), (D.val (vI x2)), (D.val (vI x3)), (D.val (vI x4)), (D.val (vI x5))]), (D.agg [(D.val (Value.string (s8))), (D.sl (n9) 2 (List.take (n9 * 2) (List.drop 0 l9)))]), (D.val (vI x7))] [(D.agg [(D.val (vI n11)), (D.val (vI n12))])]) ∧
 (((Qv (vI n11)) ∧
 ((Qv (vI n8)) ∧
 True)) ∧
 (bcase (n8 != n8)
 (bcase (n11 != n11)
 (True ∧
 (True ∧
 (((Qv (vI x7)) ∧
 ((Qv (Value.agg [(Value.string (s8)), (Sl 501 (n9) (c9))].toArray)) ∧
 ((Qv (Value.agg [(Sl 500 (n0) (c0)), (vI x1), (vI x2), (vI x3), (vI x4), (vI x5)].toArray)) ∧
 ((Qv (vI (IntKind.wrap .i64 (x7 + 1)))) ∧
 ((Qv (Value.agg [(Value.string (s8)), (Sl 501 (n9) (c9))].toArray)) ∧
 ((Qv (Value.agg [(Sl 500 (n0) (c0)), (vI x1), (vI x2), (vI x3), (vI x4), (vI x5)].toArray)) ∧
 True)))))) ∧
 (bcase (decide (0 + n0 * 2 ≤ List.length l0))
 (bcase (decide (0 + n9 * 2 ≤ List.length l9))
 (∃ n13 : Int,
 (∃ n14 : Int,
 ((Says C 39 [(D.agg [(D.sl (n0) 2 (List.take (n0 * 2) (List.drop 0 l0))), (D.val (vI x1)), (D.val (vI x2)), (D.val (vI x3)), (D.val (vI x4)), (D.val (vI x5))]), (D.agg [(D.val (Value.string (s8))), (D.sl (n9) 2 (List.take (n9 * 2) (List.drop 0 l9)))]), (D.val (vI (IntKind.wrap .i64 (x7 + 1))))] [(D.agg [(D.val (vI n13)), (D.val (vI n14))])]) ∧
 (((Qv (vI n13)) ∧
 ((Qv (vI x7)) ∧
 ((Qv (Value.agg [(Value.string (s8)), (Sl 501 (n9) (c9))].toArray)) ∧
 ((Qv (Value.agg [(Sl 500 (n0) (c0)), (vI x1), (vI x2), (vI x3), (vI x4), (vI x5)].toArray)) ∧
 True)))) ∧
 (bcase (decide (0 + n0 * 2 ≤ List.length l0))
 (bcase (decide (0 + n9 * 2 ≤ List.length l9))
 (∃ n15 : Int,
 (∃ n16 : Int,
 ((Says C 39 [(D.agg [(D.sl (n0) 2 (List.take (n0 * 2) (List.drop 0 l0))), (D.val (vI x1)), (D.val (vI x2)), (D.val (vI x3)), (D.val (vI x4)), (D.val (vI x5))]), (D.agg [(D.val (Value.string (s8))), (D.sl (n9) 2 (List.take (n9 * 2) (List.drop 0 l9)))]), (D.val (vI x7))] [(D.agg [(D.val (vI n15)), (D.val (vI n16))])]) ∧
 (((Qv (vI n15)) ∧
 ((Qv (vI n13)) ∧
 True)) ∧
 (bcase (n13 != n13)
 (bcase (n15 != n15)
 (True ∧
 (True ∧
 (((Qv (Value.agg [(vI (IntKind.wrap .i64 (x6 + 1))), (vI x7)].toArray)) ∧
 ((Qv (vI (IntKind.wrap .i64 (x6 + 1)))) ∧
 ((Qv (vI x6)) ∧
 ((Qv (Pt 1017 0)) ∧
 True)))) ∧
 (True ∧
 (k [(D.agg [(D.val (vI (IntKind.wrap .i64 (x6 + 1)))), (D.val (vI x7))]), (D.val (vI 0))])))))
 (True ∧
 (True ∧
 (((Qv (Value.agg [(vI (IntKind.wrap .i64 (x6 + 1))), (vI (IntKind.wrap .i64 (x7 + 1)))].toArray)) ∧
 ((Qv (vI (IntKind.wrap .i64 (x6 + 1)))) ∧
 ((Qv (vI x6)) ∧
 ((Qv (Pt 1017 0)) ∧
 True)))) ∧
 (True ∧
 (k [(D.agg [(D.val (vI (IntKind.wrap .i64 (x6 + 1)))), (D.val (vI (IntKind.wrap .i64 (x7 + 1))))]), (D.val (vI 0))]))))))
 (bcase (n15 != n15)
 (True ∧
 (True ∧
 (((Qv (Value.agg [(vI (IntKind.wrap .i64 (x6 + 1))), (vI x7)].toArray)) ∧
 ((Qv (vI (IntKind.wrap .i64 (x6 + 1)))) ∧
 ((Qv (vI x6)) ∧
 ((Qv (Pt 1017 0)) ∧
 True)))) ∧
 (True ∧
 (k [(D.agg [(D.val (vI (IntKind.wrap .i64 (x6 + 1)))), (D.val (vI x7))]), (D.val (vI 0))])))))
 (bcase (decide (n13 < n15))
 (True ∧
 (True ∧
 (((Qv (Value.agg [(vI (IntKind.wrap .i64 (x6 + 1))), (vI (IntKind.wrap .i64 (x7 + 1)))].toArray)) ∧
 ((Qv (vI (IntKind.wrap .i64 (x6 + 1)))) ∧
 ((Qv (vI x6)) ∧
 ((Qv (Pt 1017 0)) ∧
 True)))) ∧
 (True ∧
 (k [(D.agg [(D.val (vI (IntKind.wrap .i64 (x6 + 1)))), (D.val (vI (IntKind.wrap .i64 (x7 + 1))))]), (D.val (vI 0))])))))
 (bcase (decide (n13 > n15))
 (True ∧
 (True ∧
 (((Qv (Value.agg [(vI (IntKind.wrap .i64 (x6 + 1))), (vI x7)].toArray)) ∧
 ((Qv (vI (IntKind.wrap .i64 (x6 + 1)))) ∧
 ((Qv (vI x6)) ∧
 ((Qv (Pt 1017 0)) ∧
 True)))) ∧
 (True ∧
 (k [(D.agg [(D.val (vI (IntKind.wrap .i64 (x6 + 1)))), (D.val (vI x7))]), (D.val (vI 0))])))))
 (True ∧
 (True ∧
 (((Qv (Value.agg [(vI (IntKind.wrap .i64 (x6 + 1))), (vI x7)].toArray)) ∧
 ((Qv (vI (IntKind.wrap .i64 (x6 + 1)))) ∧
 ((Qv (vI x6)) ∧
 ((Qv (Pt 1017 0)) ∧
 True)))) ∧
 (True ∧
 (k [(D.agg [(D.val (vI (IntKind.wrap .i64 (x6 + 1)))), (D.val (vI x7))]), (D.val (vI 0))])))))))))))))
 False)
 False)))))
 False)
 False))))
 (True ∧
 (True ∧
 (((Qv (vI (IntKind.wrap .i64 (x7 - 1)))) ∧
 ((Qv (Value.agg [(Value.string (s8)), (Sl 501 (n9) (c9))].toArray)) ∧
 ((Qv (Value.agg [(Sl 500 (n0) (c0)), (vI x1), (vI x2), (vI x3), (vI x4), (vI x5)].toArray)) ∧
 ((Qv (vI (IntKind.wrap .i64 (x7 + 1)))) ∧
 ((Qv (Value.agg [(Value.string (s8)), (Sl 501 (n9) (c9))].toArray)) ∧
 ((Qv (Value.agg [(Sl 500 (n0) (c0)), (vI x1), (vI x2), (vI x3), (vI x4), (vI x5)].toArray)) ∧
 True)))))) ∧
 (bcase (decide (0 + n0 * 2 ≤ List.length l0))
 (bcase (decide (0 + n9 * 2 ≤ List.length l9))
 (∃ n13 : Int,
 (∃ n14 : Int,
 ((Says C 39 [(D.agg [(D.sl (n0) 2 (List.take (n0 * 2) (List.drop 0 l0))), (D.val (vI x1)), (D.val (vI x2)), (D.val (vI x3)), (D.val (vI x4)), (D.val (vI x5))]), (D.agg [(D.val (Value.string (s8))), (D.sl (n9) 2 (List.take (n9 * 2) (List.drop 0 l9)))]), (D.val (vI (IntKind.wrap .i64 (x7 + 1))))] [(D.agg [(D.val (vI n13)), (D.val (vI n14))])]) ∧
 (((Qv (vI n13)) ∧
 ((Qv (vI (IntKind.wrap .i64 (x7 - 1)))) ∧
 ((Qv (Value.agg [(Value.string (s8)), (Sl 501 (n9) (c9))].toArray)) ∧
 ((Qv (Value.agg [(Sl 500 (n0) (c0)), (vI x1), (vI x2), (vI x3), (vI x4), (vI x5)].toArray)) ∧
 True)))) ∧
 (bcase (decide (0 + n0 * 2 ≤ List.length l0))
 (bcase (decide (0 + n9 * 2 ≤ List.length l9))
 (∃ n15 : Int,
 (∃ n16 : Int,
 ((Says C 39 [(D.agg [(D.sl (n0) 2 (List.take (n0 * 2) (List.drop 0 l0))), (D.val (vI x1)), (D.val (vI x2)), (D.val (vI x3)), (D.val (vI x4)), (D.val (vI x5))]), (D.agg [(D.val (Value.string (s8))), (D.sl (n9) 2 (List.take (n9 * 2) (List.drop 0 l9)))]), (D.val (vI (IntKind.wrap .i64 (x7 - 1))))] [(D.agg [(D.val (vI n15)), (D.val (vI n16))])]) ∧
 (((Qv (vI n15)) ∧
 ((Qv (vI n13)) ∧
 True)) ∧
 (bcase (n13 != n13)
 (bcase (n15 != n15)
 (True ∧
 (True ∧
 (((Qv (Value.agg [(vI (IntKind.wrap .i64 (x6 + 1))), (vI (IntKind.wrap .i64 (x7 - 1)))].toArray)) ∧
 ((Qv (vI (IntKind.wrap .i64 (x6 + 1)))) ∧
 ((Qv (vI x6)) ∧
 ((Qv (Pt 1017 0)) ∧
 True)))) ∧
 (True ∧
 (k [(D.agg [(D.val (vI (IntKind.wrap .i64 (x6 + 1)))), (D.val (vI (IntKind.wrap .i64 (x7 - 1))))]), (D.val (vI 0))])))))
 (True ∧
 (True ∧
 (((Qv (Value.agg [(vI (IntKind.wrap .i64 (x6 + 1))), (vI (IntKind.wrap .i64 (x7 + 1)))].toArray)) ∧
 ((Qv (vI (IntKind.wrap .i64 (x6 + 1)))) ∧
 ((Qv (vI x6)) ∧
 ((Qv (Pt 1017 0)) ∧
 True)))) ∧
 (True ∧
 (k [(D.agg [(D.val (vI (IntKind.wrap .i64 (x6 + 1)))), (D.val (vI (IntKind.wrap .i64 (x7 + 1))))]), (D.val (vI 0))]))))))
 (bcase (n15 != n15)
 (True ∧
 (True ∧
 (((Qv (Value.agg [(vI (IntKind.wrap .i64 (x6 + 1))), (vI (IntKind.wrap .i64 (x7 - 1)))].toArray)) ∧
 ((Qv (vI (IntKind.wrap .i64 (x6 + 1)))) ∧
 ((Qv (vI x6)) ∧
 ((Qv (Pt 1017 0)) ∧
 True)))) ∧
 (True ∧
 (k [(D.agg [(D.val (vI (IntKind.wrap .i64 (x6 + 1)))), (D.val (vI (IntKind.wrap .i64 (x7 - 1))))]), (D.val (vI 0))])))))
 (bcase (decide (n13 < n15))
 (True ∧
 (True ∧
 (((Qv (Value.agg [(vI (IntKind.wrap .i64 (x6 + 1))), (vI (IntKind.wrap .i64 (x7 + 1)))].toArray)) ∧
 ((Qv (vI (IntKind.wrap .i64 (x6 + 1)))) ∧
 ((Qv (vI x6)) ∧
 ((Qv (Pt 1017 0)) ∧
 True)))) ∧
 (True ∧
 (k [(D.agg [(D.val (vI (IntKind.wrap .i64 (x6 + 1)))), (D.val (vI (IntKind.wrap .i64 (x7 + 1))))]), (D.val (vI 0))])))))
 (bcase (decide (n13 > n15))
 (True ∧
 (True ∧
 (((Qv (Value.agg [(vI (IntKind.wrap .i64 (x6 + 1))), (vI (IntKind.wrap .i64 (x7 - 1)))].toArray)) ∧
 ((Qv (vI (IntKind.wrap .i64 (x6 + 1)))) ∧
 ((Qv (vI x6)) ∧
 ((Qv (Pt 1017 0)) ∧
 True)))) ∧
 (True ∧
 (k [(D.agg [(D.val (vI (IntKind.wrap .i64 (x6 + 1)))), (D.val (vI (IntKind.wrap .i64 (x7 - 1))))]), (D.val (vI 0))])))))
 (True ∧
 (True ∧
 (((Qv (Value.agg [(vI (IntKind.wrap .i64 (x6 + 1))), (vI (IntKind.wrap .i64 (x7 - 1)))].toArray)) ∧
 ((Qv (vI (IntKind.wrap .i64 (x6 + 1)))) ∧
 ((Qv (vI x6)) ∧
 ((Qv (Pt 1017 0)) ∧
 True)))) ∧
 (True ∧
 (k [(D.agg [(D.val (vI (IntKind.wrap .i64 (x6 + 1)))), (D.val (vI (IntKind.wrap .i64 (x7 - 1))))]), (D.val (vI 0))])))))))))))))
 False)
 False)))))
 False)
 False)))))
 (bcase (n11 != n11)
 (True ∧
 (True ∧
 (((Qv (vI x7)) ∧
 ((Qv (Value.agg [(Value.string (s8)), (Sl 501 (n9) (c9))].toArray)) ∧
 ((Qv (Value.agg [(Sl 500 (n0) (c0)), (vI x1), (vI x2), (vI x3), (vI x4), (vI x5)].toArray)) ∧
 ((Qv (vI (IntKind.wrap .i64 (x7 + 1)))) ∧
 ((Qv (Value.agg [(Value.string (s8)), (Sl 501 (n9) (c9))].toArray)) ∧
 ((Qv (Value.agg [(Sl 500 (n0) (c0)), (vI x1), (vI x2), (vI x3), (vI x4), (vI x5)].toArray)) ∧
 True)))))) ∧
 (bcase (decide (0 + n0 * 2 ≤ List.length l0))
 (bcase (decide (0 + n9 * 2 ≤ List.length l9))
 (∃ n13 : Int,
 (∃ n14 : Int,
 ((Says C 39 [(D.agg [(D.sl (n0) 2 (List.take (n0 * 2) (List.drop 0 l0))), (D.val (vI x1)), (D.val (vI x2)), (D.val (vI x3)), (D.val (vI x4)), (D.val (vI x5))]), (D.agg [(D.val (Value.string (s8))), (D.sl (n9) 2 (List.take (n9 * 2) (List.drop 0 l9)))]), (D.val (vI (IntKind.wrap .i64 (x7 + 1))))] [(D.agg [(D.val (vI n13)), (D.val (vI n14))])]) ∧
 (((Qv (vI n13)) ∧
 ((Qv (vI x7)) ∧
 ((Qv (Value.agg [(Value.string (s8)), (Sl 501 (n9) (c9))].toArray)) ∧
 ((Qv (Value.agg [(Sl 500 (n0) (c0)), (vI x1), (vI x2), (vI x3), (vI x4), (vI x5)].toArray)) ∧
 True)))) ∧
 (bcase (decide (0 + n0 * 2 ≤ List.length l0))
 (bcase (decide (0 + n9 * 2 ≤ List.length l9))
 (∃ n15 : Int,
 (∃ n16 : Int,
 ((Says C 39 [(D.agg [(D.sl (n0) 2 (List.take (n0 * 2) (List.drop 0 l0))), (D.val (vI x1)), (D.val (vI x2)), (D.val (vI x3)), (D.val (vI x4)), (D.val (vI x5))]), (D.agg [(D.val (Value.string (s8))), (D.sl (n9) 2 (List.take (n9 * 2) (List.drop 0 l9)))]), (D.val (vI x7))] [(D.agg [(D.val (vI n15)), (D.val (vI n16))])]) ∧
 (((Qv (vI n15)) ∧
 ((Qv (vI n13)) ∧
 True)) ∧
 (bcase (n13 != n13)
 (bcase (n15 != n15)
 (True ∧
 (True ∧
 (((Qv (Value.agg [(vI (IntKind.wrap .i64 (x6 + 1))), (vI x7)].toArray)) ∧
 ((Qv (vI (IntKind.wrap .i64 (x6 + 1)))) ∧
 ((Qv (vI x6)) ∧
 ((Qv (Pt 1017 0)) ∧
 True)))) ∧
 (True ∧
 (k [(D.agg [(D.val (vI (IntKind.wrap .i64 (x6 + 1)))), (D.val (vI x7))]), (D.val (vI 0))])))))
 (True ∧
 (True ∧
 (((Qv (Value.agg [(vI (IntKind.wrap .i64 (x6 + 1))), (vI (IntKind.wrap .i64 (x7 + 1)))].toArray)) ∧
 ((Qv (vI (IntKind.wrap .i64 (x6 + 1)))) ∧
 ((Qv (vI x6)) ∧
 ((Qv (Pt 1017 0)) ∧
 True)))) ∧
 (True ∧
 (k [(D.agg [(D.val (vI (IntKind.wrap .i64 (x6 + 1)))), (D.val (vI (IntKind.wrap .i64 (x7 + 1))))]), (D.val (vI 0))]))))))
 (bcase (n15 != n15)
 (True ∧
 (True ∧
 (((Qv (Value.agg [(vI (IntKind.wrap .i64 (x6 + 1))), (vI x7)].toArray)) ∧
 ((Qv (vI (IntKind.wrap .i64 (x6 + 1)))) ∧
 ((Qv (vI x6)) ∧
 ((Qv (Pt 1017 0)) ∧
 True)))) ∧
 (True ∧
 (k [(D.agg [(D.val (vI (IntKind.wrap .i64 (x6 + 1)))), (D.val (vI x7))]), (D.val (vI 0))])))))
 (bcase (decide (n13 < n15))
 (True ∧
 (True ∧
 (((Qv (Value.agg [(vI (IntKind.wrap .i64 (x6 + 1))), (vI (IntKind.wrap .i64 (x7 + 1)))].toArray)) ∧
 ((Qv (vI (IntKind.wrap .i64 (x6 + 1)))) ∧
 ((Qv (vI x6)) ∧
 ((Qv (Pt 1017 0)) ∧
 True)))) ∧
 (True ∧
 (k [(D.agg [(D.val (vI (IntKind.wrap .i64 (x6 + 1)))), (D.val (vI (IntKind.wrap .i64 (x7 + 1))))]), (D.val (vI 0))])))))
 (bcase (decide (n13 > n15))
 (True ∧
 (True ∧
 (((Qv (Value.agg [(vI (IntKind.wrap .i64 (x6 + 1))), (vI x7)].toArray)) ∧
 ((Qv (vI (IntKind.wrap .i64 (x6 + 1)))) ∧
 ((Qv (vI x6)) ∧
 ((Qv (Pt 1017 0)) ∧
 True)))) ∧
 (True ∧
 (k [(D.agg [(D.val (vI (IntKind.wrap .i64 (x6 + 1)))), (D.val (vI x7))]), (D.val (vI 0))])))))
 (True ∧
 (True ∧
 (((Qv (Value.agg [(vI (IntKind.wrap .i64 (x6 + 1))), (vI x7)].toArray)) ∧
 ((Qv (vI (IntKind.wrap .i64 (x6 + 1)))) ∧
 ((Qv (vI x6)) ∧
 ((Qv (Pt 1017 0)) ∧
 True)))) ∧
 (True ∧
 (k [(D.agg [(D.val (vI (IntKind.wrap .i64 (x6 + 1)))), (D.val (vI x7))]), (D.val (vI 0))])))))))))))))
 False)
 False)))))
 False)
 False))))
 (bcase (decide (n8 < n11))
 (True ∧
 (True ∧
 (((Qv (vI (IntKind.wrap .i64 (x7 - 1)))) ∧
 ((Qv (Value.agg [(Value.string (s8)), (Sl 501 (n9) (c9))].toArray)) ∧
 ((Qv (Value.agg [(Sl 500 (n0) (c0)), (vI x1), (vI x2), (vI x3), (vI x4), (vI x5)].toArray)) ∧
 ((Qv (vI (IntKind.wrap .i64 (x7 + 1)))) ∧
 ((Qv (Value.agg [(Value.string (s8)), (Sl 501 (n9) (c9))].toArray)) ∧
 ((Qv (Value.agg [(Sl 500 (n0) (c0)), (vI x1), (vI x2), (vI x3), (vI x4), (vI x5)].toArray)) ∧
 True)))))) ∧
 (bcase (decide (0 + n0 * 2 ≤ List.length l0))
 (bcase (decide (0 + n9 * 2 ≤ List.length l9))
 (∃ n13 : Int,
 (∃ n14 : Int,
 ((Says C 39 [(D.agg [(D.sl (n0) 2 (List.take (n0 * 2) (List.drop 0 l0))), (D.val (vI x1)), (D.val (vI x2)), (D.val (vI x3)), (D.val (vI x4)), (D.val (vI x5))]), (D.agg [(D.val (Value.string (s8))), (D.sl (n9) 2 (List.take (n9 * 2) (List.drop 0 l9)))]), (D.val (vI (IntKind.wrap .i64 (x7 + 1))))] [(D.agg [(D.val (vI n13)), (D.val (vI n14))])]) ∧
 (((Qv (vI n13)) ∧
 ((Qv (vI (IntKind.wrap .i64 (x7 - 1)))) ∧
 ((Qv (Value.agg [(Value.string (s8)), (Sl 501 (n9) (c9))].toArray)) ∧
 ((Qv (Value.agg [(Sl 500 (n0) (c0)), (vI x1), (vI x2), (vI x3), (vI x4), (vI x5)].toArray)) ∧
 True)))) ∧
 (bcase (decide (0 + n0 * 2 ≤ List.length l0))
 (bcase (decide (0 + n9 * 2 ≤ List.length l9))
 (∃ n15 : Int,
 (∃ n16 : Int,
 ((Says C 39 [(D.agg [(D.sl (n0) 2 (List.take (n0 * 2) (List.drop 0 l0))), (D.val (vI x1)), (D.val (vI x2)), (D.val (vI x3)), (D.val (vI x4)), (D.val (vI x5))]), (D.agg [(D.val (Value.string (s8))), (D.sl (n9) 2 (List.take (n9 * 2) (List.drop 0 l9)))]), (D.val (vI (IntKind.wrap .i64 (x7 - 1))))] [(D.agg [(D.val (vI n15)), (D.val (vI n16))])]) ∧
 (((Qv (vI n15)) ∧
 ((Qv (vI n13)) ∧
 True)) ∧
 (bcase (n13 != n13)
 (bcase (n15 != n15)
 (True ∧
 (True ∧
 (((Qv (Value.agg [(vI (IntKind.wrap .i64 (x6 + 1))), (vI (IntKind.wrap .i64 (x7 - 1)))].toArray)) ∧
 ((Qv (vI (IntKind.wrap .i64 (x6 + 1)))) ∧
 ((Qv (vI x6)) ∧
 ((Qv (Pt 1017 0)) ∧
 True)))) ∧
 (True ∧
 (k [(D.agg [(D.val (vI (IntKind.wrap .i64 (x6 + 1)))), (D.val (vI (IntKind.wrap .i64 (x7 - 1))))]), (D.val (vI 0))])))))
 (True ∧
 (True ∧
 (((Qv (Value.agg [(vI (IntKind.wrap .i64 (x6 + 1))), (vI (IntKind.wrap .i64 (x7 + 1)))].toArray)) ∧
 ((Qv (vI (IntKind.wrap .i64 (x6 + 1)))) ∧
 ((Qv (vI x6)) ∧
 ((Qv (Pt 1017 0)) ∧
 True)))) ∧
 (True ∧
 (k [(D.agg [(D.val (vI (IntKind.wrap .i64 (x6 + 1)))), (D.val (vI (IntKind.wrap .i64 (x7 + 1))))]), (D.val (vI 0))]))))))
 (bcase (n15 != n15)
 (True ∧
 (True ∧
 (((Qv (Value.agg [(vI (IntKind.wrap .i64 (x6 + 1))), (vI (IntKind.wrap .i64 (x7 - 1)))].toArray)) ∧
 ((Qv (vI (IntKind.wrap .i64 (x6 + 1)))) ∧
 ((Qv (vI x6)) ∧
 ((Qv (Pt 1017 0)) ∧
 True)))) ∧
 (True ∧
 (k [(D.agg [(D.val (vI (IntKind.wrap .i64 (x6 + 1)))), (D.val (vI (IntKind.wrap .i64 (x7 - 1))))]), (D.val (vI 0))])))))
 (bcase (decide (n13 < n15))
 (True ∧
 (True ∧
 (((Qv (Value.agg [(vI (IntKind.wrap .i64 (x6 + 1))), (vI (IntKind.wrap .i64 (x7 + 1)))].toArray)) ∧
 ((Qv (vI (IntKind.wrap .i64 (x6 + 1)))) ∧
 ((Qv (vI x6)) ∧
 ((Qv (Pt 1017 0)) ∧
 True)))) ∧
 (True ∧
 (k [(D.agg [(D.val (vI (IntKind.wrap .i64 (x6 + 1)))), (D.val (vI (IntKind.wrap .i64 (x7 + 1))))]), (D.val (vI 0))])))))
 (bcase (decide (n13 > n15))
 (True ∧
 (True ∧
 (((Qv (Value.agg [(vI (IntKind.wrap .i64 (x6 + 1))), (vI (IntKind.wrap .i64 (x7 - 1)))].toArray)) ∧
 ((Qv (vI (IntKind.wrap .i64 (x6 + 1)))) ∧
 ((Qv (vI x6)) ∧
 ((Qv (Pt 1017 0)) ∧
 True)))) ∧
 (True ∧
 (k [(D.agg [(D.val (vI (IntKind.wrap .i64 (x6 + 1)))), (D.val (vI (IntKind.wrap .i64 (x7 - 1))))]), (D.val (vI 0))])))))
 (True ∧
 (True ∧
 (((Qv (Value.agg [(vI (IntKind.wrap .i64 (x6 + 1))), (vI (IntKind.wrap .i64 (x7 - 1)))].toArray)) ∧
 ((Qv (vI (IntKind.wrap .i64 (x6 + 1)))) ∧
 ((Qv (vI x6)) ∧
 ((Qv (Pt 1017 0)) ∧
 True)))) ∧
 (True ∧
 (k [(D.agg [(D.val (vI (IntKind.wrap .i64 (x6 + 1)))), (D.val (vI (IntKind.wrap .i64 (x7 - 1))))]), (D.val (vI 0))])))))))))))))
 False)
 False)))))
 False)
 False))))
 (bcase (decide (n8 > n11))
 (True ∧
 (True ∧
 (((Qv (vI x7)) ∧
 ((Qv (Value.agg [(Value.string (s8)), (Sl 501 (n9) (c9))].toArray)) ∧
 ((Qv (Value.agg [(Sl 500 (n0) (c0)), (vI x1), (vI x2), (vI x3), (vI x4), (vI x5)].toArray)) ∧
 ((Qv (vI (IntKind.wrap .i64 (x7 + 1)))) ∧
 ((Qv (Value.agg [(Value.string (s8)), (Sl 501 (n9) (c9))].toArray)) ∧
 ((Qv (Value.agg [(Sl 500 (n0) (c0)), (vI x1), (vI x2), (vI x3), (vI x4), (vI x5)].toArray)) ∧
 True)))))) ∧
 (bcase (decide (0 + n0 * 2 ≤ List.length l0))
 (bcase (decide (0 + n9 * 2 ≤ List.length l9))
 (∃ n13 : Int,
 (∃ n14 : Int,
 ((Says C 39 [(D.agg [(D.sl (n0) 2 (List.take (n0 * 2) (List.drop 0 l0))), (D.val (vI x1)), (D.val (vI x2)), (D.val (vI x3)), (D.val (vI x4)), (D.val (vI x5))]), (D.agg [(D.val (Value.string (s8))), (D.sl (n9) 2 (List.take (n9 * 2) (List.drop 0 l9)))]), (D.val (vI (IntKind.wrap .i64 (x7 + 1))))] [(D.agg [(D.val (vI n13)), (D.val (vI n14))])]) ∧
 (((Qv (vI n13)) ∧
 ((Qv (vI x7)) ∧
 ((Qv (Value.agg [(Value.string (s8)), (Sl 501 (n9) (c9))].toArray)) ∧
 ((Qv (Value.agg [(Sl 500 (n0) (c0)), (vI x1), (vI x2), (vI x3), (vI x4), (vI x5)].toArray)) ∧
 True)))) ∧
 (bcase (decide (0 + n0 * 2 ≤ List.length l0))
 (bcase (decide (0 + n9 * 2 ≤ List.length l9))
 (∃ n15 : Int,
 (∃ n16 : Int,
 ((Says C 39 [(D.agg [(D.sl (n0) 2 (List.take (n0 * 2) (List.drop 0 l0))), (D.val (vI x1)), (D.val (vI x2)), (D.val (vI x3)), (D.val (vI x4)), (D.val (vI x5))]), (D.agg [(D.val (Value.string (s8))), (D.sl (n9) 2 (List.take (n9 * 2) (List.drop 0 l9)))]), (D.val (vI x7))] [(D.agg [(D.val (vI n15)), (D.val (vI n16))])]) ∧
 (((Qv (vI n15)) ∧
 ((Qv (vI n13)) ∧
 True)) ∧
 (bcase (n13 != n13)
 (bcase (n15 != n15)
 (True ∧
 (True ∧
 (((Qv (Value.agg [(vI (IntKind.wrap .i64 (x6 + 1))), (vI x7)].toArray)) ∧
 ((Qv (vI (IntKind.wrap .i64 (x6 + 1)))) ∧
 ((Qv (vI x6)) ∧
 ((Qv (Pt 1017 0)) ∧
 True)))) ∧
 (True ∧
 (k [(D.agg [(D.val (vI (IntKind.wrap .i64 (x6 + 1)))), (D.val (vI x7))]), (D.val (vI 0))])))))
 (True ∧
 (True ∧
 (((Qv (Value.agg [(vI (IntKind.wrap .i64 (x6 + 1))), (vI (IntKind.wrap .i64 (x7 + 1)))].toArray)) ∧
 ((Qv (vI (IntKind.wrap .i64 (x6 + 1)))) ∧
 ((Qv (vI x6)) ∧
 ((Qv (Pt 1017 0)) ∧
 True)))) ∧
 (True ∧
 (k [(D.agg [(D.val (vI (IntKind.wrap .i64 (x6 + 1)))), (D.val (vI (IntKind.wrap .i64 (x7 + 1))))]), (D.val (vI 0))]))))))
 (bcase (n15 != n15)
 (True ∧
 (True ∧
 (((Qv (Value.agg [(vI (IntKind.wrap .i64 (x6 + 1))), (vI x7)].toArray)) ∧
 ((Qv (vI (IntKind.wrap .i64 (x6 + 1)))) ∧
 ((Qv (vI x6)) ∧
 ((Qv (Pt 1017 0)) ∧
 True)))) ∧
 (True ∧
 (k [(D.agg [(D.val (vI (IntKind.wrap .i64 (x6 + 1)))), (D.val (vI x7))]), (D.val (vI 0))])))))
 (bcase (decide (n13 < n15))
 (True ∧
 (True ∧
 (((Qv (Value.agg [(vI (IntKind.wrap .i64 (x6 + 1))), (vI (IntKind.wrap .i64 (x7 + 1)))].toArray)) ∧
 ((Qv (vI (IntKind.wrap .i64 (x6 + 1)))) ∧
 ((Qv (vI x6)) ∧
 ((Qv (Pt 1017 0)) ∧
 True)))) ∧
 (True ∧
 (k [(D.agg [(D.val (vI (IntKind.wrap .i64 (x6 + 1)))), (D.val (vI (IntKind.wrap .i64 (x7 + 1))))]), (D.val (vI 0))])))))
 (bcase (decide (n13 > n15))
 (True ∧
 (True ∧
 (((Qv (Value.agg [(vI (IntKind.wrap .i64 (x6 + 1))), (vI x7)].toArray)) ∧
 ((Qv (vI (IntKind.wrap .i64 (x6 + 1)))) ∧
 ((Qv (vI x6)) ∧
 ((Qv (Pt 1017 0)) ∧
 True)))) ∧
 (True ∧
 (k [(D.agg [(D.val (vI (IntKind.wrap .i64 (x6 + 1)))), (D.val (vI x7))]), (D.val (vI 0))])))))
 (True ∧
 (True ∧
 (((Qv (Value.agg [(vI (IntKind.wrap .i64 (x6 + 1))), (vI x7)].toArray)) ∧
 ((Qv (vI (IntKind.wrap .i64 (x6 + 1)))) ∧
 ((Qv (vI x6)) ∧
 ((Qv (Pt 1017 0)) ∧
 True)))) ∧
 (True ∧
 (k [(D.agg [(D.val (vI (IntKind.wrap .i64 (x6 + 1)))), (D.val (vI x7))]), (D.val (vI 0))])))))))))))))
 False)
 False)))))
 False)
 False))))
 (True ∧
 (True ∧
 (((Qv (vI x7)) ∧
 ((Qv (Value.agg [(Value.string (s8)), (Sl 501 (n9) (c9))].toArray)) ∧
 ((Qv (Value.agg [(Sl 500 (n0) (c0)), (vI x1), (vI x2), (vI x3), (vI x4), (vI x5)].toArray)) ∧
 ((Qv (vI (IntKind.wrap .i64 (x7 + 1)))) ∧
 ((Qv (Value.agg [(Value.string (s8)), (Sl 501 (n9) (c9))].toArray)) ∧
 ((Qv (Value.agg [(Sl 500 (n0) (c0)), (vI x1), (vI x2), (vI x3), (vI x4), (vI x5)].toArray)) ∧
 True)))))) ∧
 (bcase (decide (0 + n0 * 2 ≤ List.length l0))
 (bcase (decide (0 + n9 * 2 ≤ List.length l9))
 (∃ n13 : Int,
 (∃ n14 : Int,
 ((Says C 39 [(D.agg [(D.sl (n0) 2 (List.take (n0 * 2) (List.drop 0 l0))), (D.val (vI x1)), (D.val (vI x2)), (D.val (vI x3)), (D.val (vI x4)), (D.val (vI x5))]), (D.agg [(D.val (Value.string (s8))), (D.sl (n9) 2 (List.take (n9 * 2) (List.drop 0 l9)))]), (D.val (vI (IntKind.wrap .i64 (x7 + 1))))] [(D.agg [(D.val (vI n13)), (D.val (vI n14))])]) ∧
 (((Qv (vI n13)) ∧
 ((Qv (vI x7)) ∧
 ((Qv (Value.agg [(Value.string (s8)), (Sl 501 (n9) (c9))].toArray)) ∧
 ((Qv (Value.agg [(Sl 500 (n0) (c0)), (vI x1), (vI x2), (vI x3), (vI x4), (vI x5)].toArray)) ∧
 True)))) ∧
 (bcase (decide (0 + n0 * 2 ≤ List.length l0))
 (bcase (decide (0 + n9 * 2 ≤ List.length l9))
 (∃ n15 : Int,
 (∃ n16 : Int,
 ((Says C 39 [(D.agg [(D.sl (n0) 2 (List.take (n0 * 2) (List.drop 0 l0))), (D.val (vI x1)), (D.val (vI x2)), (D.val (vI x3)), (D.val (vI x4)), (D.val (vI x5))]), (D.agg [(D.val (Value.string (s8))), (D.sl (n9) 2 (List.take (n9 * 2) (List.drop 0 l9)))]), (D.val (vI x7))] [(D.agg [(D.val (vI n15)), (D.val (vI n16))])]) ∧
 (((Qv (vI n15)) ∧
 ((Qv (vI n13)) ∧
 True)) ∧
 (bcase (n13 != n13)
 (bcase (n15 != n15)
 (True ∧
 (True ∧
 (((Qv (Value.agg [(vI (IntKind.wrap .i64 (x6 + 1))), (vI x7)].toArray)) ∧
 ((Qv (vI (IntKind.wrap .i64 (x6 + 1)))) ∧
 ((Qv (vI x6)) ∧
 ((Qv (Pt 1017 0)) ∧
 True)))) ∧
 (True ∧
 (k [(D.agg [(D.val (vI (IntKind.wrap .i64 (x6 + 1)))), (D.val (vI x7))]), (D.val (vI 0))])))))
 (True ∧
 (True ∧
 (((Qv (Value.agg [(vI (IntKind.wrap .i64 (x6 + 1))), (vI (IntKind.wrap .i64 (x7 + 1)))].toArray)) ∧
 ((Qv (vI (IntKind.wrap .i64 (x6 + 1)))) ∧
 ((Qv (vI x6)) ∧
 ((Qv (Pt 1017 0)) ∧
 True)))) ∧
 (True ∧
 (k [(D.agg [(D.val (vI (IntKind.wrap .i64 (x6 + 1)))), (D.val (vI (IntKind.wrap .i64 (x7 + 1))))]), (D.val (vI 0))]))))))
 (bcase (n15 != n15)
 (True ∧
 (True ∧
 (((Qv (Value.agg [(vI (IntKind.wrap .i64 (x6 + 1))), (vI x7)].toArray)) ∧
 ((Qv (vI (IntKind.wrap .i64 (x6 + 1)))) ∧
 ((Qv (vI x6)) ∧
 ((Qv (Pt 1017 0)) ∧
 True)))) ∧
 (True ∧
 (k [(D.agg [(D.val (vI (IntKind.wrap .i64 (x6 + 1)))), (D.val (vI x7))]), (D.val (vI 0))])))))
 (bcase (decide (n13 < n15))
 (True ∧
 (True ∧
 (((Qv (Value.agg [(vI (IntKind.wrap .i64 (x6 + 1))), (vI (IntKind.wrap .i64 (x7 + 1)))].toArray)) ∧
 ((Qv (vI (IntKind.wrap .i64 (x6 + 1)))) ∧
 ((Qv (vI x6)) ∧
 ((Qv (Pt 1017 0)) ∧
 True)))) ∧
 (True ∧
 (k [(D.agg [(D.val (vI (IntKind.wrap .i64 (x6 + 1)))), (D.val (vI (IntKind.wrap .i64 (x7 + 1))))]), (D.val (vI 0))])))))
 (bcase (decide (n13 > n15))
 (True ∧
 (True ∧
 (((Qv (Value.agg [(vI (IntKind.wrap .i64 (x6 + 1))), (vI x7)].toArray)) ∧
 ((Qv (vI (IntKind.wrap .i64 (x6 + 1)))) ∧
 ((Qv (vI x6)) ∧
 ((Qv (Pt 1017 0)) ∧
 True)))) ∧
 (True ∧
 (k [(D.agg [(D.val (vI (IntKind.wrap .i64 (x6 + 1)))), (D.val (vI x7))]), (D.val (vI 0))])))))
 (True ∧
 (True ∧
 (((Qv (Value.agg [(vI (IntKind.wrap .i64 (x6 + 1))), (vI x7)].toArray)) ∧
 ((Qv (vI (IntKind.wrap .i64 (x6 + 1)))) ∧
 ((Qv (vI x6)) ∧
 ((Qv (Pt 1017 0)) ∧
 True)))) ∧
 (True ∧
 (k [(D.agg [(D.val (vI (IntKind.wrap .i64 (x6 + 1)))), (D.val (vI x7))]), (D.val (vI 0))])))))))))))))
 False)
 False)))))
 False)
 False))))))))))))
 False)
 False)))))
 False)
 False))))))))))))))))))))
 False))))))))))))))))))
 False) := by kernel_rfl
def gBF (C : Ct) (L : AtLoop) (n0 : Nat) (c0 : Nat) (l0 : List Value) (x1 : Int) (x2 : Int) (x3 : Int) (x4 : Int) (x5 : Int) (s6 : ByteArray) (n7 : Nat) (c7 : Nat) (l7 : List Value) (k : List D → Prop) : Prop := wpFn Try.prog (hM C) L 0 13 #[.agg #[.slice (some ⟨500, 0, none⟩) n0 c0, .int .i64 x1, .int .i64 x2, .int .i64 x3, .int .i64 x4, .int .i64 x5], .agg #[.string s6, .slice (some ⟨501, 0, none⟩) n7 c7]] (heapOf [(500, .sym l0 false 2), (501, .sym l7 false 2)]) (dataK k)
theorem gBF_text (C : Ct) (L : AtLoop) (n0 : Nat) (c0 : Nat) (l0 : List Go.Value) (x1 : Int) (x2 : Int) (x3 : Int) (x4 : Int) (x5 : Int) (s6 : ByteArray) (n7 : Nat) (c7 : Nat) (l7 : List Go.Value) (k : List D → Prop) : gBF C L n0 c0 l0 x1 x2 x3 x4 x5 s6 n7 c7 l7 k =
 (bcase (decide (0 + n0 * 2 ≤ List.length l0))
 (bcase (decide (0 + n7 * 2 ≤ List.length l7))
 (∃ n1 : Int,
 (∃ n2 : Int,
 ((Says C 8 [(D.agg [(D.sl (n0) 2 (List.take (n0 * 2) (List.drop 0 l0))), (D.val (vI x1)), (D.val (vI x2)), (D.val (vI x3)), (D.val (vI x4)), (D.val (vI x5))]), (D.agg [(D.val (Value.string (s6))), (D.sl (n7) 2 (List.take (n7 * 2) (List.drop 0 l7)))])] [(D.val (vI n1)), (D.val (vI n2))]) ∧
 (bcase (n2 != 0)
 (k [(D.agg [(D.val (vI 0)), (D.val (vI 0))]), (D.val (vI n2))])
 (L 0 [(Prod.mk 2 (Pt 1000 0)), (Prod.mk 3 (Pt 1001 0)), (Prod.mk 4 (Pt 1002 0)), (Prod.mk 8 (Value.slice none 0 0)), (Prod.mk 22 (vI (IntKind.wrap .i64 (x5 + 1)))), (Prod.mk 23 (vI 0))] [(Prod.mk 1000 (AObj.cells [(Sl 500 (n0) (c0)), (vI x1), (vI x2), (vI x3), (vI x4), (vI x5)] 26 false 1)), (Prod.mk 1001 (AObj.cells [(Value.string (s6)), (Sl 501 (n7) (c7))] 31 false 1)), (Prod.mk 1002 (AObj.cells [(vI 0), (vI 0)] 28 false 2)), (Prod.mk 500 (AObj.sym (l0) false 2)), (Prod.mk 501 (AObj.sym (l7) false 2))])))))
 False)
 False) := by kernel_rfl
abbrev zBF1 (x0 : Int) (x1 : Int) (n2 : Nat) (c3 : Nat) (x4 : Int) (x5 : Int) (x6 : Int) (x7 : Int) (x8 : Int) (s9 : ByteArray) (n10 : Nat) (c11 : Nat) (x12 : Int) (x13 : Int) (l14 : List Value) (l15 : List Value) : Slots × Blocks := ([(2, (Value.pointer (some ⟨1000, 0, none⟩))), (3, (Value.pointer (some ⟨1001, 0, none⟩))), (4, (Value.pointer (some ⟨1002, 0, none⟩))), (8, (Value.slice none 0 0)), (22, (Value.int .i64 x0)), (23, (Value.int .i64 x1))], [(1000, (AObj.cells [(Value.slice (some ⟨500, 0, none⟩) n2 c3), (Value.int .i64 x4), (Value.int .i64 x5), (Value.int .i64 x6), (Value.int .i64 x7), (Value.int .i64 x8)] 26 false 1)), (1001, (AObj.cells [(Value.string s9), (Value.slice (some ⟨501, 0, none⟩) n10 c11)] 31 false 1)), (1002, (AObj.cells [(Value.int .i64 x12), (Value.int .i64 x13)] 28 false 2)), (500, (AObj.sym l14 false 2)), (501, (AObj.sym l15 false 2))])
def rBF1 (C : Ct) (L : AtLoop) (x0 : Int) (x1 : Int) (n2 : Nat) (c3 : Nat) (x4 : Int) (x5 : Int) (x6 : Int) (x7 : Int) (x8 : Int) (s9 : ByteArray) (n10 : Nat) (c11 : Nat) (x12 : Int) (x13 : Int) (l14 : List Value) (l15 : List Value) (B : Bx) (X : Xx) (k : List D → Prop) : Prop := wpRound Try.prog (hM C) L 13 0 [(2, (Value.pointer (some ⟨1000, 0, none⟩))), (3, (Value.pointer (some ⟨1001, 0, none⟩))), (4, (Value.pointer (some ⟨1002, 0, none⟩))), (8, (Value.slice none 0 0)), (22, (Value.int .i64 x0)), (23, (Value.int .i64 x1))] [(1000, (AObj.cells [(Value.slice (some ⟨500, 0, none⟩) n2 c3), (Value.int .i64 x4), (Value.int .i64 x5), (Value.int .i64 x6), (Value.int .i64 x7), (Value.int .i64 x8)] 26 false 1)), (1001, (AObj.cells [(Value.string s9), (Value.slice (some ⟨501, 0, none⟩) n10 c11)] 31 false 1)), (1002, (AObj.cells [(Value.int .i64 x12), (Value.int .i64 x13)] 28 false 2)), (500, (AObj.sym l14 false 2)), (501, (AObj.sym l15 false 2))] B X (dataK k)
theorem rBF1_text (C : Ct) (L : AtLoop) (x0 : Int) (x1 : Int) (n2 : Nat) (c3 : Nat) (x4 : Int) (x5 : Int) (x6 : Int) (x7 : Int) (x8 : Int) (s9 : ByteArray) (n10 : Nat) (c11 : Nat) (x12 : Int) (x13 : Int) (l14 : List Go.Value) (l15 : List Go.Value) (B : Bx) (X : Xx) (k : List D → Prop) : rBF1 C L x0 x1 n2 c3 x4 x5 x6 x7 x8 s9 n10 c11 x12 x13 l14 l15 B X k =
 (bcase (decide (x1 < x0))
 (B [(Prod.mk 2 (Pt 1000 0)), (Prod.mk 3 (Pt 1001 0)), (Prod.mk 4 (Pt 1002 0)), (Prod.mk 8 (Sl 1003 1 1)), (Prod.mk 22 (vI x0)), (Prod.mk 23 (vI (IntKind.wrap .i64 (x1 + 1))))] [(Prod.mk 1000 (AObj.cells [(Sl 500 (n2) (c3)), (vI x4), (vI x5), (vI x6), (vI x7), (vI x8)] 26 false 1)), (Prod.mk 1001 (AObj.cells [(Value.string (s9)), (Sl 501 (n10) (c11))] 31 false 1)), (Prod.mk 1002 (AObj.cells [(vI x12), (vI x13)] 28 false 2)), (Prod.mk 1003 (AObj.sym [(vI x1)] true 1)), (Prod.mk 500 (AObj.sym (l14) false 2)), (Prod.mk 501 (AObj.sym (l15) false 2))])
 (X 0 [(Prod.mk 2 (Pt 1000 0)), (Prod.mk 3 (Pt 1001 0)), (Prod.mk 4 (Pt 1002 0)), (Prod.mk 8 (Value.slice none 0 0))] [(Prod.mk 1000 (AObj.cells [(Sl 500 (n2) (c3)), (vI x4), (vI x5), (vI x6), (vI x7), (vI x8)] 26 false 1)), (Prod.mk 1001 (AObj.cells [(Value.string (s9)), (Sl 501 (n10) (c11))] 31 false 1)), (Prod.mk 1002 (AObj.cells [(vI x12), (vI x13)] 28 false 2)), (Prod.mk 500 (AObj.sym (l14) false 2)), (Prod.mk 501 (AObj.sym (l15) false 2))])) := by kernel_rfl
abbrev zBF2 (n0 : Nat) (x1 : Int) (x2 : Int) (n3 : Nat) (c4 : Nat) (x5 : Int) (x6 : Int) (x7 : Int) (x8 : Int) (x9 : Int) (s10 : ByteArray) (n11 : Nat) (c12 : Nat) (x13 : Int) (x14 : Int) (l15 : List Value) (l16 : List Value) (l17 : List Value) : Slots × Blocks := ([(2, (Value.pointer (some ⟨1000, 0, none⟩))), (3, (Value.pointer (some ⟨1001, 0, none⟩))), (4, (Value.pointer (some ⟨1002, 0, none⟩))), (8, (Value.slice (some ⟨1003, 0, none⟩) n0 n0)), (22, (Value.int .i64 x1)), (23, (Value.int .i64 x2))], [(1000, (AObj.cells [(Value.slice (some ⟨500, 0, none⟩) n3 c4), (Value.int .i64 x5), (Value.int .i64 x6), (Value.int .i64 x7), (Value.int .i64 x8), (Value.int .i64 x9)] 26 false 1)), (1001, (AObj.cells [(Value.string s10), (Value.slice (some ⟨501, 0, none⟩) n11 c12)] 31 false 1)), (1002, (AObj.cells [(Value.int .i64 x13), (Value.int .i64 x14)] 28 false 2)), (1003, (AObj.sym l15 true 1)), (500, (AObj.sym l16 false 2)), (501, (AObj.sym l17 false 2))])
def rBF2 (C : Ct) (L : AtLoop) (n0 : Nat) (x1 : Int) (x2 : Int) (n3 : Nat) (c4 : Nat) (x5 : Int) (x6 : Int) (x7 : Int) (x8 : Int) (x9 : Int) (s10 : ByteArray) (n11 : Nat) (c12 : Nat) (x13 : Int) (x14 : Int) (l15 : List Value) (l16 : List Value) (l17 : List Value) (B : Bx) (X : Xx) (k : List D → Prop) : Prop := wpRound Try.prog (hM C) L 13 0 [(2, (Value.pointer (some ⟨1000, 0, none⟩))), (3, (Value.pointer (some ⟨1001, 0, none⟩))), (4, (Value.pointer (some ⟨1002, 0, none⟩))), (8, (Value.slice (some ⟨1003, 0, none⟩) n0 n0)), (22, (Value.int .i64 x1)), (23, (Value.int .i64 x2))] [(1000, (AObj.cells [(Value.slice (some ⟨500, 0, none⟩) n3 c4), (Value.int .i64 x5), (Value.int .i64 x6), (Value.int .i64 x7), (Value.int .i64 x8), (Value.int .i64 x9)] 26 false 1)), (1001, (AObj.cells [(Value.string s10), (Value.slice (some ⟨501, 0, none⟩) n11 c12)] 31 false 1)), (1002, (AObj.cells [(Value.int .i64 x13), (Value.int .i64 x14)] 28 false 2)), (1003, (AObj.sym l15 true 1)), (500, (AObj.sym l16 false 2)), (501, (AObj.sym l17 false 2))] B X (dataK k)
theorem rBF2_text (C : Ct) (L : AtLoop) (n0 : Nat) (x1 : Int) (x2 : Int) (n3 : Nat) (c4 : Nat) (x5 : Int) (x6 : Int) (x7 : Int) (x8 : Int) (x9 : Int) (s10 : ByteArray) (n11 : Nat) (c12 : Nat) (x13 : Int) (x14 : Int) (l15 : List Go.Value) (l16 : List Go.Value) (l17 : List Go.Value) (B : Bx) (X : Xx) (k : List D → Prop) : rBF2 C L n0 x1 x2 n3 c4 x5 x6 x7 x8 x9 s10 n11 c12 x13 x14 l15 l16 l17 B X k =
 (bcase (decide (x2 < x1))
 (bcase (decide (n0 < n0 + 1))
 (bcase (decide ((2 * (n0 + 1) + 768) * 8 ≤ 281474976710656))
 (bcase (decide (n0 + 1 ≤ 1099511627776))
 (bcase (decide (0 + n0 * 1 ≤ List.length l15))
 (bcase (decide (0 + n0 * 1 = List.length l15))
 (B [(Prod.mk 2 (Pt 1000 0)), (Prod.mk 3 (Pt 1001 0)), (Prod.mk 4 (Pt 1002 0)), (Prod.mk 8 (Sl 1003 (n0 + 1) (n0 + 1))), (Prod.mk 22 (vI x1)), (Prod.mk 23 (vI (IntKind.wrap .i64 (x2 + 1))))] [(Prod.mk 1000 (AObj.cells [(Sl 500 (n3) (c4)), (vI x5), (vI x6), (vI x7), (vI x8), (vI x9)] 26 false 1)), (Prod.mk 1001 (AObj.cells [(Value.string (s10)), (Sl 501 (n11) (c12))] 31 false 1)), (Prod.mk 1002 (AObj.cells [(vI x13), (vI x14)] 28 false 2)), (Prod.mk 1003 (AObj.sym ((List.take (n0 * 1) (List.drop 0 l15)) ++ [(vI x2)]) true 1)), (Prod.mk 500 (AObj.sym (l16) false 2)), (Prod.mk 501 (AObj.sym (l17) false 2))])
 False)
 False)
 False)
 False)
 False)
 (X 0 [(Prod.mk 2 (Pt 1000 0)), (Prod.mk 3 (Pt 1001 0)), (Prod.mk 4 (Pt 1002 0)), (Prod.mk 8 (Sl 1003 (n0) (n0)))] [(Prod.mk 1000 (AObj.cells [(Sl 500 (n3) (c4)), (vI x5), (vI x6), (vI x7), (vI x8), (vI x9)] 26 false 1)), (Prod.mk 1001 (AObj.cells [(Value.string (s10)), (Sl 501 (n11) (c12))] 31 false 1)), (Prod.mk 1002 (AObj.cells [(vI x13), (vI x14)] 28 false 2)), (Prod.mk 1003 (AObj.sym (l15) true 1)), (Prod.mk 500 (AObj.sym (l16) false 2)), (Prod.mk 501 (AObj.sym (l17) false 2))])) := by kernel_rfl
def nBF4 (C : Ct) (L : AtLoop) (n0 : Nat) (n1 : Nat) (c2 : Nat) (x3 : Int) (x4 : Int) (x5 : Int) (x6 : Int) (x7 : Int) (s8 : ByteArray) (n9 : Nat) (c10 : Nat) (x11 : Int) (x12 : Int) (l13 : List Value) (l14 : List Value) (l15 : List Value) (k : List D → Prop) : Prop := wpNext Try.prog (hM C) L 13 0 .normal [(2, (Value.pointer (some ⟨1000, 0, none⟩))), (3, (Value.pointer (some ⟨1001, 0, none⟩))), (4, (Value.pointer (some ⟨1002, 0, none⟩))), (8, (Value.slice (some ⟨1003, 0, none⟩) n0 n0))] [(1000, (AObj.cells [(Value.slice (some ⟨500, 0, none⟩) n1 c2), (Value.int .i64 x3), (Value.int .i64 x4), (Value.int .i64 x5), (Value.int .i64 x6), (Value.int .i64 x7)] 26 false 1)), (1001, (AObj.cells [(Value.string s8), (Value.slice (some ⟨501, 0, none⟩) n9 c10)] 31 false 1)), (1002, (AObj.cells [(Value.int .i64 x11), (Value.int .i64 x12)] 28 false 2)), (1003, (AObj.sym l13 true 1)), (500, (AObj.sym l14 false 2)), (501, (AObj.sym l15 false 2))] (dataK k)
theorem nBF4_text (C : Ct) (L : AtLoop) (n0 : Nat) (n1 : Nat) (c2 : Nat) (x3 : Int) (x4 : Int) (x5 : Int) (x6 : Int) (x7 : Int) (s8 : ByteArray) (n9 : Nat) (c10 : Nat) (x11 : Int) (x12 : Int) (l13 : List Go.Value) (l14 : List Go.Value) (l15 : List Go.Value) (k : List D → Prop) : nBF4 C L n0 n1 c2 x3 x4 x5 x6 x7 s8 n9 c10 x11 x12 l13 l14 l15 k =
 (∃ T1 : List (Int × Int),
 (∃ R1 : List (Int × Int),
 (∃ l1 : List Int,
 (∃ r1 : Int,
 (((l14) = (MD.prs T1)) ∧
 (((n1) = (List.length T1)) ∧
 (((l15) = (MD.prs R1)) ∧
 (((n9) = (List.length R1)) ∧
 (((l13) = (List.map (vI) l1)) ∧
 (((n0) = (List.length l1)) ∧
 ((GoodIn T1 R1 x3 x4 x5 x6 x7 l1) ∧
 ((GoodMin T1 R1 x3 x4 x5 x6 l1 r1) ∧
 (k [(D.agg [(D.val (vI 0)), (D.val (vI r1))]), (D.val (vI 0))]))))))))))))) := by kernel_rfl
def gWi (C : Ct) (L : AtLoop) (x0 : Int) (x1 : Int) (x2 : Int) (k : List D → Prop) : Prop := wpFn Try.prog (hE C) L 0 21 #[.int .i64 x0, .int .i64 x1, .int .i64 x2] (heapOf []) (dataK k)
theorem gWi_text (C : Ct) (L : AtLoop) (x0 : Int) (x1 : Int) (x2 : Int) (k : List D → Prop) : gWi C L x0 x1 x2 k =
 (bcase (decide (x1 ≤ x0))
 (bcase (decide (x0 ≤ x2))
 (k [(D.val (Value.bool true))])
 (k [(D.val (Value.bool false))]))
 (k [(D.val (Value.bool false))])) := by kernel_rfl
def gSi (C : Ct) (L : AtLoop) (x0 : Int) (k : List D → Prop) : Prop := wpFn Try.prog (hE C) L 0 76 #[.int .i64 x0] (heapOf []) (dataK k)
theorem gSi_text (C : Ct) (L : AtLoop) (x0 : Int) (k : List D → Prop) : gSi C L x0 k =
 (k [(D.val (vI (if IntKind.wrap .i64 (0 - x0) > x0 then IntKind.wrap .i64 (0 - x0) else x0)))]) := by kernel_rfl
def gGc (C : Ct) (L : AtLoop) (x0 : Int) (x1 : Int) (k : List D → Prop) : Prop := wpFn Try.prog (hL C) L 0 49 #[.int .i64 x0, .int .i64 x1] (heapOf []) (dataK k)
theorem gGc_text (C : Ct) (L : AtLoop) (x0 : Int) (x1 : Int) (k : List D → Prop) : gGc C L x0 x1 k =
 (L 0 [(Prod.mk 0 (vI x0)), (Prod.mk 1 (vI x1))] []) := by kernel_rfl
abbrev zGc1 (x0 : Int) (x1 : Int) : Slots × Blocks := ([(0, (Value.int .i64 x0)), (1, (Value.int .i64 x1))], [])
def rGc1 (C : Ct) (L : AtLoop) (x0 : Int) (x1 : Int) (B : Bx) (X : Xx) (k : List D → Prop) : Prop := wpRound Try.prog (hL C) L 49 0 [(0, (Value.int .i64 x0)), (1, (Value.int .i64 x1))] [] B X (dataK k)
theorem rGc1_text (C : Ct) (L : AtLoop) (x0 : Int) (x1 : Int) (B : Bx) (X : Xx) (k : List D → Prop) : rGc1 C L x0 x1 B X k =
 (bcase (x1 != 0)
 (bcase (x1 != 0)
 (((bcase (x1 != 0)
 (Qv (vI (Int.tmod x0 x1)))
 False) ∧
 ((Qv (vI x1)) ∧
 ((Qv (vI x0)) ∧
 ((Qv (vI x1)) ∧
 True)))) ∧
 (((bcase (x1 != 0)
 (Qv (vI (Int.tmod x0 x1)))
 False) ∧
 ((Qv (vI x1)) ∧
 True)) ∧
 (True ∧
 (B [(Prod.mk 0 (vI x1)), (Prod.mk 1 (vI (Int.tmod x0 x1)))] []))))
 False)
 (X 0 [(Prod.mk 0 (vI x0))] [])) := by kernel_rfl
def nGc2 (C : Ct) (L : AtLoop) (x0 : Int) (k : List D → Prop) : Prop := wpNext Try.prog (hL C) L 49 0 .normal [(0, (Value.int .i64 x0))] [] (dataK k)
theorem nGc2_text (C : Ct) (L : AtLoop) (x0 : Int) (k : List D → Prop) : nGc2 C L x0 k =
 (∃ n1 : Int,
 ((Says C 76 [(D.val (vI x0))] [(D.val (vI n1))]) ∧
 (k [(D.val (vI n1))]))) := by kernel_rfl
def gYr (C : Ct) (L : AtLoop) (n0 : Nat) (c0 : Nat) (l0 : List Value) (x1 : Int) (x2 : Int) (x3 : Int) (x4 : Int) (x5 : Int) (k : List D → Prop) : Prop := wpFn Try.prog (hE C) L 0 9 #[.agg #[.slice (some ⟨500, 0, none⟩) n0 c0, .int .i64 x1, .int .i64 x2, .int .i64 x3, .int .i64 x4, .int .i64 x5]] (heapOf [(500, .sym l0 false 2)]) (dataK k)
theorem gYr_text (C : Ct) (L : AtLoop) (n0 : Nat) (c0 : Nat) (l0 : List Go.Value) (x1 : Int) (x2 : Int) (x3 : Int) (x4 : Int) (x5 : Int) (k : List D → Prop) : gYr C L n0 c0 l0 x1 x2 x3 x4 x5 k =
 (bcase (decide (0 + n0 * 2 ≤ List.length l0))
 (bcase (n0 == 0)
 (((0 = 0) ∧
 (0 = 0)) ∧
 (k [(D.agg [(D.sl 0 2 []), (D.val (vI x1)), (D.val (vI x2)), (D.val (vI x3)), (D.val (vI x4)), (D.val (vI x5))])]))
 (bcase (decide (0 < 0 + n0))
 (bcase (decide ((2 * (0 + n0) + 768) * 16 ≤ 281474976710656))
 (bcase (decide (0 + n0 ≤ 1099511627776))
 (((Qv (0 + n0)) ∧
 ((List.length (List.take 0 (List.drop 0 []) ++ List.take (n0 * 2) (List.drop 0 l0))) = ((0 + n0) * 2))) ∧
 (k [(D.agg [(D.sl (0 + n0) 2 ([] ++ (List.take (n0 * 2) (List.drop 0 l0)))), (D.val (vI x1)), (D.val (vI x2)), (D.val (vI x3)), (D.val (vI x4)), (D.val (vI x5))])]))
 False)
 False)
 False))
 False) := by kernel_rfl
def gYc (C : Ct) (L : AtLoop) (s0 : ByteArray) (n1 : Nat) (c1 : Nat) (l1 : List Value) (k : List D → Prop) : Prop := wpFn Try.prog (hE C) L 0 10 #[.agg #[.string s0, .slice (some ⟨500, 0, none⟩) n1 c1]] (heapOf [(500, .sym l1 false 2)]) (dataK k)
theorem gYc_text (C : Ct) (L : AtLoop) (s0 : ByteArray) (n1 : Nat) (c1 : Nat) (l1 : List Go.Value) (k : List D → Prop) : gYc C L s0 n1 c1 l1 k =
 (((Qv (Sl 500 (n1) (c1))) ∧
 ((Qv (Pt 1000 1)) ∧
 (((Qv (Sl 1002 0 0)) ∧
 (Qv (some (AObj.cells [] 96 false 2)))) ∧
 ((Qv (Value.string (s0))) ∧
 ((Qv (Pt 1000 0)) ∧
 True))))) ∧
 (bcase (decide (0 + n1 * 2 ≤ List.length l1))
 (bcase (n1 == 0)
 (((Qv (Value.agg [(Value.string (s0)), (Sl 1003 0 0)].toArray)) ∧
 ((Qv (Pt 1000 1)) ∧
 ((Qv (Value.string (s0))) ∧
 ((Qv (Pt 1000 0)) ∧
 True)))) ∧
 (True ∧
 (((0 = 0) ∧
 (0 = 0)) ∧
 (k [(D.agg [(D.val (Value.string (s0))), (D.sl 0 2 [])])]))))
 (bcase (decide (0 < 0 + n1))
 (bcase (decide ((2 * (0 + n1) + 768) * 16 ≤ 281474976710656))
 (bcase (decide (0 + n1 ≤ 1099511627776))
 (((Qv (Value.agg [(Value.string (s0)), (Sl 1003 (0 + n1) (0 + n1))].toArray)) ∧
 ((Qv (Pt 1000 1)) ∧
 ((Qv (Value.string (s0))) ∧
 ((Qv (Pt 1000 0)) ∧
 True)))) ∧
 (True ∧
 (((Qv (0 + n1)) ∧
 ((List.length (List.take 0 (List.drop 0 []) ++ List.take (n1 * 2) (List.drop 0 l1))) = ((0 + n1) * 2))) ∧
 (k [(D.agg [(D.val (Value.string (s0))), (D.sl (0 + n1) 2 ([] ++ (List.take (n1 * 2) (List.drop 0 l1))))])]))))
 False)
 False)
 False))
 False)) := by kernel_rfl
end Go.Proofs.G5l
