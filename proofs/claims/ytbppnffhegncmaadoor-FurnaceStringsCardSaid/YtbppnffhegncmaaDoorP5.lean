/- Texts of the proof, put together: GsSFT, GsS1, GsSF, GsSF2, GsSF3. -/
import Derived.Test.YtbppnffhegncmaaDoorP4
/- What is left to show of each function, written out; the kernel reckons it. -/
namespace Go.Proofs.G5s
open Go Go.Abs Go.Proofs
set_option maxRecDepth 100000
set_option linter.unusedVariables false
def lm1 (cap : Nat) (lo hi x : Int) (K : Value → Blocks → Prop) : Prop := wpFn Tryd.prog (fun _ _ _ _ _ => False) (fun _ _ _ => False) 6 66 #[.slice (some ⟨900, 0, none⟩) 1 cap, .pointer (some ⟨901, 0, none⟩), .pointer (some ⟨902, 0, none⟩)] (heapOf [(900, .cells [.int .i64 x] 3 false 1), (901, .cells [.int .i64 lo] 3 false 1), (902, .cells [.int .i64 hi] 3 false 1)]) (stateK K)
theorem lm1_text (cap : Nat) (lo : Int) (hi : Int) (x : Int) (K : Go.Value → Blocks → Prop) : lm1 cap lo hi x K =
 (bcase (decide (x < lo))
 (K (vI (2 : Int)) [(Prod.mk 900 (AObj.cells [(vI x)] 3 false 1)), (Prod.mk 901 (AObj.cells [(vI lo)] 3 false 1)), (Prod.mk 902 (AObj.cells [(vI hi)] 3 false 1))])
 (bcase (decide (x > hi))
 (K (vI (2 : Int)) [(Prod.mk 900 (AObj.cells [(vI x)] 3 false 1)), (Prod.mk 901 (AObj.cells [(vI lo)] 3 false 1)), (Prod.mk 902 (AObj.cells [(vI hi)] 3 false 1))])
 (K (vI (0 : Int)) [(Prod.mk 900 (AObj.cells [(vI x)] 3 false 1)), (Prod.mk 901 (AObj.cells [(vI lo)] 3 false 1)), (Prod.mk 902 (AObj.cells [(vI hi)] 3 false 1))]))) := by kernel_rfl
def lm2 (cap : Nat) (lo hi x y : Int) (K : Value → Blocks → Prop) : Prop := wpFn Tryd.prog (fun _ _ _ _ _ => False) (fun _ _ _ => False) 6 66 #[.slice (some ⟨900, 0, none⟩) 2 cap, .pointer (some ⟨901, 0, none⟩), .pointer (some ⟨902, 0, none⟩)] (heapOf [(900, .cells [.int .i64 x, .int .i64 y] 3 false 1), (901, .cells [.int .i64 lo] 3 false 1), (902, .cells [.int .i64 hi] 3 false 1)]) (stateK K)
theorem lm2_text (cap : Nat) (lo : Int) (hi : Int) (x : Int) (y : Int) (K : Go.Value → Blocks → Prop) : lm2 cap lo hi x y K =
 (bcase (decide (x < lo))
 (K (vI (2 : Int)) [(Prod.mk 900 (AObj.cells [(vI x), (vI y)] 3 false 1)), (Prod.mk 901 (AObj.cells [(vI lo)] 3 false 1)), (Prod.mk 902 (AObj.cells [(vI hi)] 3 false 1))])
 (bcase (decide (x > hi))
 (K (vI (2 : Int)) [(Prod.mk 900 (AObj.cells [(vI x), (vI y)] 3 false 1)), (Prod.mk 901 (AObj.cells [(vI lo)] 3 false 1)), (Prod.mk 902 (AObj.cells [(vI hi)] 3 false 1))])
 (bcase (decide (y < lo))
 (K (vI (2 : Int)) [(Prod.mk 900 (AObj.cells [(vI x), (vI y)] 3 false 1)), (Prod.mk 901 (AObj.cells [(vI lo)] 3 false 1)), (Prod.mk 902 (AObj.cells [(vI hi)] 3 false 1))])
 (bcase (decide (y > hi))
 (K (vI (2 : Int)) [(Prod.mk 900 (AObj.cells [(vI x), (vI y)] 3 false 1)), (Prod.mk 901 (AObj.cells [(vI lo)] 3 false 1)), (Prod.mk 902 (AObj.cells [(vI hi)] 3 false 1))])
 (K (vI (0 : Int)) [(Prod.mk 900 (AObj.cells [(vI x), (vI y)] 3 false 1)), (Prod.mk 901 (AObj.cells [(vI lo)] 3 false 1)), (Prod.mk 902 (AObj.cells [(vI hi)] 3 false 1))]))))) := by kernel_rfl
def lm3 (cap : Nat) (lo hi x y z : Int) (K : Value → Blocks → Prop) : Prop := wpFn Tryd.prog (fun _ _ _ _ _ => False) (fun _ _ _ => False) 6 66 #[.slice (some ⟨900, 0, none⟩) 3 cap, .pointer (some ⟨901, 0, none⟩), .pointer (some ⟨902, 0, none⟩)] (heapOf [(900, .cells [.int .i64 x, .int .i64 y, .int .i64 z] 3 false 1), (901, .cells [.int .i64 lo] 3 false 1), (902, .cells [.int .i64 hi] 3 false 1)]) (stateK K)
theorem lm3_text (cap : Nat) (lo : Int) (hi : Int) (x : Int) (y : Int) (z : Int) (K : Go.Value → Blocks → Prop) : lm3 cap lo hi x y z K =
 (bcase (decide (x < lo))
 (K (vI (2 : Int)) [(Prod.mk 900 (AObj.cells [(vI x), (vI y), (vI z)] 3 false 1)), (Prod.mk 901 (AObj.cells [(vI lo)] 3 false 1)), (Prod.mk 902 (AObj.cells [(vI hi)] 3 false 1))])
 (bcase (decide (x > hi))
 (K (vI (2 : Int)) [(Prod.mk 900 (AObj.cells [(vI x), (vI y), (vI z)] 3 false 1)), (Prod.mk 901 (AObj.cells [(vI lo)] 3 false 1)), (Prod.mk 902 (AObj.cells [(vI hi)] 3 false 1))])
 (bcase (decide (y < lo))
 (K (vI (2 : Int)) [(Prod.mk 900 (AObj.cells [(vI x), (vI y), (vI z)] 3 false 1)), (Prod.mk 901 (AObj.cells [(vI lo)] 3 false 1)), (Prod.mk 902 (AObj.cells [(vI hi)] 3 false 1))])
 (bcase (decide (y > hi))
 (K (vI (2 : Int)) [(Prod.mk 900 (AObj.cells [(vI x), (vI y), (vI z)] 3 false 1)), (Prod.mk 901 (AObj.cells [(vI lo)] 3 false 1)), (Prod.mk 902 (AObj.cells [(vI hi)] 3 false 1))])
 (bcase (decide (z < lo))
 (K (vI (2 : Int)) [(Prod.mk 900 (AObj.cells [(vI x), (vI y), (vI z)] 3 false 1)), (Prod.mk 901 (AObj.cells [(vI lo)] 3 false 1)), (Prod.mk 902 (AObj.cells [(vI hi)] 3 false 1))])
 (bcase (decide (z > hi))
 (K (vI (2 : Int)) [(Prod.mk 900 (AObj.cells [(vI x), (vI y), (vI z)] 3 false 1)), (Prod.mk 901 (AObj.cells [(vI lo)] 3 false 1)), (Prod.mk 902 (AObj.cells [(vI hi)] 3 false 1))])
 (K (vI (0 : Int)) [(Prod.mk 900 (AObj.cells [(vI x), (vI y), (vI z)] 3 false 1)), (Prod.mk 901 (AObj.cells [(vI lo)] 3 false 1)), (Prod.mk 902 (AObj.cells [(vI hi)] 3 false 1))]))))))) := by kernel_rfl
def lm4 (cap : Nat) (lo hi x y z u : Int) (K : Value → Blocks → Prop) : Prop := wpFn Tryd.prog (fun _ _ _ _ _ => False) (fun _ _ _ => False) 6 66 #[.slice (some ⟨900, 0, none⟩) 4 cap, .pointer (some ⟨901, 0, none⟩), .pointer (some ⟨902, 0, none⟩)] (heapOf [(900, .cells [.int .i64 x, .int .i64 y, .int .i64 z, .int .i64 u] 3 false 1), (901, .cells [.int .i64 lo] 3 false 1), (902, .cells [.int .i64 hi] 3 false 1)]) (stateK K)
theorem lm4_text (cap : Nat) (lo : Int) (hi : Int) (x : Int) (y : Int) (z : Int) (u : Int) (K : Go.Value → Blocks → Prop) : lm4 cap lo hi x y z u K =
 (bcase (decide (x < lo))
 (K (vI (2 : Int)) [(Prod.mk 900 (AObj.cells [(vI x), (vI y), (vI z), (vI u)] 3 false 1)), (Prod.mk 901 (AObj.cells [(vI lo)] 3 false 1)), (Prod.mk 902 (AObj.cells [(vI hi)] 3 false 1))])
 (bcase (decide (x > hi))
 (K (vI (2 : Int)) [(Prod.mk 900 (AObj.cells [(vI x), (vI y), (vI z), (vI u)] 3 false 1)), (Prod.mk 901 (AObj.cells [(vI lo)] 3 false 1)), (Prod.mk 902 (AObj.cells [(vI hi)] 3 false 1))])
 (bcase (decide (y < lo))
 (K (vI (2 : Int)) [(Prod.mk 900 (AObj.cells [(vI x), (vI y), (vI z), (vI u)] 3 false 1)), (Prod.mk 901 (AObj.cells [(vI lo)] 3 false 1)), (Prod.mk 902 (AObj.cells [(vI hi)] 3 false 1))])
 (bcase (decide (y > hi))
 (K (vI (2 : Int)) [(Prod.mk 900 (AObj.cells [(vI x), (vI y), (vI z), (vI u)] 3 false 1)), (Prod.mk 901 (AObj.cells [(vI lo)] 3 false 1)), (Prod.mk 902 (AObj.cells [(vI hi)] 3 false 1))])
 (bcase (decide (z < lo))
 (K (vI (2 : Int)) [(Prod.mk 900 (AObj.cells [(vI x), (vI y), (vI z), (vI u)] 3 false 1)), (Prod.mk 901 (AObj.cells [(vI lo)] 3 false 1)), (Prod.mk 902 (AObj.cells [(vI hi)] 3 false 1))])
 (bcase (decide (z > hi))
 (K (vI (2 : Int)) [(Prod.mk 900 (AObj.cells [(vI x), (vI y), (vI z), (vI u)] 3 false 1)), (Prod.mk 901 (AObj.cells [(vI lo)] 3 false 1)), (Prod.mk 902 (AObj.cells [(vI hi)] 3 false 1))])
 (bcase (decide (u < lo))
 (K (vI (2 : Int)) [(Prod.mk 900 (AObj.cells [(vI x), (vI y), (vI z), (vI u)] 3 false 1)), (Prod.mk 901 (AObj.cells [(vI lo)] 3 false 1)), (Prod.mk 902 (AObj.cells [(vI hi)] 3 false 1))])
 (bcase (decide (u > hi))
 (K (vI (2 : Int)) [(Prod.mk 900 (AObj.cells [(vI x), (vI y), (vI z), (vI u)] 3 false 1)), (Prod.mk 901 (AObj.cells [(vI lo)] 3 false 1)), (Prod.mk 902 (AObj.cells [(vI hi)] 3 false 1))])
 (K (vI (0 : Int)) [(Prod.mk 900 (AObj.cells [(vI x), (vI y), (vI z), (vI u)] 3 false 1)), (Prod.mk 901 (AObj.cells [(vI lo)] 3 false 1)), (Prod.mk 902 (AObj.cells [(vI hi)] 3 false 1))]))))))))) := by kernel_rfl
def copyZ : List D → Option (List D) := fun ds => match ds with | [.sl n es cs] => some [.sl n es cs] | [.nil] => some [.sl 0 2 []] | _ => none
def preF (C : Ct) : FuncId → Option Handler := fun g => if g == 66 then some (stateH (limAll 3)) else if [4, 19, 21, 22, 20, 26, 28, 27, 31, 23, 24, 25, 5, 7, 29, 11, 9, 8, 10].contains g then some (saidH Tryd.prog C) else if g == 6 then some (fixH C copyZ) else none
abbrev hF (C : Ct) : Handler := handlerX Tryd.prog (preF C) 12 6
def gFE (C : Ct) (L : AtLoop) (n0 : Nat) (c0 : Nat) (l0 : List Value) (k : List D → Prop) : Prop := wpFn Tryd.prog (hF C) L 0 31 #[.slice (some ⟨500, 0, none⟩) n0 c0] (heapOf [(500, .sym l0 false 1)]) (dataK k)
theorem gFE_text (C : Ct) (L : AtLoop) (n0 : Nat) (c0 : Nat) (l0 : List Go.Value) (k : List D → Prop) : gFE C L n0 c0 l0 k =
 (L 0 [(Prod.mk 5 (Go.Value.slice (Option.some (Go.Addr.mk 500 0 Option.none)) (n0) (c0))), (Prod.mk 6 (vI ((↑n0 : Int)))), (Prod.mk 7 (vI (0 : Int)))] [(Prod.mk 500 (AObj.sym (l0) false 1))]) := by kernel_rfl
abbrev zFE1 (n0 : Nat) (c1 : Nat) (x2 : Int) (x3 : Int) (l4 : List Value) : Slots × Blocks := ([(5, (Value.slice (some ⟨500, 0, none⟩) n0 c1)), (6, (Value.int .i64 x2)), (7, (Value.int .i64 x3))], [(500, (AObj.sym l4 false 1))])
def rFE1 (C : Ct) (L : AtLoop) (n0 : Nat) (c1 : Nat) (x2 : Int) (x3 : Int) (l4 : List Value) (B : Bx) (X : Xx) (k : List D → Prop) : Prop := wpRound Tryd.prog (hF C) L 31 0 [(5, (Value.slice (some ⟨500, 0, none⟩) n0 c1)), (6, (Value.int .i64 x2)), (7, (Value.int .i64 x3))] [(500, (AObj.sym l4 false 1))] B X (dataK k)
theorem rFE1_text (C : Ct) (L : AtLoop) (n0 : Nat) (c1 : Nat) (x2 : Int) (x3 : Int) (l4 : List Go.Value) (B : Bx) (X : Xx) (k : List D → Prop) : rFE1 C L n0 c1 x2 x3 l4 B X k =
 (bcase (decide (x3 < x2))
 (bcase (decide (0 ≤ x3))
 (bcase (decide (x3 < (↑n0 : Int)))
 (∃ n1 : Int,
 ((At (l4) (0 + Int.toNat x3 * 1) 1 [(vI n1)]) ∧
 (bcase (n1 != 0)
 (k [(D.val (vI n1))])
 (B [(Prod.mk 5 (Go.Value.slice (Option.some (Go.Addr.mk 500 0 Option.none)) (n0) (c1))), (Prod.mk 6 (vI x2)), (Prod.mk 7 (vI (IntKind.wrap .i64 (x3 + 1))))] [(Prod.mk 500 (AObj.sym (l4) false 1))]))))
 False)
 False)
 (X 0 [] [])) := by kernel_rfl
def nFE2 (C : Ct) (L : AtLoop) (k : List D → Prop) : Prop := wpNext Tryd.prog (hF C) L 31 0 .normal [] [] (dataK k)
theorem nFE2_text (C : Ct) (L : AtLoop) (k : List D → Prop) : nFE2 C L k =
 (k [(D.val (vI (0 : Int)))]) := by kernel_rfl
def gIN (C : Ct) (L : AtLoop) (s0 : ByteArray) (k : List D → Prop) : Prop := wpFn Tryd.prog (hF C) L 0 23 #[.string s0] (heapOf []) (dataK k)
theorem gIN_text (C : Ct) (L : AtLoop) (s0 : ByteArray) (k : List D → Prop) : gIN C L s0 k =
 (bcase ((↑(ByteArray.size s0) : Int) == 0)
 (k [(D.val (Value.bool false))])
 (bcase (decide ((↑(ByteArray.size s0) : Int) > 5))
 (k [(D.val (Value.bool false))])
 (bcase (decide ((↑(ByteArray.size s0) : Int) > 1))
 (∃ b1 : UInt8,
 ((ByteAt (s0) 0 (b1)) ∧
 (bcase ((↑(UInt8.toNat b1) : Int) == 48)
 (k [(D.val (Value.bool false))])
 (L 0 [(Prod.mk 0 (Go.Value.string (s0))), (Prod.mk 23 (vI ((↑(ByteArray.size s0) : Int)))), (Prod.mk 24 (vI (0 : Int)))] []))))
 (L 0 [(Prod.mk 0 (Go.Value.string (s0))), (Prod.mk 23 (vI ((↑(ByteArray.size s0) : Int)))), (Prod.mk 24 (vI (0 : Int)))] [])))) := by kernel_rfl
abbrev zIN1 (s0 : ByteArray) (x1 : Int) (x2 : Int) : Slots × Blocks := ([(0, (Value.string s0)), (23, (Value.int .i64 x1)), (24, (Value.int .i64 x2))], [])
def rIN1 (C : Ct) (L : AtLoop) (s0 : ByteArray) (x1 : Int) (x2 : Int) (B : Bx) (X : Xx) (k : List D → Prop) : Prop := wpRound Tryd.prog (hF C) L 23 0 [(0, (Value.string s0)), (23, (Value.int .i64 x1)), (24, (Value.int .i64 x2))] [] B X (dataK k)
theorem rIN1_text (C : Ct) (L : AtLoop) (s0 : ByteArray) (x1 : Int) (x2 : Int) (B : Bx) (X : Xx) (k : List D → Prop) : rIN1 C L s0 x1 x2 B X k =
 (bcase (decide (x2 < x1))
 (bcase (decide (0 ≤ x2))
 (∃ b1 : UInt8,
 ((ByteAt (s0) (Int.toNat x2) (b1)) ∧
 (bcase (decide ((↑(UInt8.toNat b1) : Int) < 48))
 (k [(D.val (Value.bool false))])
 (bcase (decide (0 ≤ x2))
 (∃ b2 : UInt8,
 ((ByteAt (s0) (Int.toNat x2) (b2)) ∧
 (bcase (decide ((↑(UInt8.toNat b2) : Int) > 57))
 (k [(D.val (Value.bool false))])
 (B [(Prod.mk 0 (Go.Value.string (s0))), (Prod.mk 23 (vI x1)), (Prod.mk 24 (vI (IntKind.wrap .i64 (x2 + 1))))] []))))
 False))))
 False)
 (X 0 [] [])) := by kernel_rfl
def nIN2 (C : Ct) (L : AtLoop) (k : List D → Prop) : Prop := wpNext Tryd.prog (hF C) L 23 0 .normal [] [] (dataK k)
theorem nIN2_text (C : Ct) (L : AtLoop) (k : List D → Prop) : nIN2 C L k =
 (k [(D.val (Value.bool true))]) := by kernel_rfl
def gNO (C : Ct) (L : AtLoop) (s0 : ByteArray) (k : List D → Prop) : Prop := wpFn Tryd.prog (hF C) L 0 24 #[.string s0] (heapOf []) (dataK k)
theorem gNO_text (C : Ct) (L : AtLoop) (s0 : ByteArray) (k : List D → Prop) : gNO C L s0 k =
 (L 0 [(Prod.mk 0 (Go.Value.string (s0))), (Prod.mk 3 (vI (0 : Int))), (Prod.mk 6 (vI ((↑(ByteArray.size s0) : Int)))), (Prod.mk 7 (vI (0 : Int)))] []) := by kernel_rfl
abbrev zNO1 (s0 : ByteArray) (x1 : Int) (x2 : Int) (x3 : Int) : Slots × Blocks := ([(0, (Value.string s0)), (3, (Value.int .i64 x1)), (6, (Value.int .i64 x2)), (7, (Value.int .i64 x3))], [])
def rNO1 (C : Ct) (L : AtLoop) (s0 : ByteArray) (x1 : Int) (x2 : Int) (x3 : Int) (B : Bx) (X : Xx) (k : List D → Prop) : Prop := wpRound Tryd.prog (hF C) L 24 0 [(0, (Value.string s0)), (3, (Value.int .i64 x1)), (6, (Value.int .i64 x2)), (7, (Value.int .i64 x3))] [] B X (dataK k)
theorem rNO1_text (C : Ct) (L : AtLoop) (s0 : ByteArray) (x1 : Int) (x2 : Int) (x3 : Int) (B : Bx) (X : Xx) (k : List D → Prop) : rNO1 C L s0 x1 x2 x3 B X k =
 (bcase (decide (x3 < x2))
 (bcase (decide (0 ≤ x3))
 (∃ b1 : UInt8,
 ((ByteAt (s0) (Int.toNat x3) (b1)) ∧
 (B [(Prod.mk 0 (Go.Value.string (s0))), (Prod.mk 3 (vI (IntKind.wrap .i64 (IntKind.wrap .i64 (10 * x1) + IntKind.wrap .i64 (Go.IntKind.wrap Go.IntKind.u8 ((↑(UInt8.toNat b1) : Int) - 48)))))), (Prod.mk 6 (vI x2)), (Prod.mk 7 (vI (IntKind.wrap .i64 (x3 + 1))))] [])))
 False)
 (X 0 [(Prod.mk 3 (vI x1))] [])) := by kernel_rfl
def nNO2 (C : Ct) (L : AtLoop) (x0 : Int) (k : List D → Prop) : Prop := wpNext Tryd.prog (hF C) L 24 0 .normal [(3, (Value.int .i64 x0))] [] (dataK k)
theorem nNO2_text (C : Ct) (L : AtLoop) (x0 : Int) (k : List D → Prop) : nNO2 C L x0 k =
 (k [(D.val (vI x0))]) := by kernel_rfl
def gCR (C : Ct) (L : AtLoop) (n0 : Nat) (c0 : Nat) (l0 : List Value) (k : List D → Prop) : Prop := wpFn Tryd.prog (hF C) L 0 25 #[.slice (some ⟨500, 0, none⟩) n0 c0] (heapOf [(500, .sym l0 false 2)]) (dataK k)
theorem gCR_text (C : Ct) (L : AtLoop) (n0 : Nat) (c0 : Nat) (l0 : List Go.Value) (k : List D → Prop) : gCR C L n0 c0 l0 k =
 (bcase (decide ((↑n0 : Int) > 5))
 (k [(D.val (vI (0 : Int))), (D.val (vI (8 : Int)))])
 (L 0 [(Prod.mk 10 (Go.Value.slice (Option.some (Go.Addr.mk 500 0 Option.none)) (n0) (c0))), (Prod.mk 11 (vI ((↑n0 : Int)))), (Prod.mk 12 (vI (0 : Int)))] [(Prod.mk 500 (AObj.sym (l0) false 2))])) := by kernel_rfl
abbrev zCR1 (n0 : Nat) (c1 : Nat) (x2 : Int) (x3 : Int) (l4 : List Value) : Slots × Blocks := ([(10, (Value.slice (some ⟨500, 0, none⟩) n0 c1)), (11, (Value.int .i64 x2)), (12, (Value.int .i64 x3))], [(500, (AObj.sym l4 false 2))])
def rCR1 (C : Ct) (L : AtLoop) (n0 : Nat) (c1 : Nat) (x2 : Int) (x3 : Int) (l4 : List Value) (B : Bx) (X : Xx) (k : List D → Prop) : Prop := wpRound Tryd.prog (hF C) L 25 0 [(10, (Value.slice (some ⟨500, 0, none⟩) n0 c1)), (11, (Value.int .i64 x2)), (12, (Value.int .i64 x3))] [(500, (AObj.sym l4 false 2))] B X (dataK k)
theorem rCR1_text (C : Ct) (L : AtLoop) (n0 : Nat) (c1 : Nat) (x2 : Int) (x3 : Int) (l4 : List Go.Value) (B : Bx) (X : Xx) (k : List D → Prop) : rCR1 C L n0 c1 x2 x3 l4 B X k =
 (bcase (decide (x3 < x2))
 (bcase (decide (0 ≤ x3))
 (bcase (decide (x3 < (↑n0 : Int)))
 (∃ n1 : Int,
 (∃ n2 : Int,
 ((At (l4) (0 + Int.toNat x3 * 2) 2 [(vI n1), (vI n2)]) ∧
 (((((Go.Value.slice (Option.some (Go.Addr.mk 1002 0 Option.none)) 1 1) = (Go.Value.slice (Option.some (Go.Addr.mk 1002 0 Option.none)) 1 1)) ∧
 ((Option.some (AObj.cells [(vI n2)] 3 false 1)) = (Option.some (AObj.cells [(vI n2)] 3 false 1)))) ∧
 (((vI n2) = (vI n2)) ∧
 (((Go.Value.pointer (Option.some (Go.Addr.mk 1000 1 Option.none))) = (Go.Value.pointer (Option.some (Go.Addr.mk 1000 1 Option.none)))) ∧
 ((((Go.Value.slice (Option.some (Go.Addr.mk 1001 0 Option.none)) 1 1) = (Go.Value.slice (Option.some (Go.Addr.mk 1001 0 Option.none)) 1 1)) ∧
 ((Option.some (AObj.cells [(vI n1)] 3 false 1)) = (Option.some (AObj.cells [(vI n1)] 3 false 1)))) ∧
 (((vI n1) = (vI n1)) ∧
 (((Go.Value.pointer (Option.some (Go.Addr.mk 1000 0 Option.none))) = (Go.Value.pointer (Option.some (Go.Addr.mk 1000 0 Option.none)))) ∧
 True)))))) ∧
 (∃ e1 : Int,
 ((Says limC 0 [(D.val (vI (0 : Int))), (D.val (vI (20000 : Int))), (D.sl 1 1 [(vI n1)])] [(D.val (vI e1))]) ∧
 (((((Go.Value.slice (Option.some (Go.Addr.mk 1002 0 Option.none)) 1 1) = (Go.Value.slice (Option.some (Go.Addr.mk 1002 0 Option.none)) 1 1)) ∧
 ((Option.some (AObj.cells [(vI n2)] 3 false 1)) = (Option.some (AObj.cells [(vI n2)] 3 false 1)))) ∧
 (((vI n2) = (vI n2)) ∧
 (((Go.Value.pointer (Option.some (Go.Addr.mk 1000 1 Option.none))) = (Go.Value.pointer (Option.some (Go.Addr.mk 1000 1 Option.none)))) ∧
 (((vI n1) = (vI n1)) ∧
 (((Go.Value.pointer (Option.some (Go.Addr.mk 1000 0 Option.none))) = (Go.Value.pointer (Option.some (Go.Addr.mk 1000 0 Option.none)))) ∧
 True))))) ∧
 (((((Go.Value.slice (Option.some (Go.Addr.mk 1002 0 Option.none)) 1 1) = (Go.Value.slice (Option.some (Go.Addr.mk 1002 0 Option.none)) 1 1)) ∧
 ((Option.some (AObj.cells [(vI n2)] 3 false 1)) = (Option.some (AObj.cells [(vI n2)] 3 false 1)))) ∧
 (((vI n2) = (vI n2)) ∧
 (((Go.Value.pointer (Option.some (Go.Addr.mk 1000 1 Option.none))) = (Go.Value.pointer (Option.some (Go.Addr.mk 1000 1 Option.none)))) ∧
 (((vI n1) = (vI n1)) ∧
 (((Go.Value.pointer (Option.some (Go.Addr.mk 1000 0 Option.none))) = (Go.Value.pointer (Option.some (Go.Addr.mk 1000 0 Option.none)))) ∧
 True))))) ∧
 (∃ e2 : Int,
 ((Says limC 0 [(D.val (vI (0 : Int))), (D.val (vI (200 : Int))), (D.sl 1 1 [(vI n2)])] [(D.val (vI e2))]) ∧
 (((((Go.Value.slice (Option.some (Go.Addr.mk 1007 0 Option.none)) 2 2) = (Go.Value.slice (Option.some (Go.Addr.mk 1007 0 Option.none)) 2 2)) ∧
 ((Option.some (AObj.cells [(vI e1), (vI e2)] 26 false 1)) = (Option.some (AObj.cells [(vI e1), (vI e2)] 26 false 1)))) ∧
 (((vI n2) = (vI n2)) ∧
 (((Go.Value.pointer (Option.some (Go.Addr.mk 1000 1 Option.none))) = (Go.Value.pointer (Option.some (Go.Addr.mk 1000 1 Option.none)))) ∧
 (((vI n1) = (vI n1)) ∧
 (((Go.Value.pointer (Option.some (Go.Addr.mk 1000 0 Option.none))) = (Go.Value.pointer (Option.some (Go.Addr.mk 1000 0 Option.none)))) ∧
 True))))) ∧
 (∃ n3 : Int,
 ((Says C 31 [(D.sl 2 1 [(vI e1), (vI e2)])] [(D.val (vI n3))]) ∧
 ((((vI n2) = (vI n2)) ∧
 (((Go.Value.pointer (Option.some (Go.Addr.mk 1000 1 Option.none))) = (Go.Value.pointer (Option.some (Go.Addr.mk 1000 1 Option.none)))) ∧
 (((vI n1) = (vI n1)) ∧
 (((Go.Value.pointer (Option.some (Go.Addr.mk 1000 0 Option.none))) = (Go.Value.pointer (Option.some (Go.Addr.mk 1000 0 Option.none)))) ∧
 True)))) ∧
 (True ∧
 (bcase (n3 != 0)
 (k [(D.val (vI x3)), (D.val (vI n3))])
 (B [(Prod.mk 10 (Go.Value.slice (Option.some (Go.Addr.mk 500 0 Option.none)) (n0) (c1))), (Prod.mk 11 (vI x2)), (Prod.mk 12 (vI (IntKind.wrap .i64 (x3 + 1))))] [(Prod.mk 500 (AObj.sym (l4) false 2))])))))))))))))))))
 False)
 False)
 (X 0 [] [])) := by kernel_rfl
def nCR2 (C : Ct) (L : AtLoop) (k : List D → Prop) : Prop := wpNext Tryd.prog (hF C) L 25 0 .normal [] [] (dataK k)
theorem nCR2_text (C : Ct) (L : AtLoop) (k : List D → Prop) : nCR2 C L k =
 (k [(D.val (vI (0 : Int))), (D.val (vI (0 : Int)))]) := by kernel_rfl
def gRC (C : Ct) (L : AtLoop) (n0 : Nat) (c0 : Nat) (l0 : List Value) (k : List D → Prop) : Prop := wpFn Tryd.prog (hF C) L 0 29 #[.slice (some ⟨500, 0, none⟩) n0 c0] (heapOf [(500, .sym l0 false 2)]) (dataK k)
theorem gRC_text (C : Ct) (L : AtLoop) (n0 : Nat) (c0 : Nat) (l0 : List Go.Value) (k : List D → Prop) : gRC C L n0 c0 l0 k =
 (bcase (decide ((↑n0 : Int) > 5))
 (k [(D.val (vI (0 : Int))), (D.val (vI (8 : Int)))])
 (L 0 [(Prod.mk 0 (Go.Value.slice (Option.some (Go.Addr.mk 500 0 Option.none)) (n0) (c0))), (Prod.mk 4 (vI (0 : Int)))] [(Prod.mk 500 (AObj.sym (l0) false 2))])) := by kernel_rfl
abbrev zRC1 (n0 : Nat) (c1 : Nat) (x2 : Int) (l3 : List Value) : Slots × Blocks := ([(0, (Value.slice (some ⟨500, 0, none⟩) n0 c1)), (4, (Value.int .i64 x2))], [(500, (AObj.sym l3 false 2))])
def rRC1 (C : Ct) (L : AtLoop) (n0 : Nat) (c1 : Nat) (x2 : Int) (l3 : List Value) (B : Bx) (X : Xx) (k : List D → Prop) : Prop := wpRound Tryd.prog (hF C) L 29 0 [(0, (Value.slice (some ⟨500, 0, none⟩) n0 c1)), (4, (Value.int .i64 x2))] [(500, (AObj.sym l3 false 2))] B X (dataK k)
theorem rRC1_text (C : Ct) (L : AtLoop) (n0 : Nat) (c1 : Nat) (x2 : Int) (l3 : List Go.Value) (B : Bx) (X : Xx) (k : List D → Prop) : rRC1 C L n0 c1 x2 l3 B X k =
 (bcase (decide (x2 < (↑n0 : Int)))
 (bcase (decide (0 ≤ x2))
 (bcase (decide (x2 < (↑n0 : Int)))
 (∃ n1 : Int,
 ((At (l3) (0 + Int.toNat x2 * 2) 1 [(vI n1)]) ∧
 (bcase (decide (0 ≤ n1))
 (bcase (decide (n1 ≤ 20000))
 (bcase (decide (0 ≤ x2))
 (bcase (decide (x2 < (↑n0 : Int)))
 (∃ n2 : Int,
 ((At (l3) (Go.Addr.off { block := 500, off := 0 + Int.toNat x2 * 2 } + 1) 1 [(vI n2)]) ∧
 (bcase (decide (0 ≤ n2))
 (bcase (decide (n2 ≤ 200))
 (B [(Prod.mk 0 (Go.Value.slice (Option.some (Go.Addr.mk 500 0 Option.none)) (n0) (c1))), (Prod.mk 4 (vI (IntKind.wrap .i64 (x2 + 1))))] [(Prod.mk 500 (AObj.sym (l3) false 2))])
 (k [(D.val (vI x2)), (D.val (vI (2 : Int)))]))
 (k [(D.val (vI x2)), (D.val (vI (2 : Int)))]))))
 False)
 False)
 (k [(D.val (vI x2)), (D.val (vI (2 : Int)))]))
 (k [(D.val (vI x2)), (D.val (vI (2 : Int)))]))))
 False)
 False)
 (X 0 [] [])) := by kernel_rfl
def nRC2 (C : Ct) (L : AtLoop) (k : List D → Prop) : Prop := wpNext Tryd.prog (hF C) L 29 0 .normal [] [] (dataK k)
theorem nRC2_text (C : Ct) (L : AtLoop) (k : List D → Prop) : nRC2 C L k =
 (k [(D.val (vI (0 : Int))), (D.val (vI (0 : Int)))]) := by kernel_rfl
def gRCn (C : Ct) (L : AtLoop) (k : List D → Prop) : Prop := wpFn Tryd.prog (hF C) L 0 29 #[.slice none 0 0] (heapOf []) (dataK k)
theorem gRCn_text (C : Ct) (L : AtLoop) (k : List D → Prop) : gRCn C L k =
 (L 0 [(Prod.mk 0 (Go.Value.slice Option.none 0 0)), (Prod.mk 4 (vI (0 : Int)))] []) := by kernel_rfl
abbrev zRCn1 (x0 : Int) : Slots × Blocks := ([(0, (Value.slice none 0 0)), (4, (Value.int .i64 x0))], [])
def rRCn1 (C : Ct) (L : AtLoop) (x0 : Int) (B : Bx) (X : Xx) (k : List D → Prop) : Prop := wpRound Tryd.prog (hF C) L 29 0 [(0, (Value.slice none 0 0)), (4, (Value.int .i64 x0))] [] B X (dataK k)
theorem rRCn1_text (C : Ct) (L : AtLoop) (x0 : Int) (B : Bx) (X : Xx) (k : List D → Prop) : rRCn1 C L x0 B X k =
 (bcase (decide (x0 < (↑0 : Int)))
 False
 (X 0 [] [])) := by kernel_rfl
def nRCn2 (C : Ct) (L : AtLoop) (k : List D → Prop) : Prop := wpNext Tryd.prog (hF C) L 29 0 .normal [] [] (dataK k)
theorem nRCn2_text (C : Ct) (L : AtLoop) (k : List D → Prop) : nRCn2 C L k =
 (k [(D.val (vI (0 : Int))), (D.val (vI (0 : Int)))]) := by kernel_rfl
def gRE (C : Ct) (L : AtLoop) (n0 : Nat) (c0 : Nat) (l0 : List Value) (k : List D → Prop) : Prop := wpFn Tryd.prog (hF C) L 0 11 #[.slice (some ⟨500, 0, none⟩) n0 c0] (heapOf [(500, .sym l0 false 2)]) (dataK k)
theorem gRE_text (C : Ct) (L : AtLoop) (n0 : Nat) (c0 : Nat) (l0 : List Go.Value) (k : List D → Prop) : gRE C L n0 c0 l0 k =
 (bcase (decide (0 + n0 * 2 ≤ List.length l0))
 (∃ n1 : Int,
 (∃ n2 : Int,
 ((Says C 29 [(D.sl (n0) 2 (List.take (n0 * 2) (List.drop 0 l0)))] [(D.val (vI n1)), (D.val (vI n2))]) ∧
 (k [(D.val (vI n2))]))))
 False) := by kernel_rfl
def gREn (C : Ct) (L : AtLoop) (k : List D → Prop) : Prop := wpFn Tryd.prog (hF C) L 0 11 #[.slice none 0 0] (heapOf []) (dataK k)
theorem gREn_text (C : Ct) (L : AtLoop) (k : List D → Prop) : gREn C L k =
 (∃ n1 : Int,
 (∃ n2 : Int,
 ((Says C 29 [D.nil] [(D.val (vI n1)), (D.val (vI n2))]) ∧
 (k [(D.val (vI n2))])))) := by kernel_rfl
def gFR (C : Ct) (L : AtLoop) (n0 : Nat) (c0 : Nat) (l0 : List Value) (k : List D → Prop) : Prop := wpFn Tryd.prog (hF C) L 0 5 #[.slice (some ⟨500, 0, none⟩) n0 c0] (heapOf [(500, .sym l0 false 2)]) (dataK k)
theorem gFR_text (C : Ct) (L : AtLoop) (n0 : Nat) (c0 : Nat) (l0 : List Go.Value) (k : List D → Prop) : gFR C L n0 c0 l0 k =
 (L 0 [(Prod.mk 3 (Go.Value.slice Option.none 0 0)), (Prod.mk 6 (Go.Value.slice (Option.some (Go.Addr.mk 500 0 Option.none)) (n0) (c0))), (Prod.mk 7 (vI ((↑n0 : Int)))), (Prod.mk 8 (vI (0 : Int)))] [(Prod.mk 500 (AObj.sym (l0) false 2))]) := by kernel_rfl
abbrev zFR1 (n0 : Nat) (c1 : Nat) (x2 : Int) (x3 : Int) (l4 : List Value) : Slots × Blocks := ([(3, (Value.slice none 0 0)), (6, (Value.slice (some ⟨500, 0, none⟩) n0 c1)), (7, (Value.int .i64 x2)), (8, (Value.int .i64 x3))], [(500, (AObj.sym l4 false 2))])
def rFR1 (C : Ct) (L : AtLoop) (n0 : Nat) (c1 : Nat) (x2 : Int) (x3 : Int) (l4 : List Value) (B : Bx) (X : Xx) (k : List D → Prop) : Prop := wpRound Tryd.prog (hF C) L 5 0 [(3, (Value.slice none 0 0)), (6, (Value.slice (some ⟨500, 0, none⟩) n0 c1)), (7, (Value.int .i64 x2)), (8, (Value.int .i64 x3))] [(500, (AObj.sym l4 false 2))] B X (dataK k)
theorem rFR1_text (C : Ct) (L : AtLoop) (n0 : Nat) (c1 : Nat) (x2 : Int) (x3 : Int) (l4 : List Go.Value) (B : Bx) (X : Xx) (k : List D → Prop) : rFR1 C L n0 c1 x2 x3 l4 B X k =
 (bcase (decide (x3 < x2))
 (bcase (decide (0 ≤ x3))
 (bcase (decide (x3 < (↑n0 : Int)))
 (∃ n1 : Int,
 (∃ n2 : Int,
 ((At (l4) (0 + Int.toNat x3 * 2) 2 [(vI n1), (vI n2)]) ∧
 ((((vI n2) = (vI n2)) ∧
 (((Go.Value.pointer (Option.some (Go.Addr.mk 1000 1 Option.none))) = (Go.Value.pointer (Option.some (Go.Addr.mk 1000 1 Option.none)))) ∧
 (((vI n1) = (vI n1)) ∧
 (((Go.Value.pointer (Option.some (Go.Addr.mk 1000 0 Option.none))) = (Go.Value.pointer (Option.some (Go.Addr.mk 1000 0 Option.none)))) ∧
 (((Go.Value.slice Option.none 0 0) = (Go.Value.slice Option.none 0 0)) ∧
 True))))) ∧
 (∃ s1 : ByteArray,
 ((Says C 19 [(D.val (vI n1))] [(D.val (Go.Value.string (s1)))]) ∧
 (bcase (decide (ByteArray.size s1 + 1 ≤ 9223372036854775807))
 (((bcase (decide (ByteArray.size s1 + 1 ≤ 9223372036854775807))
 ((Go.Value.string (s1 ++ { data := #[120] })) = (Go.Value.string (s1 ++ { data := #[120] })))
 False) ∧
 (((vI n2) = (vI n2)) ∧
 (((Go.Value.pointer (Option.some (Go.Addr.mk 1000 1 Option.none))) = (Go.Value.pointer (Option.some (Go.Addr.mk 1000 1 Option.none)))) ∧
 (((Go.Value.pointer (Option.some (Go.Addr.mk 1000 0 Option.none))) = (Go.Value.pointer (Option.some (Go.Addr.mk 1000 0 Option.none)))) ∧
 (((Go.Value.slice Option.none 0 0) = (Go.Value.slice Option.none 0 0)) ∧
 True))))) ∧
 (∃ s2 : ByteArray,
 ((Says C 19 [(D.val (vI n2))] [(D.val (Go.Value.string (s2)))]) ∧
 (bcase (decide (ByteArray.size (s1 ++ { data := #[120] }) + ByteArray.size s2 ≤ 9223372036854775807))
 (((((Go.Value.slice (Option.some (Go.Addr.mk 1001 0 Option.none)) 1 1) = (Go.Value.slice (Option.some (Go.Addr.mk 1001 0 Option.none)) 1 1)) ∧
 ((Option.some (AObj.cells [(Go.Value.string (s1 ++ { data := #[120] } ++ s2))] 9 false 1)) = (Option.some (AObj.cells [(Go.Value.string (s1 ++ { data := #[120] } ++ s2))] 9 false 1)))) ∧
 ((bcase (decide (ByteArray.size (s1 ++ { data := #[120] }) + ByteArray.size s2 ≤ 9223372036854775807))
 ((Go.Value.string (s1 ++ { data := #[120] } ++ s2)) = (Go.Value.string (s1 ++ { data := #[120] } ++ s2)))
 False) ∧
 ((bcase (decide (ByteArray.size s1 + 1 ≤ 9223372036854775807))
 ((Go.Value.string (s1 ++ { data := #[120] })) = (Go.Value.string (s1 ++ { data := #[120] })))
 False) ∧
 (((Go.Value.pointer (Option.some (Go.Addr.mk 1000 1 Option.none))) = (Go.Value.pointer (Option.some (Go.Addr.mk 1000 1 Option.none)))) ∧
 (((Go.Value.pointer (Option.some (Go.Addr.mk 1000 0 Option.none))) = (Go.Value.pointer (Option.some (Go.Addr.mk 1000 0 Option.none)))) ∧
 (((Go.Value.slice Option.none 0 0) = (Go.Value.slice Option.none 0 0)) ∧
 True)))))) ∧
 (((bcase (decide (ByteArray.size (s1 ++ { data := #[120] }) + ByteArray.size s2 ≤ 9223372036854775807))
 ((Go.Value.string (s1 ++ { data := #[120] } ++ s2)) = (Go.Value.string (s1 ++ { data := #[120] } ++ s2)))
 False) ∧
 ((bcase (decide (ByteArray.size s1 + 1 ≤ 9223372036854775807))
 ((Go.Value.string (s1 ++ { data := #[120] })) = (Go.Value.string (s1 ++ { data := #[120] })))
 False) ∧
 (((Go.Value.pointer (Option.some (Go.Addr.mk 1000 1 Option.none))) = (Go.Value.pointer (Option.some (Go.Addr.mk 1000 1 Option.none)))) ∧
 (((Go.Value.pointer (Option.some (Go.Addr.mk 1000 0 Option.none))) = (Go.Value.pointer (Option.some (Go.Addr.mk 1000 0 Option.none)))) ∧
 True)))) ∧
 (True ∧
 (B [(Prod.mk 3 (Go.Value.slice (Option.some (Go.Addr.mk 1000 0 Option.none)) 1 1)), (Prod.mk 6 (Go.Value.slice (Option.some (Go.Addr.mk 500 0 Option.none)) (n0) (c1))), (Prod.mk 7 (vI x2)), (Prod.mk 8 (vI (IntKind.wrap .i64 (x3 + 1))))] [(Prod.mk 1000 (AObj.sym [(Go.Value.string (s1 ++ { data := #[120] } ++ s2))] true 1)), (Prod.mk 500 (AObj.sym (l4) false 2))]))))
 False))))
 False)))))))
 False)
 False)
 (X 0 [(Prod.mk 3 (Go.Value.slice Option.none 0 0))] [])) := by kernel_rfl
abbrev zFR2 (n0 : Nat) (n1 : Nat) (c2 : Nat) (x3 : Int) (x4 : Int) (l5 : List Value) (l6 : List Value) : Slots × Blocks := ([(3, (Value.slice (some ⟨1000, 0, none⟩) n0 n0)), (6, (Value.slice (some ⟨500, 0, none⟩) n1 c2)), (7, (Value.int .i64 x3)), (8, (Value.int .i64 x4))], [(1000, (AObj.sym l5 true 1)), (500, (AObj.sym l6 false 2))])
def rFR2 (C : Ct) (L : AtLoop) (n0 : Nat) (n1 : Nat) (c2 : Nat) (x3 : Int) (x4 : Int) (l5 : List Value) (l6 : List Value) (B : Bx) (X : Xx) (k : List D → Prop) : Prop := wpRound Tryd.prog (hF C) L 5 0 [(3, (Value.slice (some ⟨1000, 0, none⟩) n0 n0)), (6, (Value.slice (some ⟨500, 0, none⟩) n1 c2)), (7, (Value.int .i64 x3)), (8, (Value.int .i64 x4))] [(1000, (AObj.sym l5 true 1)), (500, (AObj.sym l6 false 2))] B X (dataK k)
theorem rFR2_text (C : Ct) (L : AtLoop) (n0 : Nat) (n1 : Nat) (c2 : Nat) (x3 : Int) (x4 : Int) (l5 : List Go.Value) (l6 : List Go.Value) (B : Bx) (X : Xx) (k : List D → Prop) : rFR2 C L n0 n1 c2 x3 x4 l5 l6 B X k =
 (bcase (decide (x4 < x3))
 (bcase (decide (0 ≤ x4))
 (bcase (decide (x4 < (↑n1 : Int)))
 (∃ n2 : Int,
 (∃ n3 : Int,
 ((At (l6) (0 + Int.toNat x4 * 2) 2 [(vI n2), (vI n3)]) ∧
 ((((vI n3) = (vI n3)) ∧
 (((Go.Value.pointer (Option.some (Go.Addr.mk 1001 1 Option.none))) = (Go.Value.pointer (Option.some (Go.Addr.mk 1001 1 Option.none)))) ∧
 (((vI n2) = (vI n2)) ∧
 (((Go.Value.pointer (Option.some (Go.Addr.mk 1001 0 Option.none))) = (Go.Value.pointer (Option.some (Go.Addr.mk 1001 0 Option.none)))) ∧
 (((Go.Value.slice (Option.some (Go.Addr.mk 1000 0 Option.none)) (n0) (n0)) = (Go.Value.slice (Option.some (Go.Addr.mk 1000 0 Option.none)) (n0) (n0))) ∧
 True))))) ∧
 (∃ s1 : ByteArray,
 ((Says C 19 [(D.val (vI n2))] [(D.val (Go.Value.string (s1)))]) ∧
 (bcase (decide (ByteArray.size s1 + 1 ≤ 9223372036854775807))
 (((bcase (decide (ByteArray.size s1 + 1 ≤ 9223372036854775807))
 ((Go.Value.string (s1 ++ { data := #[120] })) = (Go.Value.string (s1 ++ { data := #[120] })))
 False) ∧
 (((vI n3) = (vI n3)) ∧
 (((Go.Value.pointer (Option.some (Go.Addr.mk 1001 1 Option.none))) = (Go.Value.pointer (Option.some (Go.Addr.mk 1001 1 Option.none)))) ∧
 (((Go.Value.pointer (Option.some (Go.Addr.mk 1001 0 Option.none))) = (Go.Value.pointer (Option.some (Go.Addr.mk 1001 0 Option.none)))) ∧
 (((Go.Value.slice (Option.some (Go.Addr.mk 1000 0 Option.none)) (n0) (n0)) = (Go.Value.slice (Option.some (Go.Addr.mk 1000 0 Option.none)) (n0) (n0))) ∧
 True))))) ∧
 (∃ s2 : ByteArray,
 ((Says C 19 [(D.val (vI n3))] [(D.val (Go.Value.string (s2)))]) ∧
 (bcase (decide (ByteArray.size (s1 ++ { data := #[120] }) + ByteArray.size s2 ≤ 9223372036854775807))
 (((((Go.Value.slice (Option.some (Go.Addr.mk 1002 0 Option.none)) 1 1) = (Go.Value.slice (Option.some (Go.Addr.mk 1002 0 Option.none)) 1 1)) ∧
 ((Option.some (AObj.cells [(Go.Value.string (s1 ++ { data := #[120] } ++ s2))] 9 false 1)) = (Option.some (AObj.cells [(Go.Value.string (s1 ++ { data := #[120] } ++ s2))] 9 false 1)))) ∧
 ((bcase (decide (ByteArray.size (s1 ++ { data := #[120] }) + ByteArray.size s2 ≤ 9223372036854775807))
 ((Go.Value.string (s1 ++ { data := #[120] } ++ s2)) = (Go.Value.string (s1 ++ { data := #[120] } ++ s2)))
 False) ∧
 ((bcase (decide (ByteArray.size s1 + 1 ≤ 9223372036854775807))
 ((Go.Value.string (s1 ++ { data := #[120] })) = (Go.Value.string (s1 ++ { data := #[120] })))
 False) ∧
 (((Go.Value.pointer (Option.some (Go.Addr.mk 1001 1 Option.none))) = (Go.Value.pointer (Option.some (Go.Addr.mk 1001 1 Option.none)))) ∧
 (((Go.Value.pointer (Option.some (Go.Addr.mk 1001 0 Option.none))) = (Go.Value.pointer (Option.some (Go.Addr.mk 1001 0 Option.none)))) ∧
 (((Go.Value.slice (Option.some (Go.Addr.mk 1000 0 Option.none)) (n0) (n0)) = (Go.Value.slice (Option.some (Go.Addr.mk 1000 0 Option.none)) (n0) (n0))) ∧
 True)))))) ∧
 (bcase (decide (n0 < n0 + 1))
 (bcase (decide ((2 * (n0 + 1) + 768) * 16 ≤ 281474976710656))
 (bcase (decide (n0 + 1 ≤ 1099511627776))
 (bcase (decide (0 + n0 * 1 ≤ List.length l5))
 (bcase (decide (0 + n0 * 1 = List.length l5))
 (((bcase (decide (ByteArray.size (s1 ++ { data := #[120] }) + ByteArray.size s2 ≤ 9223372036854775807))
 ((Go.Value.string (s1 ++ { data := #[120] } ++ s2)) = (Go.Value.string (s1 ++ { data := #[120] } ++ s2)))
 False) ∧
 ((bcase (decide (ByteArray.size s1 + 1 ≤ 9223372036854775807))
 ((Go.Value.string (s1 ++ { data := #[120] })) = (Go.Value.string (s1 ++ { data := #[120] })))
 False) ∧
 (((Go.Value.pointer (Option.some (Go.Addr.mk 1001 1 Option.none))) = (Go.Value.pointer (Option.some (Go.Addr.mk 1001 1 Option.none)))) ∧
 (((Go.Value.pointer (Option.some (Go.Addr.mk 1001 0 Option.none))) = (Go.Value.pointer (Option.some (Go.Addr.mk 1001 0 Option.none)))) ∧
 True)))) ∧
 (True ∧
 (B [(Prod.mk 3 (Go.Value.slice (Option.some (Go.Addr.mk 1000 0 Option.none)) (n0 + 1) (n0 + 1))), (Prod.mk 6 (Go.Value.slice (Option.some (Go.Addr.mk 500 0 Option.none)) (n1) (c2))), (Prod.mk 7 (vI x3)), (Prod.mk 8 (vI (IntKind.wrap .i64 (x4 + 1))))] [(Prod.mk 1000 (AObj.sym ((List.take (n0 * 1) (List.drop 0 l5)) ++ [(Go.Value.string (s1 ++ { data := #[120] } ++ s2))]) true 1)), (Prod.mk 500 (AObj.sym (l6) false 2))])))
 False)
 False)
 False)
 False)
 False))
 False))))
 False)))))))
 False)
 False)
 (X 0 [(Prod.mk 3 (Go.Value.slice (Option.some (Go.Addr.mk 1000 0 Option.none)) (n0) (n0)))] [(Prod.mk 1000 (AObj.sym (l5) true 1))])) := by kernel_rfl
def nFR3 (C : Ct) (L : AtLoop) (k : List D → Prop) : Prop := wpNext Tryd.prog (hF C) L 5 0 .normal [(3, (Value.slice none 0 0))] [] (dataK k)
theorem nFR3_text (C : Ct) (L : AtLoop) (k : List D → Prop) : nFR3 C L k =
 (∃ s1 : ByteArray,
 ((Says C 20 [D.nil, (D.val (Go.Value.string ({ data := #[32] })))] [(D.val (Go.Value.string (s1)))]) ∧
 (k [(D.val (Go.Value.string (s1)))]))) := by kernel_rfl
def nFR4 (C : Ct) (L : AtLoop) (n0 : Nat) (l1 : List Value) (k : List D → Prop) : Prop := wpNext Tryd.prog (hF C) L 5 0 .normal [(3, (Value.slice (some ⟨1000, 0, none⟩) n0 n0))] [(1000, (AObj.sym l1 true 1))] (dataK k)
theorem nFR4_text (C : Ct) (L : AtLoop) (n0 : Nat) (l1 : List Go.Value) (k : List D → Prop) : nFR4 C L n0 l1 k =
 (bcase (decide (0 + n0 * 1 ≤ List.length l1))
 (∃ s1 : ByteArray,
 ((Says C 20 [(D.sl (n0) 1 (List.take (n0 * 1) (List.drop 0 l1))), (D.val (Go.Value.string ({ data := #[32] })))] [(D.val (Go.Value.string (s1)))]) ∧
 (k [(D.val (Go.Value.string (s1)))])))
 False) := by kernel_rfl
def gRF (C : Ct) (L : AtLoop) (n0 : Nat) (c0 : Nat) (l0 : List Value) (k : List D → Prop) : Prop := wpFn Tryd.prog (hF C) L 0 9 #[.slice (some ⟨500, 0, none⟩) n0 c0] (heapOf [(500, .sym l0 false 2)]) (dataK k)
theorem gRF_text (C : Ct) (L : AtLoop) (n0 : Nat) (c0 : Nat) (l0 : List Go.Value) (k : List D → Prop) : gRF C L n0 c0 l0 k =
 (L 0 [(Prod.mk 0 (Go.Value.slice (Option.some (Go.Addr.mk 500 0 Option.none)) (n0) (c0))), (Prod.mk 3 (Go.Value.string ({ data := #[] }))), (Prod.mk 4 (vI (0 : Int)))] [(Prod.mk 500 (AObj.sym (l0) false 2))]) := by kernel_rfl
abbrev zRF1 (n0 : Nat) (c1 : Nat) (s2 : ByteArray) (x3 : Int) (l4 : List Value) : Slots × Blocks := ([(0, (Value.slice (some ⟨500, 0, none⟩) n0 c1)), (3, (Value.string s2)), (4, (Value.int .i64 x3))], [(500, (AObj.sym l4 false 2))])
def rRF1 (C : Ct) (L : AtLoop) (n0 : Nat) (c1 : Nat) (s2 : ByteArray) (x3 : Int) (l4 : List Value) (B : Bx) (X : Xx) (k : List D → Prop) : Prop := wpRound Tryd.prog (hF C) L 9 0 [(0, (Value.slice (some ⟨500, 0, none⟩) n0 c1)), (3, (Value.string s2)), (4, (Value.int .i64 x3))] [(500, (AObj.sym l4 false 2))] B X (dataK k)
theorem rRF1_text (C : Ct) (L : AtLoop) (n0 : Nat) (c1 : Nat) (s2 : ByteArray) (x3 : Int) (l4 : List Go.Value) (B : Bx) (X : Xx) (k : List D → Prop) : rRF1 C L n0 c1 s2 x3 l4 B X k =
 (bcase (decide (x3 < (↑n0 : Int)))
 (bcase (decide (x3 > 0))
 (bcase (decide (ByteArray.size s2 + 1 ≤ 9223372036854775807))
 (bcase (decide (0 ≤ x3))
 (bcase (decide (x3 < (↑n0 : Int)))
 (∃ n1 : Int,
 ((At (l4) (0 + Int.toNat x3 * 2) 1 [(vI n1)]) ∧
 (bcase (decide (0 ≤ x3))
 (bcase (decide (x3 < (↑n0 : Int)))
 (∃ n2 : Int,
 ((At (l4) (Go.Addr.off { block := 500, off := 0 + Int.toNat x3 * 2 } + 1) 1 [(vI n2)]) ∧
 (((∃ n3 : Int,
 ((At (l4) (Go.Addr.off { block := 500, off := 0 + Int.toNat x3 * 2 } + 1) 1 [(vI n3)]) ∧
 ((vI n3) = (vI n2)))) ∧
 (((Go.Value.pointer (Option.some (Go.Addr.mk 500 (Go.Addr.off { block := 500, off := 0 + Int.toNat x3 * 2 } + 1) Option.none))) = (Go.Value.pointer (Option.some (Go.Addr.mk 500 (Go.Addr.off { block := 500, off := 0 + Int.toNat x3 * 2 } + 1) Option.none)))) ∧
 ((bcase (decide (0 ≤ x3))
 (bcase (decide (x3 < (↑n0 : Int)))
 ((Go.Value.pointer (Option.some (Go.Addr.mk 500 (0 + Int.toNat x3 * 2) Option.none))) = (Go.Value.pointer (Option.some (Go.Addr.mk 500 (0 + Int.toNat x3 * 2) Option.none))))
 False)
 False) ∧
 (((vI x3) = (vI x3)) ∧
 (((Go.Value.slice (Option.some (Go.Addr.mk 500 0 Option.none)) (n0) (c1)) = (Go.Value.slice (Option.some (Go.Addr.mk 500 0 Option.none)) (n0) (c1))) ∧
 ((∃ n3 : Int,
 ((At (l4) (0 + Int.toNat x3 * 2) 1 [(vI n3)]) ∧
 ((vI n3) = (vI n1)))) ∧
 (((Go.Value.pointer (Option.some (Go.Addr.mk 500 (0 + Int.toNat x3 * 2) Option.none))) = (Go.Value.pointer (Option.some (Go.Addr.mk 500 (0 + Int.toNat x3 * 2) Option.none)))) ∧
 ((bcase (decide (0 ≤ x3))
 (bcase (decide (x3 < (↑n0 : Int)))
 ((Go.Value.pointer (Option.some (Go.Addr.mk 500 (0 + Int.toNat x3 * 2) Option.none))) = (Go.Value.pointer (Option.some (Go.Addr.mk 500 (0 + Int.toNat x3 * 2) Option.none))))
 False)
 False) ∧
 (((vI x3) = (vI x3)) ∧
 (((Go.Value.slice (Option.some (Go.Addr.mk 500 0 Option.none)) (n0) (c1)) = (Go.Value.slice (Option.some (Go.Addr.mk 500 0 Option.none)) (n0) (c1))) ∧
 (((Go.Value.string (s2 ++ { data := #[32] })) = (Go.Value.string (s2 ++ { data := #[32] }))) ∧
 True))))))))))) ∧
 (∃ s1 : ByteArray,
 ((Says C 28 [(D.val (vI n1))] [(D.val (Go.Value.string (s1)))]) ∧
 (bcase (decide (ByteArray.size (s2 ++ { data := #[32] }) + ByteArray.size s1 ≤ 9223372036854775807))
 (bcase (decide (ByteArray.size (s2 ++ { data := #[32] } ++ s1) + 1 ≤ 9223372036854775807))
 (((bcase (decide (ByteArray.size (s2 ++ { data := #[32] } ++ s1) + 1 ≤ 9223372036854775807))
 ((Go.Value.string (s2 ++ { data := #[32] } ++ s1 ++ { data := #[120] })) = (Go.Value.string (s2 ++ { data := #[32] } ++ s1 ++ { data := #[120] })))
 False) ∧
 ((bcase (decide (ByteArray.size (s2 ++ { data := #[32] }) + ByteArray.size s1 ≤ 9223372036854775807))
 ((Go.Value.string (s2 ++ { data := #[32] } ++ s1)) = (Go.Value.string (s2 ++ { data := #[32] } ++ s1)))
 False) ∧
 ((∃ n3 : Int,
 ((At (l4) (Go.Addr.off { block := 500, off := 0 + Int.toNat x3 * 2 } + 1) 1 [(vI n3)]) ∧
 ((vI n3) = (vI n2)))) ∧
 (((Go.Value.pointer (Option.some (Go.Addr.mk 500 (Go.Addr.off { block := 500, off := 0 + Int.toNat x3 * 2 } + 1) Option.none))) = (Go.Value.pointer (Option.some (Go.Addr.mk 500 (Go.Addr.off { block := 500, off := 0 + Int.toNat x3 * 2 } + 1) Option.none)))) ∧
 ((bcase (decide (0 ≤ x3))
 (bcase (decide (x3 < (↑n0 : Int)))
 ((Go.Value.pointer (Option.some (Go.Addr.mk 500 (0 + Int.toNat x3 * 2) Option.none))) = (Go.Value.pointer (Option.some (Go.Addr.mk 500 (0 + Int.toNat x3 * 2) Option.none))))
 False)
 False) ∧
 (((vI x3) = (vI x3)) ∧
 (((Go.Value.slice (Option.some (Go.Addr.mk 500 0 Option.none)) (n0) (c1)) = (Go.Value.slice (Option.some (Go.Addr.mk 500 0 Option.none)) (n0) (c1))) ∧
 (((Go.Value.pointer (Option.some (Go.Addr.mk 500 (0 + Int.toNat x3 * 2) Option.none))) = (Go.Value.pointer (Option.some (Go.Addr.mk 500 (0 + Int.toNat x3 * 2) Option.none)))) ∧
 ((bcase (decide (0 ≤ x3))
 (bcase (decide (x3 < (↑n0 : Int)))
 ((Go.Value.pointer (Option.some (Go.Addr.mk 500 (0 + Int.toNat x3 * 2) Option.none))) = (Go.Value.pointer (Option.some (Go.Addr.mk 500 (0 + Int.toNat x3 * 2) Option.none))))
 False)
 False) ∧
 (((vI x3) = (vI x3)) ∧
 (((Go.Value.slice (Option.some (Go.Addr.mk 500 0 Option.none)) (n0) (c1)) = (Go.Value.slice (Option.some (Go.Addr.mk 500 0 Option.none)) (n0) (c1))) ∧
 (((Go.Value.string (s2 ++ { data := #[32] })) = (Go.Value.string (s2 ++ { data := #[32] }))) ∧
 True)))))))))))) ∧
 (∃ s3 : ByteArray,
 ((Says C 28 [(D.val (vI n2))] [(D.val (Go.Value.string (s3)))]) ∧
 (bcase (decide (ByteArray.size (s2 ++ { data := #[32] } ++ s1 ++ { data := #[120] }) + ByteArray.size s3 ≤ 9223372036854775807))
 (((bcase (decide (ByteArray.size (s2 ++ { data := #[32] } ++ s1 ++ { data := #[120] }) + ByteArray.size s3 ≤ 9223372036854775807))
 ((Go.Value.string (s2 ++ { data := #[32] } ++ s1 ++ { data := #[120] } ++ s3)) = (Go.Value.string (s2 ++ { data := #[32] } ++ s1 ++ { data := #[120] } ++ s3)))
 False) ∧
 ((bcase (decide (ByteArray.size (s2 ++ { data := #[32] } ++ s1) + 1 ≤ 9223372036854775807))
 ((Go.Value.string (s2 ++ { data := #[32] } ++ s1 ++ { data := #[120] })) = (Go.Value.string (s2 ++ { data := #[32] } ++ s1 ++ { data := #[120] })))
 False) ∧
 ((bcase (decide (ByteArray.size (s2 ++ { data := #[32] }) + ByteArray.size s1 ≤ 9223372036854775807))
 ((Go.Value.string (s2 ++ { data := #[32] } ++ s1)) = (Go.Value.string (s2 ++ { data := #[32] } ++ s1)))
 False) ∧
 (((Go.Value.pointer (Option.some (Go.Addr.mk 500 (Go.Addr.off { block := 500, off := 0 + Int.toNat x3 * 2 } + 1) Option.none))) = (Go.Value.pointer (Option.some (Go.Addr.mk 500 (Go.Addr.off { block := 500, off := 0 + Int.toNat x3 * 2 } + 1) Option.none)))) ∧
 ((bcase (decide (0 ≤ x3))
 (bcase (decide (x3 < (↑n0 : Int)))
 ((Go.Value.pointer (Option.some (Go.Addr.mk 500 (0 + Int.toNat x3 * 2) Option.none))) = (Go.Value.pointer (Option.some (Go.Addr.mk 500 (0 + Int.toNat x3 * 2) Option.none))))
 False)
 False) ∧
 (((vI x3) = (vI x3)) ∧
 (((Go.Value.slice (Option.some (Go.Addr.mk 500 0 Option.none)) (n0) (c1)) = (Go.Value.slice (Option.some (Go.Addr.mk 500 0 Option.none)) (n0) (c1))) ∧
 (((Go.Value.pointer (Option.some (Go.Addr.mk 500 (0 + Int.toNat x3 * 2) Option.none))) = (Go.Value.pointer (Option.some (Go.Addr.mk 500 (0 + Int.toNat x3 * 2) Option.none)))) ∧
 ((bcase (decide (0 ≤ x3))
 (bcase (decide (x3 < (↑n0 : Int)))
 ((Go.Value.pointer (Option.some (Go.Addr.mk 500 (0 + Int.toNat x3 * 2) Option.none))) = (Go.Value.pointer (Option.some (Go.Addr.mk 500 (0 + Int.toNat x3 * 2) Option.none))))
 False)
 False) ∧
 (((vI x3) = (vI x3)) ∧
 (((Go.Value.slice (Option.some (Go.Addr.mk 500 0 Option.none)) (n0) (c1)) = (Go.Value.slice (Option.some (Go.Addr.mk 500 0 Option.none)) (n0) (c1))) ∧
 (((Go.Value.string (s2 ++ { data := #[32] })) = (Go.Value.string (s2 ++ { data := #[32] }))) ∧
 True)))))))))))) ∧
 (True ∧
 (B [(Prod.mk 0 (Go.Value.slice (Option.some (Go.Addr.mk 500 0 Option.none)) (n0) (c1))), (Prod.mk 3 (Go.Value.string (s2 ++ { data := #[32] } ++ s1 ++ { data := #[120] } ++ s3))), (Prod.mk 4 (vI (IntKind.wrap .i64 (x3 + 1))))] [(Prod.mk 500 (AObj.sym (l4) false 2))])))
 False))))
 False)
 False))))))
 False)
 False)))
 False)
 False)
 False)
 (bcase (decide (0 ≤ x3))
 (bcase (decide (x3 < (↑n0 : Int)))
 (∃ n1 : Int,
 ((At (l4) (0 + Int.toNat x3 * 2) 1 [(vI n1)]) ∧
 (bcase (decide (0 ≤ x3))
 (bcase (decide (x3 < (↑n0 : Int)))
 (∃ n2 : Int,
 ((At (l4) (Go.Addr.off { block := 500, off := 0 + Int.toNat x3 * 2 } + 1) 1 [(vI n2)]) ∧
 (((∃ n3 : Int,
 ((At (l4) (Go.Addr.off { block := 500, off := 0 + Int.toNat x3 * 2 } + 1) 1 [(vI n3)]) ∧
 ((vI n3) = (vI n2)))) ∧
 (((Go.Value.pointer (Option.some (Go.Addr.mk 500 (Go.Addr.off { block := 500, off := 0 + Int.toNat x3 * 2 } + 1) Option.none))) = (Go.Value.pointer (Option.some (Go.Addr.mk 500 (Go.Addr.off { block := 500, off := 0 + Int.toNat x3 * 2 } + 1) Option.none)))) ∧
 ((bcase (decide (0 ≤ x3))
 (bcase (decide (x3 < (↑n0 : Int)))
 ((Go.Value.pointer (Option.some (Go.Addr.mk 500 (0 + Int.toNat x3 * 2) Option.none))) = (Go.Value.pointer (Option.some (Go.Addr.mk 500 (0 + Int.toNat x3 * 2) Option.none))))
 False)
 False) ∧
 (((vI x3) = (vI x3)) ∧
 (((Go.Value.slice (Option.some (Go.Addr.mk 500 0 Option.none)) (n0) (c1)) = (Go.Value.slice (Option.some (Go.Addr.mk 500 0 Option.none)) (n0) (c1))) ∧
 ((∃ n3 : Int,
 ((At (l4) (0 + Int.toNat x3 * 2) 1 [(vI n3)]) ∧
 ((vI n3) = (vI n1)))) ∧
 (((Go.Value.pointer (Option.some (Go.Addr.mk 500 (0 + Int.toNat x3 * 2) Option.none))) = (Go.Value.pointer (Option.some (Go.Addr.mk 500 (0 + Int.toNat x3 * 2) Option.none)))) ∧
 ((bcase (decide (0 ≤ x3))
 (bcase (decide (x3 < (↑n0 : Int)))
 ((Go.Value.pointer (Option.some (Go.Addr.mk 500 (0 + Int.toNat x3 * 2) Option.none))) = (Go.Value.pointer (Option.some (Go.Addr.mk 500 (0 + Int.toNat x3 * 2) Option.none))))
 False)
 False) ∧
 (((vI x3) = (vI x3)) ∧
 (((Go.Value.slice (Option.some (Go.Addr.mk 500 0 Option.none)) (n0) (c1)) = (Go.Value.slice (Option.some (Go.Addr.mk 500 0 Option.none)) (n0) (c1))) ∧
 (((Go.Value.string (s2)) = (Go.Value.string (s2))) ∧
 True))))))))))) ∧
 (∃ s1 : ByteArray,
 ((Says C 28 [(D.val (vI n1))] [(D.val (Go.Value.string (s1)))]) ∧
 (bcase (decide (ByteArray.size s2 + ByteArray.size s1 ≤ 9223372036854775807))
 (bcase (decide (ByteArray.size (s2 ++ s1) + 1 ≤ 9223372036854775807))
 (((bcase (decide (ByteArray.size (s2 ++ s1) + 1 ≤ 9223372036854775807))
 ((Go.Value.string (s2 ++ s1 ++ { data := #[120] })) = (Go.Value.string (s2 ++ s1 ++ { data := #[120] })))
 False) ∧
 ((bcase (decide (ByteArray.size s2 + ByteArray.size s1 ≤ 9223372036854775807))
 ((Go.Value.string (s2 ++ s1)) = (Go.Value.string (s2 ++ s1)))
 False) ∧
 ((∃ n3 : Int,
 ((At (l4) (Go.Addr.off { block := 500, off := 0 + Int.toNat x3 * 2 } + 1) 1 [(vI n3)]) ∧
 ((vI n3) = (vI n2)))) ∧
 (((Go.Value.pointer (Option.some (Go.Addr.mk 500 (Go.Addr.off { block := 500, off := 0 + Int.toNat x3 * 2 } + 1) Option.none))) = (Go.Value.pointer (Option.some (Go.Addr.mk 500 (Go.Addr.off { block := 500, off := 0 + Int.toNat x3 * 2 } + 1) Option.none)))) ∧
 ((bcase (decide (0 ≤ x3))
 (bcase (decide (x3 < (↑n0 : Int)))
 ((Go.Value.pointer (Option.some (Go.Addr.mk 500 (0 + Int.toNat x3 * 2) Option.none))) = (Go.Value.pointer (Option.some (Go.Addr.mk 500 (0 + Int.toNat x3 * 2) Option.none))))
 False)
 False) ∧
 (((vI x3) = (vI x3)) ∧
 (((Go.Value.slice (Option.some (Go.Addr.mk 500 0 Option.none)) (n0) (c1)) = (Go.Value.slice (Option.some (Go.Addr.mk 500 0 Option.none)) (n0) (c1))) ∧
 (((Go.Value.pointer (Option.some (Go.Addr.mk 500 (0 + Int.toNat x3 * 2) Option.none))) = (Go.Value.pointer (Option.some (Go.Addr.mk 500 (0 + Int.toNat x3 * 2) Option.none)))) ∧
 ((bcase (decide (0 ≤ x3))
 (bcase (decide (x3 < (↑n0 : Int)))
 ((Go.Value.pointer (Option.some (Go.Addr.mk 500 (0 + Int.toNat x3 * 2) Option.none))) = (Go.Value.pointer (Option.some (Go.Addr.mk 500 (0 + Int.toNat x3 * 2) Option.none))))
 False)
 False) ∧
 (((vI x3) = (vI x3)) ∧
 (((Go.Value.slice (Option.some (Go.Addr.mk 500 0 Option.none)) (n0) (c1)) = (Go.Value.slice (Option.some (Go.Addr.mk 500 0 Option.none)) (n0) (c1))) ∧
 (((Go.Value.string (s2)) = (Go.Value.string (s2))) ∧
 True)))))))))))) ∧
 (∃ s3 : ByteArray,
 ((Says C 28 [(D.val (vI n2))] [(D.val (Go.Value.string (s3)))]) ∧
 (bcase (decide (ByteArray.size (s2 ++ s1 ++ { data := #[120] }) + ByteArray.size s3 ≤ 9223372036854775807))
 (((bcase (decide (ByteArray.size (s2 ++ s1 ++ { data := #[120] }) + ByteArray.size s3 ≤ 9223372036854775807))
 ((Go.Value.string (s2 ++ s1 ++ { data := #[120] } ++ s3)) = (Go.Value.string (s2 ++ s1 ++ { data := #[120] } ++ s3)))
 False) ∧
 ((bcase (decide (ByteArray.size (s2 ++ s1) + 1 ≤ 9223372036854775807))
 ((Go.Value.string (s2 ++ s1 ++ { data := #[120] })) = (Go.Value.string (s2 ++ s1 ++ { data := #[120] })))
 False) ∧
 ((bcase (decide (ByteArray.size s2 + ByteArray.size s1 ≤ 9223372036854775807))
 ((Go.Value.string (s2 ++ s1)) = (Go.Value.string (s2 ++ s1)))
 False) ∧
 (((Go.Value.pointer (Option.some (Go.Addr.mk 500 (Go.Addr.off { block := 500, off := 0 + Int.toNat x3 * 2 } + 1) Option.none))) = (Go.Value.pointer (Option.some (Go.Addr.mk 500 (Go.Addr.off { block := 500, off := 0 + Int.toNat x3 * 2 } + 1) Option.none)))) ∧
 ((bcase (decide (0 ≤ x3))
 (bcase (decide (x3 < (↑n0 : Int)))
 ((Go.Value.pointer (Option.some (Go.Addr.mk 500 (0 + Int.toNat x3 * 2) Option.none))) = (Go.Value.pointer (Option.some (Go.Addr.mk 500 (0 + Int.toNat x3 * 2) Option.none))))
 False)
 False) ∧
 (((vI x3) = (vI x3)) ∧
 (((Go.Value.slice (Option.some (Go.Addr.mk 500 0 Option.none)) (n0) (c1)) = (Go.Value.slice (Option.some (Go.Addr.mk 500 0 Option.none)) (n0) (c1))) ∧
 (((Go.Value.pointer (Option.some (Go.Addr.mk 500 (0 + Int.toNat x3 * 2) Option.none))) = (Go.Value.pointer (Option.some (Go.Addr.mk 500 (0 + Int.toNat x3 * 2) Option.none)))) ∧
 ((bcase (decide (0 ≤ x3))
 (bcase (decide (x3 < (↑n0 : Int)))
 ((Go.Value.pointer (Option.some (Go.Addr.mk 500 (0 + Int.toNat x3 * 2) Option.none))) = (Go.Value.pointer (Option.some (Go.Addr.mk 500 (0 + Int.toNat x3 * 2) Option.none))))
 False)
 False) ∧
 (((vI x3) = (vI x3)) ∧
 (((Go.Value.slice (Option.some (Go.Addr.mk 500 0 Option.none)) (n0) (c1)) = (Go.Value.slice (Option.some (Go.Addr.mk 500 0 Option.none)) (n0) (c1))) ∧
 (((Go.Value.string (s2)) = (Go.Value.string (s2))) ∧
 True)))))))))))) ∧
 (True ∧
 (B [(Prod.mk 0 (Go.Value.slice (Option.some (Go.Addr.mk 500 0 Option.none)) (n0) (c1))), (Prod.mk 3 (Go.Value.string (s2 ++ s1 ++ { data := #[120] } ++ s3))), (Prod.mk 4 (vI (IntKind.wrap .i64 (x3 + 1))))] [(Prod.mk 500 (AObj.sym (l4) false 2))])))
 False))))
 False)
 False))))))
 False)
 False)))
 False)
 False))
 (X 0 [(Prod.mk 3 (Go.Value.string (s2)))] [])) := by kernel_rfl
def nRF2 (C : Ct) (L : AtLoop) (s0 : ByteArray) (k : List D → Prop) : Prop := wpNext Tryd.prog (hF C) L 9 0 .normal [(3, (Value.string s0))] [] (dataK k)
theorem nRF2_text (C : Ct) (L : AtLoop) (s0 : ByteArray) (k : List D → Prop) : nRF2 C L s0 k =
 (k [(D.val (Go.Value.string (s0)))]) := by kernel_rfl
def gRFn (C : Ct) (L : AtLoop) (k : List D → Prop) : Prop := wpFn Tryd.prog (hF C) L 0 9 #[.slice none 0 0] (heapOf []) (dataK k)
theorem gRFn_text (C : Ct) (L : AtLoop) (k : List D → Prop) : gRFn C L k =
 (L 0 [(Prod.mk 0 (Go.Value.slice Option.none 0 0)), (Prod.mk 3 (Go.Value.string ({ data := #[] }))), (Prod.mk 4 (vI (0 : Int)))] []) := by kernel_rfl
abbrev zRFn1 (s0 : ByteArray) (x1 : Int) : Slots × Blocks := ([(0, (Value.slice none 0 0)), (3, (Value.string s0)), (4, (Value.int .i64 x1))], [])
def rRFn1 (C : Ct) (L : AtLoop) (s0 : ByteArray) (x1 : Int) (B : Bx) (X : Xx) (k : List D → Prop) : Prop := wpRound Tryd.prog (hF C) L 9 0 [(0, (Value.slice none 0 0)), (3, (Value.string s0)), (4, (Value.int .i64 x1))] [] B X (dataK k)
theorem rRFn1_text (C : Ct) (L : AtLoop) (s0 : ByteArray) (x1 : Int) (B : Bx) (X : Xx) (k : List D → Prop) : rRFn1 C L s0 x1 B X k =
 (bcase (decide (x1 < (↑0 : Int)))
 (bcase (decide (x1 > 0))
 (bcase (decide (ByteArray.size s0 + 1 ≤ 9223372036854775807))
 False
 False)
 False)
 (X 0 [(Prod.mk 3 (Go.Value.string (s0)))] [])) := by kernel_rfl
def nRFn2 (C : Ct) (L : AtLoop) (s0 : ByteArray) (k : List D → Prop) : Prop := wpNext Tryd.prog (hF C) L 9 0 .normal [(3, (Value.string s0))] [] (dataK k)
theorem nRFn2_text (C : Ct) (L : AtLoop) (s0 : ByteArray) (k : List D → Prop) : nRFn2 C L s0 k =
 (k [(D.val (Go.Value.string (s0)))]) := by kernel_rfl
def gPR (C : Ct) (L : AtLoop) (s0 : ByteArray) (k : List D → Prop) : Prop := wpFn Tryd.prog (hF C) L 0 7 #[.string s0] (heapOf []) (dataK k)
theorem gPR_text (C : Ct) (L : AtLoop) (s0 : ByteArray) (k : List D → Prop) : gPR C L s0 k =
 (bcase (decide ((↑(ByteArray.size s0) : Int) > 60000))
 (k [D.nil, (D.val (vI (8 : Int)))])
 (bcase (ByteArray.toList s0 == ByteArray.toList { data := #[] })
 (k [D.nil, (D.val (vI (0 : Int)))])
 (((Says C 21 [(D.val (Go.Value.string (s0))), (D.val (Go.Value.string ({ data := #[32] })))] [D.nil]) ∧
 (L 1 [(Prod.mk 4 (Go.Value.slice Option.none 0 0)), (Prod.mk 20 (Go.Value.slice Option.none 0 0)), (Prod.mk 21 (vI (0 : Int))), (Prod.mk 22 (vI (0 : Int)))] [])) ∨
 (∃ n1 : Nat,
 (∃ cs1 : List Go.Value,
 ((Says C 21 [(D.val (Go.Value.string (s0))), (D.val (Go.Value.string ({ data := #[32] })))] [(D.sl (n1) 1 (cs1))]) ∧
 (L 1 [(Prod.mk 4 (Go.Value.slice Option.none 0 0)), (Prod.mk 20 (Go.Value.slice (Option.some (Go.Addr.mk 1000 0 Option.none)) (n1) (n1))), (Prod.mk 21 (vI ((↑n1 : Int)))), (Prod.mk 22 (vI (0 : Int)))] [(Prod.mk 1000 (AObj.sym (cs1) true 1))]))))))) := by kernel_rfl
abbrev zPR2 (n0 : Nat) (x1 : Int) (x2 : Int) (l3 : List Value) : Slots × Blocks := ([(4, (Value.slice none 0 0)), (20, (Value.slice (some ⟨1000, 0, none⟩) n0 n0)), (21, (Value.int .i64 x1)), (22, (Value.int .i64 x2))], [(1000, (AObj.sym l3 true 1))])
def rPR2 (C : Ct) (L : AtLoop) (n0 : Nat) (x1 : Int) (x2 : Int) (l3 : List Value) (B : Bx) (X : Xx) (k : List D → Prop) : Prop := wpRound Tryd.prog (hF C) L 7 1 [(4, (Value.slice none 0 0)), (20, (Value.slice (some ⟨1000, 0, none⟩) n0 n0)), (21, (Value.int .i64 x1)), (22, (Value.int .i64 x2))] [(1000, (AObj.sym l3 true 1))] B X (dataK k)
theorem rPR2_text (C : Ct) (L : AtLoop) (n0 : Nat) (x1 : Int) (x2 : Int) (l3 : List Go.Value) (B : Bx) (X : Xx) (k : List D → Prop) : rPR2 C L n0 x1 x2 l3 B X k =
 (bcase (decide (x2 < x1))
 (bcase (decide (0 ≤ x2))
 (bcase (decide (x2 < (↑n0 : Int)))
 (∃ s1 : ByteArray,
 ((At (l3) (0 + Int.toNat x2 * 1) 1 [(Go.Value.string (s1))]) ∧
 (∃ s2 : ByteArray,
 (∃ s3 : ByteArray,
 (((Says C 22 [(D.val (Go.Value.string (s1))), (D.val (Go.Value.string ({ data := #[120] })))] [(D.val (Go.Value.string (s2))), (D.val (Go.Value.string (s3))), (D.val (Value.bool true))]) ∧
 (((Says C 23 [(D.val (Go.Value.string (s2)))] [(D.val (Value.bool true))]) ∧
 (((Says C 23 [(D.val (Go.Value.string (s3)))] [(D.val (Value.bool true))]) ∧
 (∃ n1 : Int,
 ((Says C 24 [(D.val (Go.Value.string (s2)))] [(D.val (vI n1))]) ∧
 (∃ n2 : Int,
 ((Says C 24 [(D.val (Go.Value.string (s3)))] [(D.val (vI n2))]) ∧
 (B [(Prod.mk 4 (Go.Value.slice (Option.some (Go.Addr.mk 1000 0 Option.none)) 1 1)), (Prod.mk 20 (Go.Value.slice (Option.some (Go.Addr.mk 1001 0 Option.none)) (n0) (n0))), (Prod.mk 21 (vI x1)), (Prod.mk 22 (vI (IntKind.wrap .i64 (x2 + 1))))] [(Prod.mk 1000 (AObj.sym [(vI n1), (vI n2)] true 2)), (Prod.mk 1001 (AObj.sym (l3) true 1))])))))) ∨
 ((Says C 23 [(D.val (Go.Value.string (s3)))] [(D.val (Value.bool false))]) ∧
 (k [D.nil, (D.val (vI (7 : Int)))])))) ∨
 ((Says C 23 [(D.val (Go.Value.string (s2)))] [(D.val (Value.bool false))]) ∧
 (k [D.nil, (D.val (vI (7 : Int)))])))) ∨
 ((Says C 22 [(D.val (Go.Value.string (s1))), (D.val (Go.Value.string ({ data := #[120] })))] [(D.val (Go.Value.string (s2))), (D.val (Go.Value.string (s3))), (D.val (Value.bool false))]) ∧
 (((Says C 23 [(D.val (Go.Value.string (s2)))] [(D.val (Value.bool true))]) ∧
 (((Says C 23 [(D.val (Go.Value.string (s3)))] [(D.val (Value.bool true))]) ∧
 (∃ n1 : Int,
 ((Says C 24 [(D.val (Go.Value.string (s2)))] [(D.val (vI n1))]) ∧
 (∃ n2 : Int,
 ((Says C 24 [(D.val (Go.Value.string (s3)))] [(D.val (vI n2))]) ∧
 (B [(Prod.mk 4 (Go.Value.slice (Option.some (Go.Addr.mk 1000 0 Option.none)) 1 1)), (Prod.mk 20 (Go.Value.slice (Option.some (Go.Addr.mk 1001 0 Option.none)) (n0) (n0))), (Prod.mk 21 (vI x1)), (Prod.mk 22 (vI (IntKind.wrap .i64 (x2 + 1))))] [(Prod.mk 1000 (AObj.sym [(vI n1), (vI n2)] true 2)), (Prod.mk 1001 (AObj.sym (l3) true 1))])))))) ∨
 ((Says C 23 [(D.val (Go.Value.string (s3)))] [(D.val (Value.bool false))]) ∧
 (k [D.nil, (D.val (vI (7 : Int)))])))) ∨
 ((Says C 23 [(D.val (Go.Value.string (s2)))] [(D.val (Value.bool false))]) ∧
 (k [D.nil, (D.val (vI (7 : Int)))])))))))))
 False)
 False)
 (X 1 [(Prod.mk 4 (Go.Value.slice Option.none 0 0))] [])) := by kernel_rfl
abbrev zPR4 (n0 : Nat) (n1 : Nat) (x2 : Int) (x3 : Int) (l4 : List Value) (l5 : List Value) : Slots × Blocks := ([(4, (Value.slice (some ⟨1000, 0, none⟩) n0 n0)), (20, (Value.slice (some ⟨1001, 0, none⟩) n1 n1)), (21, (Value.int .i64 x2)), (22, (Value.int .i64 x3))], [(1000, (AObj.sym l4 true 2)), (1001, (AObj.sym l5 true 1))])
def rPR4 (C : Ct) (L : AtLoop) (n0 : Nat) (n1 : Nat) (x2 : Int) (x3 : Int) (l4 : List Value) (l5 : List Value) (B : Bx) (X : Xx) (k : List D → Prop) : Prop := wpRound Tryd.prog (hF C) L 7 1 [(4, (Value.slice (some ⟨1000, 0, none⟩) n0 n0)), (20, (Value.slice (some ⟨1001, 0, none⟩) n1 n1)), (21, (Value.int .i64 x2)), (22, (Value.int .i64 x3))] [(1000, (AObj.sym l4 true 2)), (1001, (AObj.sym l5 true 1))] B X (dataK k)
theorem rPR4_text (C : Ct) (L : AtLoop) (n0 : Nat) (n1 : Nat) (x2 : Int) (x3 : Int) (l4 : List Go.Value) (l5 : List Go.Value) (B : Bx) (X : Xx) (k : List D → Prop) : rPR4 C L n0 n1 x2 x3 l4 l5 B X k =
 (bcase (decide (x3 < x2))
 (bcase (decide (0 ≤ x3))
 (bcase (decide (x3 < (↑n1 : Int)))
 (∃ s1 : ByteArray,
 ((At (l5) (0 + Int.toNat x3 * 1) 1 [(Go.Value.string (s1))]) ∧
 (∃ s2 : ByteArray,
 (∃ s3 : ByteArray,
 (((Says C 22 [(D.val (Go.Value.string (s1))), (D.val (Go.Value.string ({ data := #[120] })))] [(D.val (Go.Value.string (s2))), (D.val (Go.Value.string (s3))), (D.val (Value.bool true))]) ∧
 (((Says C 23 [(D.val (Go.Value.string (s2)))] [(D.val (Value.bool true))]) ∧
 (((Says C 23 [(D.val (Go.Value.string (s3)))] [(D.val (Value.bool true))]) ∧
 (∃ n2 : Int,
 ((Says C 24 [(D.val (Go.Value.string (s2)))] [(D.val (vI n2))]) ∧
 (∃ n3 : Int,
 ((Says C 24 [(D.val (Go.Value.string (s3)))] [(D.val (vI n3))]) ∧
 (bcase (decide (n0 < n0 + 1))
 (bcase (decide ((2 * (n0 + 1) + 768) * 16 ≤ 281474976710656))
 (bcase (decide (n0 + 1 ≤ 1099511627776))
 (bcase (decide (0 + n0 * 2 ≤ List.length l4))
 (bcase (decide (0 + n0 * 2 = List.length l4))
 (B [(Prod.mk 4 (Go.Value.slice (Option.some (Go.Addr.mk 1000 0 Option.none)) (n0 + 1) (n0 + 1))), (Prod.mk 20 (Go.Value.slice (Option.some (Go.Addr.mk 1001 0 Option.none)) (n1) (n1))), (Prod.mk 21 (vI x2)), (Prod.mk 22 (vI (IntKind.wrap .i64 (x3 + 1))))] [(Prod.mk 1000 (AObj.sym ((List.take (n0 * 2) (List.drop 0 l4)) ++ [(vI n2), (vI n3)]) true 2)), (Prod.mk 1001 (AObj.sym (l5) true 1))])
 False)
 False)
 False)
 False)
 False)))))) ∨
 ((Says C 23 [(D.val (Go.Value.string (s3)))] [(D.val (Value.bool false))]) ∧
 (k [D.nil, (D.val (vI (7 : Int)))])))) ∨
 ((Says C 23 [(D.val (Go.Value.string (s2)))] [(D.val (Value.bool false))]) ∧
 (k [D.nil, (D.val (vI (7 : Int)))])))) ∨
 ((Says C 22 [(D.val (Go.Value.string (s1))), (D.val (Go.Value.string ({ data := #[120] })))] [(D.val (Go.Value.string (s2))), (D.val (Go.Value.string (s3))), (D.val (Value.bool false))]) ∧
 (((Says C 23 [(D.val (Go.Value.string (s2)))] [(D.val (Value.bool true))]) ∧
 (((Says C 23 [(D.val (Go.Value.string (s3)))] [(D.val (Value.bool true))]) ∧
 (∃ n2 : Int,
 ((Says C 24 [(D.val (Go.Value.string (s2)))] [(D.val (vI n2))]) ∧
 (∃ n3 : Int,
 ((Says C 24 [(D.val (Go.Value.string (s3)))] [(D.val (vI n3))]) ∧
 (bcase (decide (n0 < n0 + 1))
 (bcase (decide ((2 * (n0 + 1) + 768) * 16 ≤ 281474976710656))
 (bcase (decide (n0 + 1 ≤ 1099511627776))
 (bcase (decide (0 + n0 * 2 ≤ List.length l4))
 (bcase (decide (0 + n0 * 2 = List.length l4))
 (B [(Prod.mk 4 (Go.Value.slice (Option.some (Go.Addr.mk 1000 0 Option.none)) (n0 + 1) (n0 + 1))), (Prod.mk 20 (Go.Value.slice (Option.some (Go.Addr.mk 1001 0 Option.none)) (n1) (n1))), (Prod.mk 21 (vI x2)), (Prod.mk 22 (vI (IntKind.wrap .i64 (x3 + 1))))] [(Prod.mk 1000 (AObj.sym ((List.take (n0 * 2) (List.drop 0 l4)) ++ [(vI n2), (vI n3)]) true 2)), (Prod.mk 1001 (AObj.sym (l5) true 1))])
 False)
 False)
 False)
 False)
 False)))))) ∨
 ((Says C 23 [(D.val (Go.Value.string (s3)))] [(D.val (Value.bool false))]) ∧
 (k [D.nil, (D.val (vI (7 : Int)))])))) ∨
 ((Says C 23 [(D.val (Go.Value.string (s2)))] [(D.val (Value.bool false))]) ∧
 (k [D.nil, (D.val (vI (7 : Int)))])))))))))
 False)
 False)
 (X 1 [(Prod.mk 4 (Go.Value.slice (Option.some (Go.Addr.mk 1000 0 Option.none)) (n0) (n0)))] [(Prod.mk 1000 (AObj.sym (l4) true 2))])) := by kernel_rfl
def nPR5 (C : Ct) (L : AtLoop) (n0 : Nat) (l1 : List Value) (k : List D → Prop) : Prop := wpNext Tryd.prog (hF C) L 7 1 .normal [(4, (Value.slice (some ⟨1000, 0, none⟩) n0 n0))] [(1000, (AObj.sym l1 true 2))] (dataK k)
theorem nPR5_text (C : Ct) (L : AtLoop) (n0 : Nat) (l1 : List Go.Value) (k : List D → Prop) : nPR5 C L n0 l1 k =
 (bcase (decide (0 + n0 * 2 ≤ List.length l1))
 (∃ n1 : Int,
 (∃ n2 : Int,
 ((Says C 25 [(D.sl (n0) 2 (List.take (n0 * 2) (List.drop 0 l1)))] [(D.val (vI n1)), (D.val (vI n2))]) ∧
 (bcase (n2 != 0)
 (k [D.nil, (D.val (vI n2))])
 ((((n0) = (n0)) ∧
 ((List.length (l1)) = (n0 * 2))) ∧
 (k [(D.sl (n0) 2 (l1)), (D.val (vI (0 : Int)))]))))))
 False) := by kernel_rfl
def gRP (C : Ct) (L : AtLoop) (s0 : ByteArray) (k : List D → Prop) : Prop := wpFn Tryd.prog (hF C) L 0 8 #[.string s0] (heapOf []) (dataK k)
theorem gRP_text (C : Ct) (L : AtLoop) (s0 : ByteArray) (k : List D → Prop) : gRP C L s0 k =
 (bcase (decide ((↑(ByteArray.size s0) : Int) > 60000))
 (k [D.nil, (D.val (vI (8 : Int)))])
 (bcase (ByteArray.toList s0 == ByteArray.toList { data := #[] })
 (k [D.nil, (D.val (vI (0 : Int)))])
 (((Says C 26 [(D.val (Go.Value.string (s0))), (D.val (Go.Value.int Go.IntKind.u8 (32 : Int)))] [D.nil]) ∧
 (L 0 [(Prod.mk 4 (Go.Value.slice Option.none 0 0)), (Prod.mk 5 (Go.Value.slice Option.none 0 0)), (Prod.mk 6 (vI (0 : Int)))] [])) ∨
 (∃ n1 : Nat,
 (∃ cs1 : List Go.Value,
 ((Says C 26 [(D.val (Go.Value.string (s0))), (D.val (Go.Value.int Go.IntKind.u8 (32 : Int)))] [(D.sl (n1) 1 (cs1))]) ∧
 (L 0 [(Prod.mk 4 (Go.Value.slice Option.none 0 0)), (Prod.mk 5 (Go.Value.slice (Option.some (Go.Addr.mk 1000 0 Option.none)) (n1) (n1))), (Prod.mk 6 (vI (0 : Int)))] [(Prod.mk 1000 (AObj.sym (cs1) true 1))]))))))) := by kernel_rfl
abbrev zRP2 (n0 : Nat) (x1 : Int) (l2 : List Value) : Slots × Blocks := ([(4, (Value.slice none 0 0)), (5, (Value.slice (some ⟨1000, 0, none⟩) n0 n0)), (6, (Value.int .i64 x1))], [(1000, (AObj.sym l2 true 1))])
def rRP2 (C : Ct) (L : AtLoop) (n0 : Nat) (x1 : Int) (l2 : List Value) (B : Bx) (X : Xx) (k : List D → Prop) : Prop := wpRound Tryd.prog (hF C) L 8 0 [(4, (Value.slice none 0 0)), (5, (Value.slice (some ⟨1000, 0, none⟩) n0 n0)), (6, (Value.int .i64 x1))] [(1000, (AObj.sym l2 true 1))] B X (dataK k)
theorem rRP2_text (C : Ct) (L : AtLoop) (n0 : Nat) (x1 : Int) (l2 : List Go.Value) (B : Bx) (X : Xx) (k : List D → Prop) : rRP2 C L n0 x1 l2 B X k =
 (bcase (decide (x1 < (↑n0 : Int)))
 (bcase (decide (0 ≤ x1))
 (bcase (decide (x1 < (↑n0 : Int)))
 (∃ s1 : ByteArray,
 ((At (l2) (0 + Int.toNat x1 * 1) 1 [(Go.Value.string (s1))]) ∧
 (((Says C 26 [(D.val (Go.Value.string (s1))), (D.val (Go.Value.int Go.IntKind.u8 (120 : Int)))] [D.nil]) ∧
 (k [D.nil, (D.val (vI (7 : Int)))])) ∨
 (∃ n1 : Nat,
 (∃ cs1 : List Go.Value,
 ((Says C 26 [(D.val (Go.Value.string (s1))), (D.val (Go.Value.int Go.IntKind.u8 (120 : Int)))] [(D.sl (n1) 1 (cs1))]) ∧
 (bcase ((↑n1 : Int) != 2)
 (k [D.nil, (D.val (vI (7 : Int)))])
 (bcase (decide (0 < (↑n1 : Int)))
 (∃ s2 : ByteArray,
 ((At (cs1) 0 1 [(Go.Value.string (s2))]) ∧
 (∃ n2 : Int,
 (((Says C 27 [(D.val (Go.Value.string (s2))), (D.val (vI (5 : Int)))] [(D.val (vI n2)), (D.val (Value.bool true))]) ∧
 (bcase (decide (1 < (↑n1 : Int)))
 (∃ s3 : ByteArray,
 ((At (cs1) 1 1 [(Go.Value.string (s3))]) ∧
 (∃ n3 : Int,
 (((Says C 27 [(D.val (Go.Value.string (s3))), (D.val (vI (5 : Int)))] [(D.val (vI n3)), (D.val (Value.bool true))]) ∧
 (bcase (decide (n2 < 0))
 (k [D.nil, (D.val (vI (7 : Int)))])
 (bcase (decide (n3 < 0))
 (k [D.nil, (D.val (vI (7 : Int)))])
 (B [(Prod.mk 4 (Go.Value.slice (Option.some (Go.Addr.mk 1000 0 Option.none)) 1 1)), (Prod.mk 5 (Go.Value.slice (Option.some (Go.Addr.mk 1001 0 Option.none)) (n0) (n0))), (Prod.mk 6 (vI (IntKind.wrap .i64 (x1 + 1))))] [(Prod.mk 1000 (AObj.sym [(vI n2), (vI n3)] true 2)), (Prod.mk 1001 (AObj.sym (l2) true 1))])))) ∨
 ((Says C 27 [(D.val (Go.Value.string (s3))), (D.val (vI (5 : Int)))] [(D.val (vI n3)), (D.val (Value.bool false))]) ∧
 (k [D.nil, (D.val (vI (7 : Int)))]))))))
 False)) ∨
 ((Says C 27 [(D.val (Go.Value.string (s2))), (D.val (vI (5 : Int)))] [(D.val (vI n2)), (D.val (Value.bool false))]) ∧
 (bcase (decide (1 < (↑n1 : Int)))
 (∃ s3 : ByteArray,
 ((At (cs1) 1 1 [(Go.Value.string (s3))]) ∧
 (∃ n3 : Int,
 (((Says C 27 [(D.val (Go.Value.string (s3))), (D.val (vI (5 : Int)))] [(D.val (vI n3)), (D.val (Value.bool true))]) ∧
 (k [D.nil, (D.val (vI (7 : Int)))])) ∨
 ((Says C 27 [(D.val (Go.Value.string (s3))), (D.val (vI (5 : Int)))] [(D.val (vI n3)), (D.val (Value.bool false))]) ∧
 (k [D.nil, (D.val (vI (7 : Int)))]))))))
 False))))))
 False))))))))
 False)
 False)
 (X 0 [(Prod.mk 4 (Go.Value.slice Option.none 0 0))] [])) := by kernel_rfl
abbrev zRP4 (n0 : Nat) (n1 : Nat) (x2 : Int) (l3 : List Value) (l4 : List Value) : Slots × Blocks := ([(4, (Value.slice (some ⟨1000, 0, none⟩) n0 n0)), (5, (Value.slice (some ⟨1001, 0, none⟩) n1 n1)), (6, (Value.int .i64 x2))], [(1000, (AObj.sym l3 true 2)), (1001, (AObj.sym l4 true 1))])
def rRP4 (C : Ct) (L : AtLoop) (n0 : Nat) (n1 : Nat) (x2 : Int) (l3 : List Value) (l4 : List Value) (B : Bx) (X : Xx) (k : List D → Prop) : Prop := wpRound Tryd.prog (hF C) L 8 0 [(4, (Value.slice (some ⟨1000, 0, none⟩) n0 n0)), (5, (Value.slice (some ⟨1001, 0, none⟩) n1 n1)), (6, (Value.int .i64 x2))] [(1000, (AObj.sym l3 true 2)), (1001, (AObj.sym l4 true 1))] B X (dataK k)
theorem rRP4_text (C : Ct) (L : AtLoop) (n0 : Nat) (n1 : Nat) (x2 : Int) (l3 : List Go.Value) (l4 : List Go.Value) (B : Bx) (X : Xx) (k : List D → Prop) : rRP4 C L n0 n1 x2 l3 l4 B X k =
 (bcase (decide (x2 < (↑n1 : Int)))
 (bcase (decide (0 ≤ x2))
 (bcase (decide (x2 < (↑n1 : Int)))
 (∃ s1 : ByteArray,
 ((At (l4) (0 + Int.toNat x2 * 1) 1 [(Go.Value.string (s1))]) ∧
 (((Says C 26 [(D.val (Go.Value.string (s1))), (D.val (Go.Value.int Go.IntKind.u8 (120 : Int)))] [D.nil]) ∧
 (k [D.nil, (D.val (vI (7 : Int)))])) ∨
 (∃ n2 : Nat,
 (∃ cs1 : List Go.Value,
 ((Says C 26 [(D.val (Go.Value.string (s1))), (D.val (Go.Value.int Go.IntKind.u8 (120 : Int)))] [(D.sl (n2) 1 (cs1))]) ∧
 (bcase ((↑n2 : Int) != 2)
 (k [D.nil, (D.val (vI (7 : Int)))])
 (bcase (decide (0 < (↑n2 : Int)))
 (∃ s2 : ByteArray,
 ((At (cs1) 0 1 [(Go.Value.string (s2))]) ∧
 (∃ n3 : Int,
 (((Says C 27 [(D.val (Go.Value.string (s2))), (D.val (vI (5 : Int)))] [(D.val (vI n3)), (D.val (Value.bool true))]) ∧
 (bcase (decide (1 < (↑n2 : Int)))
 (∃ s3 : ByteArray,
 ((At (cs1) 1 1 [(Go.Value.string (s3))]) ∧
 (∃ n4 : Int,
 (((Says C 27 [(D.val (Go.Value.string (s3))), (D.val (vI (5 : Int)))] [(D.val (vI n4)), (D.val (Value.bool true))]) ∧
 (bcase (decide (n3 < 0))
 (k [D.nil, (D.val (vI (7 : Int)))])
 (bcase (decide (n4 < 0))
 (k [D.nil, (D.val (vI (7 : Int)))])
 (bcase (decide (n0 < n0 + 1))
 (bcase (decide ((2 * (n0 + 1) + 768) * 16 ≤ 281474976710656))
 (bcase (decide (n0 + 1 ≤ 1099511627776))
 (bcase (decide (0 + n0 * 2 ≤ List.length l3))
 (bcase (decide (0 + n0 * 2 = List.length l3))
 (B [(Prod.mk 4 (Go.Value.slice (Option.some (Go.Addr.mk 1000 0 Option.none)) (n0 + 1) (n0 + 1))), (Prod.mk 5 (Go.Value.slice (Option.some (Go.Addr.mk 1001 0 Option.none)) (n1) (n1))), (Prod.mk 6 (vI (IntKind.wrap .i64 (x2 + 1))))] [(Prod.mk 1000 (AObj.sym ((List.take (n0 * 2) (List.drop 0 l3)) ++ [(vI n3), (vI n4)]) true 2)), (Prod.mk 1001 (AObj.sym (l4) true 1))])
 False)
 False)
 False)
 False)
 False)))) ∨
 ((Says C 27 [(D.val (Go.Value.string (s3))), (D.val (vI (5 : Int)))] [(D.val (vI n4)), (D.val (Value.bool false))]) ∧
 (k [D.nil, (D.val (vI (7 : Int)))]))))))
 False)) ∨
 ((Says C 27 [(D.val (Go.Value.string (s2))), (D.val (vI (5 : Int)))] [(D.val (vI n3)), (D.val (Value.bool false))]) ∧
 (bcase (decide (1 < (↑n2 : Int)))
 (∃ s3 : ByteArray,
 ((At (cs1) 1 1 [(Go.Value.string (s3))]) ∧
 (∃ n4 : Int,
 (((Says C 27 [(D.val (Go.Value.string (s3))), (D.val (vI (5 : Int)))] [(D.val (vI n4)), (D.val (Value.bool true))]) ∧
 (k [D.nil, (D.val (vI (7 : Int)))])) ∨
 ((Says C 27 [(D.val (Go.Value.string (s3))), (D.val (vI (5 : Int)))] [(D.val (vI n4)), (D.val (Value.bool false))]) ∧
 (k [D.nil, (D.val (vI (7 : Int)))]))))))
 False))))))
 False))))))))
 False)
 False)
 (X 0 [(Prod.mk 4 (Go.Value.slice (Option.some (Go.Addr.mk 1000 0 Option.none)) (n0) (n0)))] [(Prod.mk 1000 (AObj.sym (l3) true 2))])) := by kernel_rfl
def nRP5 (C : Ct) (L : AtLoop) (n0 : Nat) (l1 : List Value) (k : List D → Prop) : Prop := wpNext Tryd.prog (hF C) L 8 0 .normal [(4, (Value.slice (some ⟨1000, 0, none⟩) n0 n0))] [(1000, (AObj.sym l1 true 2))] (dataK k)
theorem nRP5_text (C : Ct) (L : AtLoop) (n0 : Nat) (l1 : List Go.Value) (k : List D → Prop) : nRP5 C L n0 l1 k =
 (bcase (decide (0 + n0 * 2 ≤ List.length l1))
 (∃ n1 : Int,
 ((Says C 11 [(D.sl (n0) 2 (List.take (n0 * 2) (List.drop 0 l1)))] [(D.val (vI n1))]) ∧
 (bcase (n1 != 0)
 (k [D.nil, (D.val (vI n1))])
 ((((n0) = (n0)) ∧
 ((List.length (l1)) = (n0 * 2))) ∧
 (k [(D.sl (n0) 2 (l1)), (D.val (vI (0 : Int)))])))))
 False) := by kernel_rfl
def gSR (C : Ct) (L : AtLoop) (n0 : Nat) (c0 : Nat) (l0 : List Value) (n1 : Nat) (c1 : Nat) (l1 : List Value) (k : List D → Prop) : Prop := wpFn Tryd.prog (hF C) L 0 10 #[.slice (some ⟨500, 0, none⟩) n0 c0, .slice (some ⟨501, 0, none⟩) n1 c1] (heapOf [(500, .sym l0 false 2), (501, .sym l1 false 2)]) (dataK k)
theorem gSR_text (C : Ct) (L : AtLoop) (n0 : Nat) (c0 : Nat) (l0 : List Go.Value) (n1 : Nat) (c1 : Nat) (l1 : List Go.Value) (k : List D → Prop) : gSR C L n0 c0 l0 n1 c1 l1 k =
 (bcase ((↑n0 : Int) != (↑n1 : Int))
 (k [(D.val (Value.bool false))])
 (L 0 [(Prod.mk 0 (Go.Value.slice (Option.some (Go.Addr.mk 500 0 Option.none)) (n0) (c0))), (Prod.mk 1 (Go.Value.slice (Option.some (Go.Addr.mk 501 0 Option.none)) (n1) (c1))), (Prod.mk 5 (vI (0 : Int)))] [(Prod.mk 500 (AObj.sym (l0) false 2)), (Prod.mk 501 (AObj.sym (l1) false 2))])) := by kernel_rfl
abbrev zSR1 (n0 : Nat) (c1 : Nat) (n2 : Nat) (c3 : Nat) (x4 : Int) (l5 : List Value) (l6 : List Value) : Slots × Blocks := ([(0, (Value.slice (some ⟨500, 0, none⟩) n0 c1)), (1, (Value.slice (some ⟨501, 0, none⟩) n2 c3)), (5, (Value.int .i64 x4))], [(500, (AObj.sym l5 false 2)), (501, (AObj.sym l6 false 2))])
def rSR1 (C : Ct) (L : AtLoop) (n0 : Nat) (c1 : Nat) (n2 : Nat) (c3 : Nat) (x4 : Int) (l5 : List Value) (l6 : List Value) (B : Bx) (X : Xx) (k : List D → Prop) : Prop := wpRound Tryd.prog (hF C) L 10 0 [(0, (Value.slice (some ⟨500, 0, none⟩) n0 c1)), (1, (Value.slice (some ⟨501, 0, none⟩) n2 c3)), (5, (Value.int .i64 x4))] [(500, (AObj.sym l5 false 2)), (501, (AObj.sym l6 false 2))] B X (dataK k)
theorem rSR1_text (C : Ct) (L : AtLoop) (n0 : Nat) (c1 : Nat) (n2 : Nat) (c3 : Nat) (x4 : Int) (l5 : List Go.Value) (l6 : List Go.Value) (B : Bx) (X : Xx) (k : List D → Prop) : rSR1 C L n0 c1 n2 c3 x4 l5 l6 B X k =
 (bcase (decide (x4 < (↑n0 : Int)))
 (bcase (decide (0 ≤ x4))
 (bcase (decide (x4 < (↑n0 : Int)))
 (∃ n1 : Int,
 (∃ n3 : Int,
 ((At (l5) (0 + Int.toNat x4 * 2) 2 [(vI n1), (vI n3)]) ∧
 (bcase (decide (0 ≤ x4))
 (bcase (decide (x4 < (↑n2 : Int)))
 (∃ n4 : Int,
 (∃ n5 : Int,
 ((At (l6) (0 + Int.toNat x4 * 2) 2 [(vI n4), (vI n5)]) ∧
 (bcase (if Bool.true = Bool.true then !(n1 == n4 && (n3 == n5 && Bool.true)) else n1 == n4 && (n3 == n5 && Bool.true))
 (((bcase (if Bool.true = Bool.true then !(n1 == n4 && (n3 == n5 && Bool.true)) else n1 == n4 && (n3 == n5 && Bool.true))
 ((Value.bool true) = (Value.bool true))
 ((Value.bool false) = (Value.bool true))) ∧
 ((∃ n6 : Int,
 (∃ n7 : Int,
 ((At (l6) (0 + Int.toNat x4 * 2) 2 [(vI n6), (vI n7)]) ∧
 ((Go.Value.agg [(vI n6), (vI n7)].toArray) = (Go.Value.agg [(vI n4), (vI n5)].toArray))))) ∧
 ((bcase (decide (0 ≤ x4))
 (bcase (decide (x4 < (↑n2 : Int)))
 ((Go.Value.pointer (Option.some (Go.Addr.mk 501 (0 + Int.toNat x4 * 2) Option.none))) = (Go.Value.pointer (Option.some (Go.Addr.mk 501 (0 + Int.toNat x4 * 2) Option.none))))
 False)
 False) ∧
 (((vI x4) = (vI x4)) ∧
 (((Go.Value.slice (Option.some (Go.Addr.mk 501 0 Option.none)) (n2) (c3)) = (Go.Value.slice (Option.some (Go.Addr.mk 501 0 Option.none)) (n2) (c3))) ∧
 ((∃ n6 : Int,
 (∃ n7 : Int,
 ((At (l5) (0 + Int.toNat x4 * 2) 2 [(vI n6), (vI n7)]) ∧
 ((Go.Value.agg [(vI n6), (vI n7)].toArray) = (Go.Value.agg [(vI n1), (vI n3)].toArray))))) ∧
 ((bcase (decide (0 ≤ x4))
 (bcase (decide (x4 < (↑n0 : Int)))
 ((Go.Value.pointer (Option.some (Go.Addr.mk 500 (0 + Int.toNat x4 * 2) Option.none))) = (Go.Value.pointer (Option.some (Go.Addr.mk 500 (0 + Int.toNat x4 * 2) Option.none))))
 False)
 False) ∧
 (((vI x4) = (vI x4)) ∧
 (((Go.Value.slice (Option.some (Go.Addr.mk 500 0 Option.none)) (n0) (c1)) = (Go.Value.slice (Option.some (Go.Addr.mk 500 0 Option.none)) (n0) (c1))) ∧
 True))))))))) ∧
 (k [(D.val (Value.bool false))]))
 (((bcase (if Bool.true = Bool.true then !(n1 == n4 && (n3 == n5 && Bool.true)) else n1 == n4 && (n3 == n5 && Bool.true))
 ((Value.bool true) = (Value.bool false))
 ((Value.bool false) = (Value.bool false))) ∧
 ((∃ n6 : Int,
 (∃ n7 : Int,
 ((At (l6) (0 + Int.toNat x4 * 2) 2 [(vI n6), (vI n7)]) ∧
 ((Go.Value.agg [(vI n6), (vI n7)].toArray) = (Go.Value.agg [(vI n4), (vI n5)].toArray))))) ∧
 ((bcase (decide (0 ≤ x4))
 (bcase (decide (x4 < (↑n2 : Int)))
 ((Go.Value.pointer (Option.some (Go.Addr.mk 501 (0 + Int.toNat x4 * 2) Option.none))) = (Go.Value.pointer (Option.some (Go.Addr.mk 501 (0 + Int.toNat x4 * 2) Option.none))))
 False)
 False) ∧
 (((vI x4) = (vI x4)) ∧
 (((Go.Value.slice (Option.some (Go.Addr.mk 501 0 Option.none)) (n2) (c3)) = (Go.Value.slice (Option.some (Go.Addr.mk 501 0 Option.none)) (n2) (c3))) ∧
 ((∃ n6 : Int,
 (∃ n7 : Int,
 ((At (l5) (0 + Int.toNat x4 * 2) 2 [(vI n6), (vI n7)]) ∧
 ((Go.Value.agg [(vI n6), (vI n7)].toArray) = (Go.Value.agg [(vI n1), (vI n3)].toArray))))) ∧
 ((bcase (decide (0 ≤ x4))
 (bcase (decide (x4 < (↑n0 : Int)))
 ((Go.Value.pointer (Option.some (Go.Addr.mk 500 (0 + Int.toNat x4 * 2) Option.none))) = (Go.Value.pointer (Option.some (Go.Addr.mk 500 (0 + Int.toNat x4 * 2) Option.none))))
 False)
 False) ∧
 (((vI x4) = (vI x4)) ∧
 (((Go.Value.slice (Option.some (Go.Addr.mk 500 0 Option.none)) (n0) (c1)) = (Go.Value.slice (Option.some (Go.Addr.mk 500 0 Option.none)) (n0) (c1))) ∧
 True))))))))) ∧
 (B [(Prod.mk 0 (Go.Value.slice (Option.some (Go.Addr.mk 500 0 Option.none)) (n0) (c1))), (Prod.mk 1 (Go.Value.slice (Option.some (Go.Addr.mk 501 0 Option.none)) (n2) (c3))), (Prod.mk 5 (vI (IntKind.wrap .i64 (x4 + 1))))] [(Prod.mk 500 (AObj.sym (l5) false 2)), (Prod.mk 501 (AObj.sym (l6) false 2))]))))))
 False)
 False))))
 False)
 False)
 (X 0 [] [])) := by kernel_rfl
def nSR2 (C : Ct) (L : AtLoop) (k : List D → Prop) : Prop := wpNext Tryd.prog (hF C) L 10 0 .normal [] [] (dataK k)
theorem nSR2_text (C : Ct) (L : AtLoop) (k : List D → Prop) : nSR2 C L k =
 (k [(D.val (Value.bool true))]) := by kernel_rfl
def gSRn (C : Ct) (L : AtLoop) (n1 : Nat) (c1 : Nat) (l1 : List Value) (k : List D → Prop) : Prop := wpFn Tryd.prog (hF C) L 0 10 #[.slice none 0 0, .slice (some ⟨500, 0, none⟩) n1 c1] (heapOf [(500, .sym l1 false 2)]) (dataK k)
theorem gSRn_text (C : Ct) (L : AtLoop) (n1 : Nat) (c1 : Nat) (l1 : List Go.Value) (k : List D → Prop) : gSRn C L n1 c1 l1 k =
 (bcase ((↑0 : Int) != (↑n1 : Int))
 (k [(D.val (Value.bool false))])
 (L 0 [(Prod.mk 0 (Go.Value.slice Option.none 0 0)), (Prod.mk 1 (Go.Value.slice (Option.some (Go.Addr.mk 500 0 Option.none)) (n1) (c1))), (Prod.mk 5 (vI (0 : Int)))] [(Prod.mk 500 (AObj.sym (l1) false 2))])) := by kernel_rfl
abbrev zSRn1 (n0 : Nat) (c1 : Nat) (x2 : Int) (l3 : List Value) : Slots × Blocks := ([(0, (Value.slice none 0 0)), (1, (Value.slice (some ⟨500, 0, none⟩) n0 c1)), (5, (Value.int .i64 x2))], [(500, (AObj.sym l3 false 2))])
def rSRn1 (C : Ct) (L : AtLoop) (n0 : Nat) (c1 : Nat) (x2 : Int) (l3 : List Value) (B : Bx) (X : Xx) (k : List D → Prop) : Prop := wpRound Tryd.prog (hF C) L 10 0 [(0, (Value.slice none 0 0)), (1, (Value.slice (some ⟨500, 0, none⟩) n0 c1)), (5, (Value.int .i64 x2))] [(500, (AObj.sym l3 false 2))] B X (dataK k)
theorem rSRn1_text (C : Ct) (L : AtLoop) (n0 : Nat) (c1 : Nat) (x2 : Int) (l3 : List Go.Value) (B : Bx) (X : Xx) (k : List D → Prop) : rSRn1 C L n0 c1 x2 l3 B X k =
 (bcase (decide (x2 < (↑0 : Int)))
 False
 (X 0 [] [])) := by kernel_rfl
def nSRn2 (C : Ct) (L : AtLoop) (k : List D → Prop) : Prop := wpNext Tryd.prog (hF C) L 10 0 .normal [] [] (dataK k)
theorem nSRn2_text (C : Ct) (L : AtLoop) (k : List D → Prop) : nSRn2 C L k =
 (k [(D.val (Value.bool true))]) := by kernel_rfl
def gSRo (C : Ct) (L : AtLoop) (k : List D → Prop) : Prop := wpFn Tryd.prog (hF C) L 0 10 #[.slice none 0 0, .slice none 0 0] (heapOf []) (dataK k)
theorem gSRo_text (C : Ct) (L : AtLoop) (k : List D → Prop) : gSRo C L k =
 (L 0 [(Prod.mk 0 (Go.Value.slice Option.none 0 0)), (Prod.mk 1 (Go.Value.slice Option.none 0 0)), (Prod.mk 5 (vI (0 : Int)))] []) := by kernel_rfl
abbrev zSRo1 (x0 : Int) : Slots × Blocks := ([(0, (Value.slice none 0 0)), (1, (Value.slice none 0 0)), (5, (Value.int .i64 x0))], [])
def rSRo1 (C : Ct) (L : AtLoop) (x0 : Int) (B : Bx) (X : Xx) (k : List D → Prop) : Prop := wpRound Tryd.prog (hF C) L 10 0 [(0, (Value.slice none 0 0)), (1, (Value.slice none 0 0)), (5, (Value.int .i64 x0))] [] B X (dataK k)
theorem rSRo1_text (C : Ct) (L : AtLoop) (x0 : Int) (B : Bx) (X : Xx) (k : List D → Prop) : rSRo1 C L x0 B X k =
 (bcase (decide (x0 < (↑0 : Int)))
 False
 (X 0 [] [])) := by kernel_rfl
def nSRo2 (C : Ct) (L : AtLoop) (k : List D → Prop) : Prop := wpNext Tryd.prog (hF C) L 10 0 .normal [] [] (dataK k)
theorem nSRo2_text (C : Ct) (L : AtLoop) (k : List D → Prop) : nSRo2 C L k =
 (k [(D.val (Value.bool true))]) := by kernel_rfl
def gCY (C : Ct) (L : AtLoop) (n0 : Nat) (c0 : Nat) (l0 : List Value) (k : List D → Prop) : Prop := wpFn Tryd.prog (hE C) L 0 6 #[.slice (some ⟨500, 0, none⟩) n0 c0] (heapOf [(500, .sym l0 false 2)]) (dataK k)
theorem gCY_text (C : Ct) (L : AtLoop) (n0 : Nat) (c0 : Nat) (l0 : List Go.Value) (k : List D → Prop) : gCY C L n0 c0 l0 k =
 (bcase (decide (0 + n0 * 2 ≤ List.length l0))
 (bcase (n0 == 0)
 (((0 = 0) ∧
 (0 = 0)) ∧
 (k [(D.sl 0 2 [])]))
 (bcase (decide (0 < 0 + n0))
 (bcase (decide ((2 * (0 + n0) + 768) * 16 ≤ 281474976710656))
 (bcase (decide (0 + n0 ≤ 1099511627776))
 ((((0 + n0) = (0 + n0)) ∧
 ((List.length ([] ++ (List.take (n0 * 2) (List.drop 0 l0)))) = ((0 + n0) * 2))) ∧
 (k [(D.sl (0 + n0) 2 ([] ++ (List.take (n0 * 2) (List.drop 0 l0))))]))
 False)
 False)
 False))
 False) := by kernel_rfl
def gCYn (C : Ct) (L : AtLoop) (k : List D → Prop) : Prop := wpFn Tryd.prog (hE C) L 0 6 #[.slice none 0 0] (heapOf []) (dataK k)
theorem gCYn_text (C : Ct) (L : AtLoop) (k : List D → Prop) : gCYn C L k =
 (((0 = 0) ∧
 (0 = 0)) ∧
 (k [(D.sl 0 2 [])])) := by kernel_rfl
def gLw (C : Ct) (L : AtLoop) (n0 : Nat) (c0 : Nat) (l0 : List Value) (s1 : ByteArray) (k : List D → Prop) : Prop := wpFn Tryd.prog (hF C) L 0 3 #[.slice (some ⟨500, 0, none⟩) n0 c0, .string s1] (heapOf [(500, .sym l0 false 2)]) (dataK k)
theorem gLw_text (C : Ct) (L : AtLoop) (n0 : Nat) (c0 : Nat) (l0 : List Go.Value) (s1 : ByteArray) (k : List D → Prop) : gLw C L n0 c0 l0 s1 k =
 (((Says C 4 [] [(D.val (Value.bool true))]) ∧
 (bcase (decide ((↑n0 : Int) > 7))
 (k [(D.val (Value.bool true))])
 (bcase (decide ((↑(ByteArray.size s1) : Int) > 200))
 (bcase (decide ((↑(ByteArray.size s1) : Int) ≤ 60000))
 (k [(D.val (Value.bool true))])
 (bcase (decide ((↑(ByteArray.size s1) : Int) > 60010))
 (k [(D.val (Value.bool true))])
 (bcase (decide (0 + n0 * 2 ≤ List.length l0))
 ((Says C 6 [(D.sl (n0) 2 (List.take (n0 * 2) (List.drop 0 l0)))] [(D.sl (n0) 2 (List.take (n0 * 2) (List.drop 0 l0)))]) ∧
 (bcase (decide (0 + n0 * 2 ≤ List.length (List.take (n0 * 2) (List.drop 0 l0))))
 (∃ s2 : ByteArray,
 ((Says C 5 [(D.sl (n0) 2 (List.take (n0 * 2) (List.drop 0 (List.take (n0 * 2) (List.drop 0 l0)))))] [(D.val (Go.Value.string (s2)))]) ∧
 ((∃ n1 : Int,
 ((Says C 7 [(D.val (Go.Value.string (s1)))] [D.nil, (D.val (vI n1))]) ∧
 ((∃ n2 : Int,
 ((Says C 8 [(D.val (Go.Value.string (s1)))] [D.nil, (D.val (vI n2))]) ∧
 (bcase (decide (0 + n0 * 2 ≤ List.length l0))
 (∃ s3 : ByteArray,
 ((Says C 9 [(D.sl (n0) 2 (List.take (n0 * 2) (List.drop 0 l0)))] [(D.val (Go.Value.string (s3)))]) ∧
 (bcase (!ByteArray.toList s2 == ByteArray.toList s3)
 (k [(D.val (Value.bool false))])
 (bcase (n1 != n2)
 (k [(D.val (Value.bool false))])
 (((Says C 10 [D.nil, D.nil] [(D.val (Value.bool true))]) ∧
 (bcase (decide (0 + n0 * 2 ≤ List.length l0))
 (∃ n3 : Int,
 ((Says C 11 [(D.sl (n0) 2 (List.take (n0 * 2) (List.drop 0 l0)))] [(D.val (vI n3))]) ∧
 (bcase (n3 != 0)
 (k [(D.val (Value.bool true))])
 ((∃ n4 : Int,
 ((Says C 7 [(D.val (Go.Value.string (s2)))] [D.nil, (D.val (vI n4))]) ∧
 (bcase (n4 == 0)
 (bcase (decide (0 + n0 * 2 ≤ List.length l0))
 (((Says C 10 [D.nil, (D.sl (n0) 2 (List.take (n0 * 2) (List.drop 0 l0)))] [(D.val (Value.bool true))]) ∧
 (k [(D.val (Value.bool true))])) ∨
 ((Says C 10 [D.nil, (D.sl (n0) 2 (List.take (n0 * 2) (List.drop 0 l0)))] [(D.val (Value.bool false))]) ∧
 (k [(D.val (Value.bool false))])))
 False)
 (k [(D.val (Value.bool false))])))) ∨
 (∃ n4 : Nat,
 (∃ cs1 : List Go.Value,
 (∃ n5 : Int,
 ((Says C 7 [(D.val (Go.Value.string (s2)))] [(D.sl (n4) 2 (cs1)), (D.val (vI n5))]) ∧
 (bcase (n5 == 0)
 (bcase (decide (0 + n4 * 2 ≤ List.length cs1))
 (bcase (decide (0 + n0 * 2 ≤ List.length l0))
 (((Says C 10 [(D.sl (n4) 2 (List.take (n4 * 2) (List.drop 0 cs1))), (D.sl (n0) 2 (List.take (n0 * 2) (List.drop 0 l0)))] [(D.val (Value.bool true))]) ∧
 (k [(D.val (Value.bool true))])) ∨
 ((Says C 10 [(D.sl (n4) 2 (List.take (n4 * 2) (List.drop 0 cs1))), (D.sl (n0) 2 (List.take (n0 * 2) (List.drop 0 l0)))] [(D.val (Value.bool false))]) ∧
 (k [(D.val (Value.bool false))])))
 False)
 False)
 (k [(D.val (Value.bool false))]))))))))))
 False)) ∨
 ((Says C 10 [D.nil, D.nil] [(D.val (Value.bool false))]) ∧
 (k [(D.val (Value.bool false))])))))))
 False))) ∨
 (∃ n2 : Nat,
 (∃ cs1 : List Go.Value,
 (∃ n3 : Int,
 ((Says C 8 [(D.val (Go.Value.string (s1)))] [(D.sl (n2) 2 (cs1)), (D.val (vI n3))]) ∧
 (bcase (decide (0 + n0 * 2 ≤ List.length l0))
 (∃ s3 : ByteArray,
 ((Says C 9 [(D.sl (n0) 2 (List.take (n0 * 2) (List.drop 0 l0)))] [(D.val (Go.Value.string (s3)))]) ∧
 (bcase (!ByteArray.toList s2 == ByteArray.toList s3)
 (k [(D.val (Value.bool false))])
 (bcase (n1 != n3)
 (k [(D.val (Value.bool false))])
 (bcase (decide (0 + n2 * 2 ≤ List.length cs1))
 (((Says C 10 [D.nil, (D.sl (n2) 2 (List.take (n2 * 2) (List.drop 0 cs1)))] [(D.val (Value.bool true))]) ∧
 (bcase (decide (0 + n0 * 2 ≤ List.length l0))
 (∃ n4 : Int,
 ((Says C 11 [(D.sl (n0) 2 (List.take (n0 * 2) (List.drop 0 l0)))] [(D.val (vI n4))]) ∧
 (bcase (n4 != 0)
 (k [(D.val (Value.bool true))])
 ((∃ n5 : Int,
 ((Says C 7 [(D.val (Go.Value.string (s2)))] [D.nil, (D.val (vI n5))]) ∧
 (bcase (n5 == 0)
 (bcase (decide (0 + n0 * 2 ≤ List.length l0))
 (((Says C 10 [D.nil, (D.sl (n0) 2 (List.take (n0 * 2) (List.drop 0 l0)))] [(D.val (Value.bool true))]) ∧
 (k [(D.val (Value.bool true))])) ∨
 ((Says C 10 [D.nil, (D.sl (n0) 2 (List.take (n0 * 2) (List.drop 0 l0)))] [(D.val (Value.bool false))]) ∧
 (k [(D.val (Value.bool false))])))
 False)
 (k [(D.val (Value.bool false))])))) ∨
 (∃ n5 : Nat,
 (∃ cs2 : List Go.Value,
 (∃ n6 : Int,
 ((Says C 7 [(D.val (Go.Value.string (s2)))] [(D.sl (n5) 2 (cs2)), (D.val (vI n6))]) ∧
 (bcase (n6 == 0)
 (bcase (decide (0 + n5 * 2 ≤ List.length cs2))
 (bcase (decide (0 + n0 * 2 ≤ List.length l0))
 (((Says C 10 [(D.sl (n5) 2 (List.take (n5 * 2) (List.drop 0 cs2))), (D.sl (n0) 2 (List.take (n0 * 2) (List.drop 0 l0)))] [(D.val (Value.bool true))]) ∧
 (k [(D.val (Value.bool true))])) ∨
 ((Says C 10 [(D.sl (n5) 2 (List.take (n5 * 2) (List.drop 0 cs2))), (D.sl (n0) 2 (List.take (n0 * 2) (List.drop 0 l0)))] [(D.val (Value.bool false))]) ∧
 (k [(D.val (Value.bool false))])))
 False)
 False)
 (k [(D.val (Value.bool false))]))))))))))
 False)) ∨
 ((Says C 10 [D.nil, (D.sl (n2) 2 (List.take (n2 * 2) (List.drop 0 cs1)))] [(D.val (Value.bool false))]) ∧
 (k [(D.val (Value.bool false))])))
 False)))))
 False)))))))) ∨
 (∃ n1 : Nat,
 (∃ cs1 : List Go.Value,
 (∃ n2 : Int,
 ((Says C 7 [(D.val (Go.Value.string (s1)))] [(D.sl (n1) 2 (cs1)), (D.val (vI n2))]) ∧
 ((∃ n3 : Int,
 ((Says C 8 [(D.val (Go.Value.string (s1)))] [D.nil, (D.val (vI n3))]) ∧
 (bcase (decide (0 + n0 * 2 ≤ List.length l0))
 (∃ s3 : ByteArray,
 ((Says C 9 [(D.sl (n0) 2 (List.take (n0 * 2) (List.drop 0 l0)))] [(D.val (Go.Value.string (s3)))]) ∧
 (bcase (!ByteArray.toList s2 == ByteArray.toList s3)
 (k [(D.val (Value.bool false))])
 (bcase (n2 != n3)
 (k [(D.val (Value.bool false))])
 (bcase (decide (0 + n1 * 2 ≤ List.length cs1))
 (((Says C 10 [(D.sl (n1) 2 (List.take (n1 * 2) (List.drop 0 cs1))), D.nil] [(D.val (Value.bool true))]) ∧
 (bcase (decide (0 + n0 * 2 ≤ List.length l0))
 (∃ n4 : Int,
 ((Says C 11 [(D.sl (n0) 2 (List.take (n0 * 2) (List.drop 0 l0)))] [(D.val (vI n4))]) ∧
 (bcase (n4 != 0)
 (k [(D.val (Value.bool true))])
 ((∃ n5 : Int,
 ((Says C 7 [(D.val (Go.Value.string (s2)))] [D.nil, (D.val (vI n5))]) ∧
 (bcase (n5 == 0)
 (bcase (decide (0 + n0 * 2 ≤ List.length l0))
 (((Says C 10 [D.nil, (D.sl (n0) 2 (List.take (n0 * 2) (List.drop 0 l0)))] [(D.val (Value.bool true))]) ∧
 (k [(D.val (Value.bool true))])) ∨
 ((Says C 10 [D.nil, (D.sl (n0) 2 (List.take (n0 * 2) (List.drop 0 l0)))] [(D.val (Value.bool false))]) ∧
 (k [(D.val (Value.bool false))])))
 False)
 (k [(D.val (Value.bool false))])))) ∨
 (∃ n5 : Nat,
 (∃ cs2 : List Go.Value,
 (∃ n6 : Int,
 ((Says C 7 [(D.val (Go.Value.string (s2)))] [(D.sl (n5) 2 (cs2)), (D.val (vI n6))]) ∧
 (bcase (n6 == 0)
 (bcase (decide (0 + n5 * 2 ≤ List.length cs2))
 (bcase (decide (0 + n0 * 2 ≤ List.length l0))
 (((Says C 10 [(D.sl (n5) 2 (List.take (n5 * 2) (List.drop 0 cs2))), (D.sl (n0) 2 (List.take (n0 * 2) (List.drop 0 l0)))] [(D.val (Value.bool true))]) ∧
 (k [(D.val (Value.bool true))])) ∨
 ((Says C 10 [(D.sl (n5) 2 (List.take (n5 * 2) (List.drop 0 cs2))), (D.sl (n0) 2 (List.take (n0 * 2) (List.drop 0 l0)))] [(D.val (Value.bool false))]) ∧
 (k [(D.val (Value.bool false))])))
 False)
 False)
 (k [(D.val (Value.bool false))]))))))))))
 False)) ∨
 ((Says C 10 [(D.sl (n1) 2 (List.take (n1 * 2) (List.drop 0 cs1))), D.nil] [(D.val (Value.bool false))]) ∧
 (k [(D.val (Value.bool false))])))
 False)))))
 False))) ∨
 (∃ n3 : Nat,
 (∃ cs2 : List Go.Value,
 (∃ n4 : Int,
 ((Says C 8 [(D.val (Go.Value.string (s1)))] [(D.sl (n3) 2 (cs2)), (D.val (vI n4))]) ∧
 (bcase (decide (0 + n0 * 2 ≤ List.length l0))
 (∃ s3 : ByteArray,
 ((Says C 9 [(D.sl (n0) 2 (List.take (n0 * 2) (List.drop 0 l0)))] [(D.val (Go.Value.string (s3)))]) ∧
 (bcase (!ByteArray.toList s2 == ByteArray.toList s3)
 (k [(D.val (Value.bool false))])
 (bcase (n2 != n4)
 (k [(D.val (Value.bool false))])
 (bcase (decide (0 + n1 * 2 ≤ List.length cs1))
 (bcase (decide (0 + n3 * 2 ≤ List.length cs2))
 (((Says C 10 [(D.sl (n1) 2 (List.take (n1 * 2) (List.drop 0 cs1))), (D.sl (n3) 2 (List.take (n3 * 2) (List.drop 0 cs2)))] [(D.val (Value.bool true))]) ∧
 (bcase (decide (0 + n0 * 2 ≤ List.length l0))
 (∃ n5 : Int,
 ((Says C 11 [(D.sl (n0) 2 (List.take (n0 * 2) (List.drop 0 l0)))] [(D.val (vI n5))]) ∧
 (bcase (n5 != 0)
 (k [(D.val (Value.bool true))])
 ((∃ n6 : Int,
 ((Says C 7 [(D.val (Go.Value.string (s2)))] [D.nil, (D.val (vI n6))]) ∧
 (bcase (n6 == 0)
 (bcase (decide (0 + n0 * 2 ≤ List.length l0))
 (((Says C 10 [D.nil, (D.sl (n0) 2 (List.take (n0 * 2) (List.drop 0 l0)))] [(D.val (Value.bool true))]) ∧
 (k [(D.val (Value.bool true))])) ∨
 ((Says C 10 [D.nil, (D.sl (n0) 2 (List.take (n0 * 2) (List.drop 0 l0)))] [(D.val (Value.bool false))]) ∧
 (k [(D.val (Value.bool false))])))
 False)
 (k [(D.val (Value.bool false))])))) ∨
 (∃ n6 : Nat,
 (∃ cs3 : List Go.Value,
 (∃ n7 : Int,
 ((Says C 7 [(D.val (Go.Value.string (s2)))] [(D.sl (n6) 2 (cs3)), (D.val (vI n7))]) ∧
 (bcase (n7 == 0)
 (bcase (decide (0 + n6 * 2 ≤ List.length cs3))
 (bcase (decide (0 + n0 * 2 ≤ List.length l0))
 (((Says C 10 [(D.sl (n6) 2 (List.take (n6 * 2) (List.drop 0 cs3))), (D.sl (n0) 2 (List.take (n0 * 2) (List.drop 0 l0)))] [(D.val (Value.bool true))]) ∧
 (k [(D.val (Value.bool true))])) ∨
 ((Says C 10 [(D.sl (n6) 2 (List.take (n6 * 2) (List.drop 0 cs3))), (D.sl (n0) 2 (List.take (n0 * 2) (List.drop 0 l0)))] [(D.val (Value.bool false))]) ∧
 (k [(D.val (Value.bool false))])))
 False)
 False)
 (k [(D.val (Value.bool false))]))))))))))
 False)) ∨
 ((Says C 10 [(D.sl (n1) 2 (List.take (n1 * 2) (List.drop 0 cs1))), (D.sl (n3) 2 (List.take (n3 * 2) (List.drop 0 cs2)))] [(D.val (Value.bool false))]) ∧
 (k [(D.val (Value.bool false))])))
 False)
 False)))))
 False)))))))))))))
 False))
 False)))
 (bcase (decide ((↑(ByteArray.size s1) : Int) > 60010))
 (k [(D.val (Value.bool true))])
 (bcase (decide (0 + n0 * 2 ≤ List.length l0))
 ((Says C 6 [(D.sl (n0) 2 (List.take (n0 * 2) (List.drop 0 l0)))] [(D.sl (n0) 2 (List.take (n0 * 2) (List.drop 0 l0)))]) ∧
 (bcase (decide (0 + n0 * 2 ≤ List.length (List.take (n0 * 2) (List.drop 0 l0))))
 (∃ s2 : ByteArray,
 ((Says C 5 [(D.sl (n0) 2 (List.take (n0 * 2) (List.drop 0 (List.take (n0 * 2) (List.drop 0 l0)))))] [(D.val (Go.Value.string (s2)))]) ∧
 ((∃ n1 : Int,
 ((Says C 7 [(D.val (Go.Value.string (s1)))] [D.nil, (D.val (vI n1))]) ∧
 ((∃ n2 : Int,
 ((Says C 8 [(D.val (Go.Value.string (s1)))] [D.nil, (D.val (vI n2))]) ∧
 (bcase (decide (0 + n0 * 2 ≤ List.length l0))
 (∃ s3 : ByteArray,
 ((Says C 9 [(D.sl (n0) 2 (List.take (n0 * 2) (List.drop 0 l0)))] [(D.val (Go.Value.string (s3)))]) ∧
 (bcase (!ByteArray.toList s2 == ByteArray.toList s3)
 (k [(D.val (Value.bool false))])
 (bcase (n1 != n2)
 (k [(D.val (Value.bool false))])
 (((Says C 10 [D.nil, D.nil] [(D.val (Value.bool true))]) ∧
 (bcase (decide (0 + n0 * 2 ≤ List.length l0))
 (∃ n3 : Int,
 ((Says C 11 [(D.sl (n0) 2 (List.take (n0 * 2) (List.drop 0 l0)))] [(D.val (vI n3))]) ∧
 (bcase (n3 != 0)
 (k [(D.val (Value.bool true))])
 ((∃ n4 : Int,
 ((Says C 7 [(D.val (Go.Value.string (s2)))] [D.nil, (D.val (vI n4))]) ∧
 (bcase (n4 == 0)
 (bcase (decide (0 + n0 * 2 ≤ List.length l0))
 (((Says C 10 [D.nil, (D.sl (n0) 2 (List.take (n0 * 2) (List.drop 0 l0)))] [(D.val (Value.bool true))]) ∧
 (k [(D.val (Value.bool true))])) ∨
 ((Says C 10 [D.nil, (D.sl (n0) 2 (List.take (n0 * 2) (List.drop 0 l0)))] [(D.val (Value.bool false))]) ∧
 (k [(D.val (Value.bool false))])))
 False)
 (k [(D.val (Value.bool false))])))) ∨
 (∃ n4 : Nat,
 (∃ cs1 : List Go.Value,
 (∃ n5 : Int,
 ((Says C 7 [(D.val (Go.Value.string (s2)))] [(D.sl (n4) 2 (cs1)), (D.val (vI n5))]) ∧
 (bcase (n5 == 0)
 (bcase (decide (0 + n4 * 2 ≤ List.length cs1))
 (bcase (decide (0 + n0 * 2 ≤ List.length l0))
 (((Says C 10 [(D.sl (n4) 2 (List.take (n4 * 2) (List.drop 0 cs1))), (D.sl (n0) 2 (List.take (n0 * 2) (List.drop 0 l0)))] [(D.val (Value.bool true))]) ∧
 (k [(D.val (Value.bool true))])) ∨
 ((Says C 10 [(D.sl (n4) 2 (List.take (n4 * 2) (List.drop 0 cs1))), (D.sl (n0) 2 (List.take (n0 * 2) (List.drop 0 l0)))] [(D.val (Value.bool false))]) ∧
 (k [(D.val (Value.bool false))])))
 False)
 False)
 (k [(D.val (Value.bool false))]))))))))))
 False)) ∨
 ((Says C 10 [D.nil, D.nil] [(D.val (Value.bool false))]) ∧
 (k [(D.val (Value.bool false))])))))))
 False))) ∨
 (∃ n2 : Nat,
 (∃ cs1 : List Go.Value,
 (∃ n3 : Int,
 ((Says C 8 [(D.val (Go.Value.string (s1)))] [(D.sl (n2) 2 (cs1)), (D.val (vI n3))]) ∧
 (bcase (decide (0 + n0 * 2 ≤ List.length l0))
 (∃ s3 : ByteArray,
 ((Says C 9 [(D.sl (n0) 2 (List.take (n0 * 2) (List.drop 0 l0)))] [(D.val (Go.Value.string (s3)))]) ∧
 (bcase (!ByteArray.toList s2 == ByteArray.toList s3)
 (k [(D.val (Value.bool false))])
 (bcase (n1 != n3)
 (k [(D.val (Value.bool false))])
 (bcase (decide (0 + n2 * 2 ≤ List.length cs1))
 (((Says C 10 [D.nil, (D.sl (n2) 2 (List.take (n2 * 2) (List.drop 0 cs1)))] [(D.val (Value.bool true))]) ∧
 (bcase (decide (0 + n0 * 2 ≤ List.length l0))
 (∃ n4 : Int,
 ((Says C 11 [(D.sl (n0) 2 (List.take (n0 * 2) (List.drop 0 l0)))] [(D.val (vI n4))]) ∧
 (bcase (n4 != 0)
 (k [(D.val (Value.bool true))])
 ((∃ n5 : Int,
 ((Says C 7 [(D.val (Go.Value.string (s2)))] [D.nil, (D.val (vI n5))]) ∧
 (bcase (n5 == 0)
 (bcase (decide (0 + n0 * 2 ≤ List.length l0))
 (((Says C 10 [D.nil, (D.sl (n0) 2 (List.take (n0 * 2) (List.drop 0 l0)))] [(D.val (Value.bool true))]) ∧
 (k [(D.val (Value.bool true))])) ∨
 ((Says C 10 [D.nil, (D.sl (n0) 2 (List.take (n0 * 2) (List.drop 0 l0)))] [(D.val (Value.bool false))]) ∧
 (k [(D.val (Value.bool false))])))
 False)
 (k [(D.val (Value.bool false))])))) ∨
 (∃ n5 : Nat,
 (∃ cs2 : List Go.Value,
 (∃ n6 : Int,
 ((Says C 7 [(D.val (Go.Value.string (s2)))] [(D.sl (n5) 2 (cs2)), (D.val (vI n6))]) ∧
 (bcase (n6 == 0)
 (bcase (decide (0 + n5 * 2 ≤ List.length cs2))
 (bcase (decide (0 + n0 * 2 ≤ List.length l0))
 (((Says C 10 [(D.sl (n5) 2 (List.take (n5 * 2) (List.drop 0 cs2))), (D.sl (n0) 2 (List.take (n0 * 2) (List.drop 0 l0)))] [(D.val (Value.bool true))]) ∧
 (k [(D.val (Value.bool true))])) ∨
 ((Says C 10 [(D.sl (n5) 2 (List.take (n5 * 2) (List.drop 0 cs2))), (D.sl (n0) 2 (List.take (n0 * 2) (List.drop 0 l0)))] [(D.val (Value.bool false))]) ∧
 (k [(D.val (Value.bool false))])))
 False)
 False)
 (k [(D.val (Value.bool false))]))))))))))
 False)) ∨
 ((Says C 10 [D.nil, (D.sl (n2) 2 (List.take (n2 * 2) (List.drop 0 cs1)))] [(D.val (Value.bool false))]) ∧
 (k [(D.val (Value.bool false))])))
 False)))))
 False)))))))) ∨
 (∃ n1 : Nat,
 (∃ cs1 : List Go.Value,
 (∃ n2 : Int,
 ((Says C 7 [(D.val (Go.Value.string (s1)))] [(D.sl (n1) 2 (cs1)), (D.val (vI n2))]) ∧
 ((∃ n3 : Int,
 ((Says C 8 [(D.val (Go.Value.string (s1)))] [D.nil, (D.val (vI n3))]) ∧
 (bcase (decide (0 + n0 * 2 ≤ List.length l0))
 (∃ s3 : ByteArray,
 ((Says C 9 [(D.sl (n0) 2 (List.take (n0 * 2) (List.drop 0 l0)))] [(D.val (Go.Value.string (s3)))]) ∧
 (bcase (!ByteArray.toList s2 == ByteArray.toList s3)
 (k [(D.val (Value.bool false))])
 (bcase (n2 != n3)
 (k [(D.val (Value.bool false))])
 (bcase (decide (0 + n1 * 2 ≤ List.length cs1))
 (((Says C 10 [(D.sl (n1) 2 (List.take (n1 * 2) (List.drop 0 cs1))), D.nil] [(D.val (Value.bool true))]) ∧
 (bcase (decide (0 + n0 * 2 ≤ List.length l0))
 (∃ n4 : Int,
 ((Says C 11 [(D.sl (n0) 2 (List.take (n0 * 2) (List.drop 0 l0)))] [(D.val (vI n4))]) ∧
 (bcase (n4 != 0)
 (k [(D.val (Value.bool true))])
 ((∃ n5 : Int,
 ((Says C 7 [(D.val (Go.Value.string (s2)))] [D.nil, (D.val (vI n5))]) ∧
 (bcase (n5 == 0)
 (bcase (decide (0 + n0 * 2 ≤ List.length l0))
 (((Says C 10 [D.nil, (D.sl (n0) 2 (List.take (n0 * 2) (List.drop 0 l0)))] [(D.val (Value.bool true))]) ∧
 (k [(D.val (Value.bool true))])) ∨
 ((Says C 10 [D.nil, (D.sl (n0) 2 (List.take (n0 * 2) (List.drop 0 l0)))] [(D.val (Value.bool false))]) ∧
 (k [(D.val (Value.bool false))])))
 False)
 (k [(D.val (Value.bool false))])))) ∨
 (∃ n5 : Nat,
 (∃ cs2 : List Go.Value,
 (∃ n6 : Int,
 ((Says C 7 [(D.val (Go.Value.string (s2)))] [(D.sl (n5) 2 (cs2)), (D.val (vI n6))]) ∧
 (bcase (n6 == 0)
 (bcase (decide (0 + n5 * 2 ≤ List.length cs2))
 (bcase (decide (0 + n0 * 2 ≤ List.length l0))
 (((Says C 10 [(D.sl (n5) 2 (List.take (n5 * 2) (List.drop 0 cs2))), (D.sl (n0) 2 (List.take (n0 * 2) (List.drop 0 l0)))] [(D.val (Value.bool true))]) ∧
 (k [(D.val (Value.bool true))])) ∨
 ((Says C 10 [(D.sl (n5) 2 (List.take (n5 * 2) (List.drop 0 cs2))), (D.sl (n0) 2 (List.take (n0 * 2) (List.drop 0 l0)))] [(D.val (Value.bool false))]) ∧
 (k [(D.val (Value.bool false))])))
 False)
 False)
 (k [(D.val (Value.bool false))]))))))))))
 False)) ∨
 ((Says C 10 [(D.sl (n1) 2 (List.take (n1 * 2) (List.drop 0 cs1))), D.nil] [(D.val (Value.bool false))]) ∧
 (k [(D.val (Value.bool false))])))
 False)))))
 False))) ∨
 (∃ n3 : Nat,
 (∃ cs2 : List Go.Value,
 (∃ n4 : Int,
 ((Says C 8 [(D.val (Go.Value.string (s1)))] [(D.sl (n3) 2 (cs2)), (D.val (vI n4))]) ∧
 (bcase (decide (0 + n0 * 2 ≤ List.length l0))
 (∃ s3 : ByteArray,
 ((Says C 9 [(D.sl (n0) 2 (List.take (n0 * 2) (List.drop 0 l0)))] [(D.val (Go.Value.string (s3)))]) ∧
 (bcase (!ByteArray.toList s2 == ByteArray.toList s3)
 (k [(D.val (Value.bool false))])
 (bcase (n2 != n4)
 (k [(D.val (Value.bool false))])
 (bcase (decide (0 + n1 * 2 ≤ List.length cs1))
 (bcase (decide (0 + n3 * 2 ≤ List.length cs2))
 (((Says C 10 [(D.sl (n1) 2 (List.take (n1 * 2) (List.drop 0 cs1))), (D.sl (n3) 2 (List.take (n3 * 2) (List.drop 0 cs2)))] [(D.val (Value.bool true))]) ∧
 (bcase (decide (0 + n0 * 2 ≤ List.length l0))
 (∃ n5 : Int,
 ((Says C 11 [(D.sl (n0) 2 (List.take (n0 * 2) (List.drop 0 l0)))] [(D.val (vI n5))]) ∧
 (bcase (n5 != 0)
 (k [(D.val (Value.bool true))])
 ((∃ n6 : Int,
 ((Says C 7 [(D.val (Go.Value.string (s2)))] [D.nil, (D.val (vI n6))]) ∧
 (bcase (n6 == 0)
 (bcase (decide (0 + n0 * 2 ≤ List.length l0))
 (((Says C 10 [D.nil, (D.sl (n0) 2 (List.take (n0 * 2) (List.drop 0 l0)))] [(D.val (Value.bool true))]) ∧
 (k [(D.val (Value.bool true))])) ∨
 ((Says C 10 [D.nil, (D.sl (n0) 2 (List.take (n0 * 2) (List.drop 0 l0)))] [(D.val (Value.bool false))]) ∧
 (k [(D.val (Value.bool false))])))
 False)
 (k [(D.val (Value.bool false))])))) ∨
 (∃ n6 : Nat,
 (∃ cs3 : List Go.Value,
 (∃ n7 : Int,
 ((Says C 7 [(D.val (Go.Value.string (s2)))] [(D.sl (n6) 2 (cs3)), (D.val (vI n7))]) ∧
 (bcase (n7 == 0)
 (bcase (decide (0 + n6 * 2 ≤ List.length cs3))
 (bcase (decide (0 + n0 * 2 ≤ List.length l0))
 (((Says C 10 [(D.sl (n6) 2 (List.take (n6 * 2) (List.drop 0 cs3))), (D.sl (n0) 2 (List.take (n0 * 2) (List.drop 0 l0)))] [(D.val (Value.bool true))]) ∧
 (k [(D.val (Value.bool true))])) ∨
 ((Says C 10 [(D.sl (n6) 2 (List.take (n6 * 2) (List.drop 0 cs3))), (D.sl (n0) 2 (List.take (n0 * 2) (List.drop 0 l0)))] [(D.val (Value.bool false))]) ∧
 (k [(D.val (Value.bool false))])))
 False)
 False)
 (k [(D.val (Value.bool false))]))))))))))
 False)) ∨
 ((Says C 10 [(D.sl (n1) 2 (List.take (n1 * 2) (List.drop 0 cs1))), (D.sl (n3) 2 (List.take (n3 * 2) (List.drop 0 cs2)))] [(D.val (Value.bool false))]) ∧
 (k [(D.val (Value.bool false))])))
 False)
 False)))))
 False)))))))))))))
 False))
 False))))) ∨
 ((Says C 4 [] [(D.val (Value.bool false))]) ∧
 (k [(D.val (Value.bool false))]))) := by kernel_rfl
def gLwn (C : Ct) (L : AtLoop) (s1 : ByteArray) (k : List D → Prop) : Prop := wpFn Tryd.prog (hF C) L 0 3 #[.slice none 0 0, .string s1] (heapOf []) (dataK k)
theorem gLwn_text (C : Ct) (L : AtLoop) (s1 : ByteArray) (k : List D → Prop) : gLwn C L s1 k =
 (((Says C 4 [] [(D.val (Value.bool true))]) ∧
 (bcase (decide ((↑(ByteArray.size s1) : Int) > 200))
 (bcase (decide ((↑(ByteArray.size s1) : Int) ≤ 60000))
 (k [(D.val (Value.bool true))])
 (bcase (decide ((↑(ByteArray.size s1) : Int) > 60010))
 (k [(D.val (Value.bool true))])
 ((Says C 6 [D.nil] [(D.sl 0 2 [])]) ∧
 (∃ s2 : ByteArray,
 ((Says C 5 [(D.sl 0 2 [])] [(D.val (Go.Value.string (s2)))]) ∧
 ((∃ n1 : Int,
 ((Says C 7 [(D.val (Go.Value.string (s1)))] [D.nil, (D.val (vI n1))]) ∧
 ((∃ n2 : Int,
 ((Says C 8 [(D.val (Go.Value.string (s1)))] [D.nil, (D.val (vI n2))]) ∧
 (∃ s3 : ByteArray,
 ((Says C 9 [D.nil] [(D.val (Go.Value.string (s3)))]) ∧
 (bcase (!ByteArray.toList s2 == ByteArray.toList s3)
 (k [(D.val (Value.bool false))])
 (bcase (n1 != n2)
 (k [(D.val (Value.bool false))])
 (((Says C 10 [D.nil, D.nil] [(D.val (Value.bool true))]) ∧
 (∃ n3 : Int,
 ((Says C 11 [D.nil] [(D.val (vI n3))]) ∧
 (bcase (n3 != 0)
 (k [(D.val (Value.bool true))])
 ((∃ n4 : Int,
 ((Says C 7 [(D.val (Go.Value.string (s2)))] [D.nil, (D.val (vI n4))]) ∧
 (bcase (n4 == 0)
 (((Says C 10 [D.nil, D.nil] [(D.val (Value.bool true))]) ∧
 (k [(D.val (Value.bool true))])) ∨
 ((Says C 10 [D.nil, D.nil] [(D.val (Value.bool false))]) ∧
 (k [(D.val (Value.bool false))])))
 (k [(D.val (Value.bool false))])))) ∨
 (∃ n4 : Nat,
 (∃ cs1 : List Go.Value,
 (∃ n5 : Int,
 ((Says C 7 [(D.val (Go.Value.string (s2)))] [(D.sl (n4) 2 (cs1)), (D.val (vI n5))]) ∧
 (bcase (n5 == 0)
 (bcase (decide (0 + n4 * 2 ≤ List.length cs1))
 (((Says C 10 [(D.sl (n4) 2 (List.take (n4 * 2) (List.drop 0 cs1))), D.nil] [(D.val (Value.bool true))]) ∧
 (k [(D.val (Value.bool true))])) ∨
 ((Says C 10 [(D.sl (n4) 2 (List.take (n4 * 2) (List.drop 0 cs1))), D.nil] [(D.val (Value.bool false))]) ∧
 (k [(D.val (Value.bool false))])))
 False)
 (k [(D.val (Value.bool false))]))))))))))) ∨
 ((Says C 10 [D.nil, D.nil] [(D.val (Value.bool false))]) ∧
 (k [(D.val (Value.bool false))]))))))))) ∨
 (∃ n2 : Nat,
 (∃ cs1 : List Go.Value,
 (∃ n3 : Int,
 ((Says C 8 [(D.val (Go.Value.string (s1)))] [(D.sl (n2) 2 (cs1)), (D.val (vI n3))]) ∧
 (∃ s3 : ByteArray,
 ((Says C 9 [D.nil] [(D.val (Go.Value.string (s3)))]) ∧
 (bcase (!ByteArray.toList s2 == ByteArray.toList s3)
 (k [(D.val (Value.bool false))])
 (bcase (n1 != n3)
 (k [(D.val (Value.bool false))])
 (bcase (decide (0 + n2 * 2 ≤ List.length cs1))
 (((Says C 10 [D.nil, (D.sl (n2) 2 (List.take (n2 * 2) (List.drop 0 cs1)))] [(D.val (Value.bool true))]) ∧
 (∃ n4 : Int,
 ((Says C 11 [D.nil] [(D.val (vI n4))]) ∧
 (bcase (n4 != 0)
 (k [(D.val (Value.bool true))])
 ((∃ n5 : Int,
 ((Says C 7 [(D.val (Go.Value.string (s2)))] [D.nil, (D.val (vI n5))]) ∧
 (bcase (n5 == 0)
 (((Says C 10 [D.nil, D.nil] [(D.val (Value.bool true))]) ∧
 (k [(D.val (Value.bool true))])) ∨
 ((Says C 10 [D.nil, D.nil] [(D.val (Value.bool false))]) ∧
 (k [(D.val (Value.bool false))])))
 (k [(D.val (Value.bool false))])))) ∨
 (∃ n5 : Nat,
 (∃ cs2 : List Go.Value,
 (∃ n6 : Int,
 ((Says C 7 [(D.val (Go.Value.string (s2)))] [(D.sl (n5) 2 (cs2)), (D.val (vI n6))]) ∧
 (bcase (n6 == 0)
 (bcase (decide (0 + n5 * 2 ≤ List.length cs2))
 (((Says C 10 [(D.sl (n5) 2 (List.take (n5 * 2) (List.drop 0 cs2))), D.nil] [(D.val (Value.bool true))]) ∧
 (k [(D.val (Value.bool true))])) ∨
 ((Says C 10 [(D.sl (n5) 2 (List.take (n5 * 2) (List.drop 0 cs2))), D.nil] [(D.val (Value.bool false))]) ∧
 (k [(D.val (Value.bool false))])))
 False)
 (k [(D.val (Value.bool false))]))))))))))) ∨
 ((Says C 10 [D.nil, (D.sl (n2) 2 (List.take (n2 * 2) (List.drop 0 cs1)))] [(D.val (Value.bool false))]) ∧
 (k [(D.val (Value.bool false))])))
 False)))))))))))) ∨
 (∃ n1 : Nat,
 (∃ cs1 : List Go.Value,
 (∃ n2 : Int,
 ((Says C 7 [(D.val (Go.Value.string (s1)))] [(D.sl (n1) 2 (cs1)), (D.val (vI n2))]) ∧
 ((∃ n3 : Int,
 ((Says C 8 [(D.val (Go.Value.string (s1)))] [D.nil, (D.val (vI n3))]) ∧
 (∃ s3 : ByteArray,
 ((Says C 9 [D.nil] [(D.val (Go.Value.string (s3)))]) ∧
 (bcase (!ByteArray.toList s2 == ByteArray.toList s3)
 (k [(D.val (Value.bool false))])
 (bcase (n2 != n3)
 (k [(D.val (Value.bool false))])
 (bcase (decide (0 + n1 * 2 ≤ List.length cs1))
 (((Says C 10 [(D.sl (n1) 2 (List.take (n1 * 2) (List.drop 0 cs1))), D.nil] [(D.val (Value.bool true))]) ∧
 (∃ n4 : Int,
 ((Says C 11 [D.nil] [(D.val (vI n4))]) ∧
 (bcase (n4 != 0)
 (k [(D.val (Value.bool true))])
 ((∃ n5 : Int,
 ((Says C 7 [(D.val (Go.Value.string (s2)))] [D.nil, (D.val (vI n5))]) ∧
 (bcase (n5 == 0)
 (((Says C 10 [D.nil, D.nil] [(D.val (Value.bool true))]) ∧
 (k [(D.val (Value.bool true))])) ∨
 ((Says C 10 [D.nil, D.nil] [(D.val (Value.bool false))]) ∧
 (k [(D.val (Value.bool false))])))
 (k [(D.val (Value.bool false))])))) ∨
 (∃ n5 : Nat,
 (∃ cs2 : List Go.Value,
 (∃ n6 : Int,
 ((Says C 7 [(D.val (Go.Value.string (s2)))] [(D.sl (n5) 2 (cs2)), (D.val (vI n6))]) ∧
 (bcase (n6 == 0)
 (bcase (decide (0 + n5 * 2 ≤ List.length cs2))
 (((Says C 10 [(D.sl (n5) 2 (List.take (n5 * 2) (List.drop 0 cs2))), D.nil] [(D.val (Value.bool true))]) ∧
 (k [(D.val (Value.bool true))])) ∨
 ((Says C 10 [(D.sl (n5) 2 (List.take (n5 * 2) (List.drop 0 cs2))), D.nil] [(D.val (Value.bool false))]) ∧
 (k [(D.val (Value.bool false))])))
 False)
 (k [(D.val (Value.bool false))]))))))))))) ∨
 ((Says C 10 [(D.sl (n1) 2 (List.take (n1 * 2) (List.drop 0 cs1))), D.nil] [(D.val (Value.bool false))]) ∧
 (k [(D.val (Value.bool false))])))
 False))))))) ∨
 (∃ n3 : Nat,
 (∃ cs2 : List Go.Value,
 (∃ n4 : Int,
 ((Says C 8 [(D.val (Go.Value.string (s1)))] [(D.sl (n3) 2 (cs2)), (D.val (vI n4))]) ∧
 (∃ s3 : ByteArray,
 ((Says C 9 [D.nil] [(D.val (Go.Value.string (s3)))]) ∧
 (bcase (!ByteArray.toList s2 == ByteArray.toList s3)
 (k [(D.val (Value.bool false))])
 (bcase (n2 != n4)
 (k [(D.val (Value.bool false))])
 (bcase (decide (0 + n1 * 2 ≤ List.length cs1))
 (bcase (decide (0 + n3 * 2 ≤ List.length cs2))
 (((Says C 10 [(D.sl (n1) 2 (List.take (n1 * 2) (List.drop 0 cs1))), (D.sl (n3) 2 (List.take (n3 * 2) (List.drop 0 cs2)))] [(D.val (Value.bool true))]) ∧
 (∃ n5 : Int,
 ((Says C 11 [D.nil] [(D.val (vI n5))]) ∧
 (bcase (n5 != 0)
 (k [(D.val (Value.bool true))])
 ((∃ n6 : Int,
 ((Says C 7 [(D.val (Go.Value.string (s2)))] [D.nil, (D.val (vI n6))]) ∧
 (bcase (n6 == 0)
 (((Says C 10 [D.nil, D.nil] [(D.val (Value.bool true))]) ∧
 (k [(D.val (Value.bool true))])) ∨
 ((Says C 10 [D.nil, D.nil] [(D.val (Value.bool false))]) ∧
 (k [(D.val (Value.bool false))])))
 (k [(D.val (Value.bool false))])))) ∨
 (∃ n6 : Nat,
 (∃ cs3 : List Go.Value,
 (∃ n7 : Int,
 ((Says C 7 [(D.val (Go.Value.string (s2)))] [(D.sl (n6) 2 (cs3)), (D.val (vI n7))]) ∧
 (bcase (n7 == 0)
 (bcase (decide (0 + n6 * 2 ≤ List.length cs3))
 (((Says C 10 [(D.sl (n6) 2 (List.take (n6 * 2) (List.drop 0 cs3))), D.nil] [(D.val (Value.bool true))]) ∧
 (k [(D.val (Value.bool true))])) ∨
 ((Says C 10 [(D.sl (n6) 2 (List.take (n6 * 2) (List.drop 0 cs3))), D.nil] [(D.val (Value.bool false))]) ∧
 (k [(D.val (Value.bool false))])))
 False)
 (k [(D.val (Value.bool false))]))))))))))) ∨
 ((Says C 10 [(D.sl (n1) 2 (List.take (n1 * 2) (List.drop 0 cs1))), (D.sl (n3) 2 (List.take (n3 * 2) (List.drop 0 cs2)))] [(D.val (Value.bool false))]) ∧
 (k [(D.val (Value.bool false))])))
 False)
 False))))))))))))))))))))
 (bcase (decide ((↑(ByteArray.size s1) : Int) > 60010))
 (k [(D.val (Value.bool true))])
 ((Says C 6 [D.nil] [(D.sl 0 2 [])]) ∧
 (∃ s2 : ByteArray,
 ((Says C 5 [(D.sl 0 2 [])] [(D.val (Go.Value.string (s2)))]) ∧
 ((∃ n1 : Int,
 ((Says C 7 [(D.val (Go.Value.string (s1)))] [D.nil, (D.val (vI n1))]) ∧
 ((∃ n2 : Int,
 ((Says C 8 [(D.val (Go.Value.string (s1)))] [D.nil, (D.val (vI n2))]) ∧
 (∃ s3 : ByteArray,
 ((Says C 9 [D.nil] [(D.val (Go.Value.string (s3)))]) ∧
 (bcase (!ByteArray.toList s2 == ByteArray.toList s3)
 (k [(D.val (Value.bool false))])
 (bcase (n1 != n2)
 (k [(D.val (Value.bool false))])
 (((Says C 10 [D.nil, D.nil] [(D.val (Value.bool true))]) ∧
 (∃ n3 : Int,
 ((Says C 11 [D.nil] [(D.val (vI n3))]) ∧
 (bcase (n3 != 0)
 (k [(D.val (Value.bool true))])
 ((∃ n4 : Int,
 ((Says C 7 [(D.val (Go.Value.string (s2)))] [D.nil, (D.val (vI n4))]) ∧
 (bcase (n4 == 0)
 (((Says C 10 [D.nil, D.nil] [(D.val (Value.bool true))]) ∧
 (k [(D.val (Value.bool true))])) ∨
 ((Says C 10 [D.nil, D.nil] [(D.val (Value.bool false))]) ∧
 (k [(D.val (Value.bool false))])))
 (k [(D.val (Value.bool false))])))) ∨
 (∃ n4 : Nat,
 (∃ cs1 : List Go.Value,
 (∃ n5 : Int,
 ((Says C 7 [(D.val (Go.Value.string (s2)))] [(D.sl (n4) 2 (cs1)), (D.val (vI n5))]) ∧
 (bcase (n5 == 0)
 (bcase (decide (0 + n4 * 2 ≤ List.length cs1))
 (((Says C 10 [(D.sl (n4) 2 (List.take (n4 * 2) (List.drop 0 cs1))), D.nil] [(D.val (Value.bool true))]) ∧
 (k [(D.val (Value.bool true))])) ∨
 ((Says C 10 [(D.sl (n4) 2 (List.take (n4 * 2) (List.drop 0 cs1))), D.nil] [(D.val (Value.bool false))]) ∧
 (k [(D.val (Value.bool false))])))
 False)
 (k [(D.val (Value.bool false))]))))))))))) ∨
 ((Says C 10 [D.nil, D.nil] [(D.val (Value.bool false))]) ∧
 (k [(D.val (Value.bool false))]))))))))) ∨
 (∃ n2 : Nat,
 (∃ cs1 : List Go.Value,
 (∃ n3 : Int,
 ((Says C 8 [(D.val (Go.Value.string (s1)))] [(D.sl (n2) 2 (cs1)), (D.val (vI n3))]) ∧
 (∃ s3 : ByteArray,
 ((Says C 9 [D.nil] [(D.val (Go.Value.string (s3)))]) ∧
 (bcase (!ByteArray.toList s2 == ByteArray.toList s3)
 (k [(D.val (Value.bool false))])
 (bcase (n1 != n3)
 (k [(D.val (Value.bool false))])
 (bcase (decide (0 + n2 * 2 ≤ List.length cs1))
 (((Says C 10 [D.nil, (D.sl (n2) 2 (List.take (n2 * 2) (List.drop 0 cs1)))] [(D.val (Value.bool true))]) ∧
 (∃ n4 : Int,
 ((Says C 11 [D.nil] [(D.val (vI n4))]) ∧
 (bcase (n4 != 0)
 (k [(D.val (Value.bool true))])
 ((∃ n5 : Int,
 ((Says C 7 [(D.val (Go.Value.string (s2)))] [D.nil, (D.val (vI n5))]) ∧
 (bcase (n5 == 0)
 (((Says C 10 [D.nil, D.nil] [(D.val (Value.bool true))]) ∧
 (k [(D.val (Value.bool true))])) ∨
 ((Says C 10 [D.nil, D.nil] [(D.val (Value.bool false))]) ∧
 (k [(D.val (Value.bool false))])))
 (k [(D.val (Value.bool false))])))) ∨
 (∃ n5 : Nat,
 (∃ cs2 : List Go.Value,
 (∃ n6 : Int,
 ((Says C 7 [(D.val (Go.Value.string (s2)))] [(D.sl (n5) 2 (cs2)), (D.val (vI n6))]) ∧
 (bcase (n6 == 0)
 (bcase (decide (0 + n5 * 2 ≤ List.length cs2))
 (((Says C 10 [(D.sl (n5) 2 (List.take (n5 * 2) (List.drop 0 cs2))), D.nil] [(D.val (Value.bool true))]) ∧
 (k [(D.val (Value.bool true))])) ∨
 ((Says C 10 [(D.sl (n5) 2 (List.take (n5 * 2) (List.drop 0 cs2))), D.nil] [(D.val (Value.bool false))]) ∧
 (k [(D.val (Value.bool false))])))
 False)
 (k [(D.val (Value.bool false))]))))))))))) ∨
 ((Says C 10 [D.nil, (D.sl (n2) 2 (List.take (n2 * 2) (List.drop 0 cs1)))] [(D.val (Value.bool false))]) ∧
 (k [(D.val (Value.bool false))])))
 False)))))))))))) ∨
 (∃ n1 : Nat,
 (∃ cs1 : List Go.Value,
 (∃ n2 : Int,
 ((Says C 7 [(D.val (Go.Value.string (s1)))] [(D.sl (n1) 2 (cs1)), (D.val (vI n2))]) ∧
 ((∃ n3 : Int,
 ((Says C 8 [(D.val (Go.Value.string (s1)))] [D.nil, (D.val (vI n3))]) ∧
 (∃ s3 : ByteArray,
 ((Says C 9 [D.nil] [(D.val (Go.Value.string (s3)))]) ∧
 (bcase (!ByteArray.toList s2 == ByteArray.toList s3)
 (k [(D.val (Value.bool false))])
 (bcase (n2 != n3)
 (k [(D.val (Value.bool false))])
 (bcase (decide (0 + n1 * 2 ≤ List.length cs1))
 (((Says C 10 [(D.sl (n1) 2 (List.take (n1 * 2) (List.drop 0 cs1))), D.nil] [(D.val (Value.bool true))]) ∧
 (∃ n4 : Int,
 ((Says C 11 [D.nil] [(D.val (vI n4))]) ∧
 (bcase (n4 != 0)
 (k [(D.val (Value.bool true))])
 ((∃ n5 : Int,
 ((Says C 7 [(D.val (Go.Value.string (s2)))] [D.nil, (D.val (vI n5))]) ∧
 (bcase (n5 == 0)
 (((Says C 10 [D.nil, D.nil] [(D.val (Value.bool true))]) ∧
 (k [(D.val (Value.bool true))])) ∨
 ((Says C 10 [D.nil, D.nil] [(D.val (Value.bool false))]) ∧
 (k [(D.val (Value.bool false))])))
 (k [(D.val (Value.bool false))])))) ∨
 (∃ n5 : Nat,
 (∃ cs2 : List Go.Value,
 (∃ n6 : Int,
 ((Says C 7 [(D.val (Go.Value.string (s2)))] [(D.sl (n5) 2 (cs2)), (D.val (vI n6))]) ∧
 (bcase (n6 == 0)
 (bcase (decide (0 + n5 * 2 ≤ List.length cs2))
 (((Says C 10 [(D.sl (n5) 2 (List.take (n5 * 2) (List.drop 0 cs2))), D.nil] [(D.val (Value.bool true))]) ∧
 (k [(D.val (Value.bool true))])) ∨
 ((Says C 10 [(D.sl (n5) 2 (List.take (n5 * 2) (List.drop 0 cs2))), D.nil] [(D.val (Value.bool false))]) ∧
 (k [(D.val (Value.bool false))])))
 False)
 (k [(D.val (Value.bool false))]))))))))))) ∨
 ((Says C 10 [(D.sl (n1) 2 (List.take (n1 * 2) (List.drop 0 cs1))), D.nil] [(D.val (Value.bool false))]) ∧
 (k [(D.val (Value.bool false))])))
 False))))))) ∨
 (∃ n3 : Nat,
 (∃ cs2 : List Go.Value,
 (∃ n4 : Int,
 ((Says C 8 [(D.val (Go.Value.string (s1)))] [(D.sl (n3) 2 (cs2)), (D.val (vI n4))]) ∧
 (∃ s3 : ByteArray,
 ((Says C 9 [D.nil] [(D.val (Go.Value.string (s3)))]) ∧
 (bcase (!ByteArray.toList s2 == ByteArray.toList s3)
 (k [(D.val (Value.bool false))])
 (bcase (n2 != n4)
 (k [(D.val (Value.bool false))])
 (bcase (decide (0 + n1 * 2 ≤ List.length cs1))
 (bcase (decide (0 + n3 * 2 ≤ List.length cs2))
 (((Says C 10 [(D.sl (n1) 2 (List.take (n1 * 2) (List.drop 0 cs1))), (D.sl (n3) 2 (List.take (n3 * 2) (List.drop 0 cs2)))] [(D.val (Value.bool true))]) ∧
 (∃ n5 : Int,
 ((Says C 11 [D.nil] [(D.val (vI n5))]) ∧
 (bcase (n5 != 0)
 (k [(D.val (Value.bool true))])
 ((∃ n6 : Int,
 ((Says C 7 [(D.val (Go.Value.string (s2)))] [D.nil, (D.val (vI n6))]) ∧
 (bcase (n6 == 0)
 (((Says C 10 [D.nil, D.nil] [(D.val (Value.bool true))]) ∧
 (k [(D.val (Value.bool true))])) ∨
 ((Says C 10 [D.nil, D.nil] [(D.val (Value.bool false))]) ∧
 (k [(D.val (Value.bool false))])))
 (k [(D.val (Value.bool false))])))) ∨
 (∃ n6 : Nat,
 (∃ cs3 : List Go.Value,
 (∃ n7 : Int,
 ((Says C 7 [(D.val (Go.Value.string (s2)))] [(D.sl (n6) 2 (cs3)), (D.val (vI n7))]) ∧
 (bcase (n7 == 0)
 (bcase (decide (0 + n6 * 2 ≤ List.length cs3))
 (((Says C 10 [(D.sl (n6) 2 (List.take (n6 * 2) (List.drop 0 cs3))), D.nil] [(D.val (Value.bool true))]) ∧
 (k [(D.val (Value.bool true))])) ∨
 ((Says C 10 [(D.sl (n6) 2 (List.take (n6 * 2) (List.drop 0 cs3))), D.nil] [(D.val (Value.bool false))]) ∧
 (k [(D.val (Value.bool false))])))
 False)
 (k [(D.val (Value.bool false))]))))))))))) ∨
 ((Says C 10 [(D.sl (n1) 2 (List.take (n1 * 2) (List.drop 0 cs1))), (D.sl (n3) 2 (List.take (n3 * 2) (List.drop 0 cs2)))] [(D.val (Value.bool false))]) ∧
 (k [(D.val (Value.bool false))])))
 False)
 False))))))))))))))))))))) ∨
 ((Says C 4 [] [(D.val (Value.bool false))]) ∧
 (k [(D.val (Value.bool false))]))) := by kernel_rfl
end Go.Proofs.G5s

/- The small functions on strings of the references, in data. -/
namespace Go.Proofs.G5s
open Go Go.Abs Go.Proofs Go.Str
set_option maxRecDepth 100000
theorem hokE : HandlerOK Tryd.prog (hE C5) := handlerX_ok mixed (fun g h he => by cases he) (by decide) 6
/-- pieces between separators -/
theorem conCu (l : List UInt8) (c : UInt8) (hl : l.length < 4294967281) : C5 26 [dS l, .val (.int .u8 (c.toNat : Int))] [dSs (cutA c [] l)] := by
  let inv : Nat × Nat × List (List UInt8) → Prop := fun x => x.2.1 ≤ x.1 ∧ x.1 ≤ l.length ∧ x.2.2.length ≤ x.1 ∧ x.2.2 ++ cutA c ((l.drop x.2.1).take (x.1 - x.2.1)) (l.drop x.1) = cutA c [] l
  let st : Nat × Nat × List (List UInt8) → Slots × Blocks := fun x => match x.2.2 with
    | [] => zCu1 (bs l) c.toNat x.2.1 x.1
    | y :: r => zCu2 (bs l) c.toNat (y :: r).length x.2.1 x.1 (strs (y :: r))
  refine con_of (L := fun _ s b => ∃ x, inv x ∧ st x = (s, b)) hokE mixed Tryd.func26 rfl (by show 0 ≤ 400; omega) rfl (ids := [0]) (by kernel_rfl) rfl (fun caps => ?_) (fun id hid => ?_)
  · show gCu _ _ (bs l) c.toNat _
    rw [gCu_text]
    exact ⟨(0, 0, []), ⟨Nat.le_refl _, Nat.zero_le _, Nat.le_refl _, by simp⟩, rfl⟩
  · obtain rfl := List.mem_singleton.1 hid
    refine ⟨Nat × Nat × List (List UInt8), st, inv, fun x => l.length - x.1, ⟨fun s b h => h, by kernel_rfl, ?_⟩⟩
    rintro ⟨i, f, out⟩ ⟨h1, h2, h3, h4⟩
    simp only at h1 h2 h3 h4
    have hx : ∀ j, (bs l).extract f j = bs ((l.drop f).take (j - f)) := fun j => bs_extract l f j
    have hend : ¬ i < l.length → out ++ [(l.drop f).take (l.length - f)] = cutA c [] l := by
      intro hi
      obtain rfl : i = l.length := by omega
      rw [List.drop_length, cutA] at h4
      exact h4
    have step : ∀ hi : i < l.length, if l[i] = c then inv (i + 1, i + 1, out ++ [(l.drop f).take (i - f)]) else inv (i + 1, f, out) := by
      intro hi
      rw [List.drop_eq_getElem_cons hi, cutA] at h4
      split
      · next hc =>
        rw [if_pos hc] at h4
        exact ⟨Nat.le_refl _, hi, by simp; omega, by simpa using h4⟩
      · next hc =>
        rw [if_neg hc] at h4
        exact ⟨by show f ≤ i + 1; omega, hi, by show out.length ≤ i + 1; omega, by show out ++ cutA c ((l.drop f).take (i + 1 - f)) (l.drop (i + 1)) = _; rw [take_snoc h1 hi]; exact h4⟩
    cases out with
    | nil =>
      show rCu1 _ _ (bs l) c.toNat f i _ _ _
      rw [rCu1_text]
      simp only [bs_size]
      refine bc_dec (fun h => ?_) (fun h => ?_)
      · have hi : i < l.length := by omega
        have step := step hi
        simp only [bc_t (show (0 : Int) ≤ (i : Int) by omega), Int.toNat_natCast, byte1 (List.getElem?_eq_getElem hi), wi1 hi (by omega)]
        refine bc_beq (fun hc => ?_) (fun hc => ?_)
        · rw [if_pos (u8_eq hc)] at step
          simp only [bc_t (show (i : Int) ≤ (l.length : Int) by omega), bc_t (show (0 : Int) ≤ (f : Int) by omega), bc_t (show (f : Int) ≤ (i : Int) by omega), hx]
          exact ⟨_, step, by show l.length - (i + 1) < l.length - i; omega, rfl⟩
        · rw [if_neg (fun e => hc (by rw [e]))] at step
          exact ⟨_, step, by show l.length - (i + 1) < l.length - i; omega, rfl⟩
      · show nCu3 _ _ (bs l) f _
        rw [nCu3_text]
        simp only [bs_size, bc_t (show (0 : Int) ≤ (f : Int) by omega), bc_t (show (f : Int) ≤ (l.length : Int) by omega), Int.toNat_natCast, hx]
        refine ⟨⟨trivial, trivial⟩, ?_⟩
        rw [← hend (by omega)]
        rfl
    | cons y r =>
      show rCu2 _ _ (bs l) c.toNat (y :: r).length f i (strs (y :: r)) _ _ _
      rw [rCu2_text]
      simp only [bs_size]
      have hlen : (y :: r).length ≤ i := h3
      refine bc_dec (fun h => ?_) (fun h => ?_)
      · have hi : i < l.length := by omega
        have step := step hi
        simp only [bc_t (show (0 : Int) ≤ (i : Int) by omega), Int.toNat_natCast, byte1 (List.getElem?_eq_getElem hi), wi1 hi (by omega)]
        refine bc_beq (fun hc => ?_) (fun hc => ?_)
        · rw [if_pos (u8_eq hc)] at step
          simp only [bc_t (show (i : Int) ≤ (l.length : Int) by omega), bc_t (show (0 : Int) ≤ (f : Int) by omega), bc_t (show (f : Int) ≤ (i : Int) by omega), hx,
            bc_t (Nat.lt_succ_self (y :: r).length), bc_t (show (2 * ((y :: r).length + 1) + 768) * 16 ≤ 281474976710656 by omega), bc_t (show (y :: r).length + 1 ≤ 1099511627776 by omega), bc_t (whole_le (y :: r)), bc_t (whole_eq (y :: r)), strs_whole]
          refine ⟨_, step, by show l.length - (i + 1) < l.length - i; omega, ?_⟩
          show zCu2 _ _ ((y :: r) ++ [_]).length _ _ (strs ((y :: r) ++ [_])) = _
          rw [List.length_append]
          simp only [strs, List.map_append]
          rfl
        · rw [if_neg (fun e => hc (by rw [e]))] at step
          exact ⟨_, step, by show l.length - (i + 1) < l.length - i; omega, rfl⟩
      · show nCu4 _ _ (bs l) (y :: r).length f (strs (y :: r)) _
        rw [nCu4_text]
        simp only [bs_size, bc_t (show (0 : Int) ≤ (f : Int) by omega), bc_t (show (f : Int) ≤ (l.length : Int) by omega), Int.toNat_natCast, hx,
          bc_t (Nat.lt_succ_self (y :: r).length), bc_t (show (2 * ((y :: r).length + 1) + 768) * 16 ≤ 281474976710656 by omega), bc_t (show (y :: r).length + 1 ≤ 1099511627776 by omega), bc_t (whole_le (y :: r)), bc_t (whole_eq (y :: r)), strs_whole]
        refine ⟨⟨trivial, by simp⟩, ?_⟩
        rw [← hend (by omega)]
        show [_] = [D.sl ((y :: r) ++ [_]).length 1 (strs ((y :: r) ++ [_]))]
        rw [List.length_append]
        simp only [strs, List.map_append]
        rfl
/-! ### decimal numerals -/
theorem one_byte (b : Int) : List.foldl (fun r n => ByteArray.push r (UInt8.ofNat (Int.toNat n))) ByteArray.empty [b] = bs [UInt8.ofNat (Int.toNat b)] := rfl
theorem size_dig (k : Nat) (m : Int) (h : m = (k : Int) ∨ m = -(k : Int)) : IntKind.wrap .u8 (IntKind.wrap .i64 (48 + if IntKind.wrap .i64 (0 - Int.tmod m 10) > Int.tmod m 10 then IntKind.wrap .i64 (0 - Int.tmod m 10) else Int.tmod m 10)) = ((48 + k % 10 : Nat) : Int) := by
  have e : Int.tmod m 10 = ((k % 10 : Nat) : Int) ∨ Int.tmod m 10 = -((k % 10 : Nat) : Int) := by
    rcases h with rfl | rfl
    · left; rw [Int.tmod_eq_emod_of_nonneg (by omega)]; omega
    · right; rw [Int.neg_tmod, Int.tmod_eq_emod_of_nonneg (by omega)]; omega
  generalize Int.tmod m 10 = r at e ⊢
  have hk : k % 10 < 10 := Nat.mod_lt _ (by decide)
  rw [w64 (z := 0 - r) (by omega) (by omega)]
  have h2 : (48 + if 0 - r > r then 0 - r else r) = ((48 + k % 10 : Nat) : Int) := by split <;> omega
  rw [h2, w64 (by omega) (by omega), IntKind.wrap_u8]
  omega
theorem tdiv10 (k : Nat) (m : Int) (h : m = (k : Int) ∨ m = -(k : Int)) : (m = (k : Int) → Int.tdiv m 10 = ((k / 10 : Nat) : Int)) ∧ (m = -(k : Int) → Int.tdiv m 10 = -((k / 10 : Nat) : Int)) := by
  constructor
  · rintro rfl; rw [Int.tdiv_eq_ediv_of_nonneg (by omega)]; omega
  · rintro rfl; rw [Int.neg_tdiv, Int.tdiv_eq_ediv_of_nonneg (by omega)]; omega
theorem conDe (n : Int) (h0 : -9223372036854775808 ≤ n) (h1 : n ≤ 9223372036854775807) : C5 28 [dI n] [dS (Lib.itoa n)] := by
  let sg : List UInt8 := if n < 0 then [45] else []
  let num : Nat → Int := fun k => if n < 0 then -(k : Int) else (k : Int)
  let inv : Nat × List UInt8 → Prop := fun x => n ≠ 0 ∧ x.1 ≤ n.natAbs ∧ (if x.1 = 0 then [] else dec x.1) ++ x.2 = dec n.natAbs
  let st : Nat × List UInt8 → Slots × Blocks := fun x => zDe1 (num x.1) (bs x.2) (bs sg)
  have hit : n ≠ 0 → sg ++ dec n.natAbs = Lib.itoa n := by
    intro hn
    show (if n < 0 then [45] else []) ++ dec n.natAbs = _
    split
    · next h => rw [itoa_ng h]; rfl
    · next h => rw [itoa_nn (by omega), show n.toNat = n.natAbs by omega]; rfl
  have hdl : (dec n.natAbs).length ≤ 20 := dec_len 20 _ (by decide) (by omega)
  have hsg : sg.length ≤ 1 := by show (if n < 0 then [(45 : UInt8)] else []).length ≤ 1; split <;> simp
  refine con_of (L := fun _ s b => ∃ x, inv x ∧ st x = (s, b)) hokE mixed Tryd.func28 rfl (by show 0 ≤ 400; omega) rfl (ids := [0]) (by kernel_rfl) rfl (fun caps => ?_) (fun id hid => ?_)
  · show gDe _ _ n _
    rw [gDe_text]
    refine bc_beq (fun h => ?_) (fun h => ?_)
    · subst h
      have : Lib.itoa 0 = [48] := by rw [itoa_nn (by decide)]; exact dec_small (by decide)
      rw [this]
    · have hi : inv (n.natAbs, []) := ⟨h, Nat.le_refl _, by show (if n.natAbs = 0 then [] else _) ++ [] = _; rw [if_neg (by omega), List.append_nil]⟩
      refine bc_dec (fun hn => ?_) (fun hn => ?_)
      · refine ⟨(n.natAbs, []), hi, ?_⟩
        show zDe1 (if n < 0 then _ else _) _ (bs (if n < 0 then _ else _)) = _
        rw [if_pos hn, if_pos hn, show -(n.natAbs : Int) = n by omega]
      · refine ⟨(n.natAbs, []), hi, ?_⟩
        show zDe1 (if n < 0 then _ else _) _ (bs (if n < 0 then _ else _)) = _
        rw [if_neg hn, if_neg hn, show (n.natAbs : Int) = n by omega]
  · obtain rfl := List.mem_singleton.1 hid
    refine ⟨Nat × List UInt8, st, inv, fun x => x.1, ⟨fun s b h => h, by kernel_rfl, ?_⟩⟩
    rintro ⟨k, sfx⟩ ⟨hn, hk, he⟩
    simp only at hk he
    show rDe1 _ _ (num k) (bs sfx) (bs sg) _ _ _
    rw [rDe1_text]
    have hor : num k = (k : Int) ∨ num k = -(k : Int) := by show (if n < 0 then _ else _) = _ ∨ (if n < 0 then _ else _) = _; split <;> simp
    have hsl : sfx.length ≤ 20 := by have := congrArg List.length he; simp at this; omega
    refine bc_bne (fun h => ?_) (fun h => ?_)
    · have hk0 : k ≠ 0 := by rintro rfl; rcases hor with e | e <;> simp [e] at h
      rw [size_dig k (num k) hor, one_byte, bs_append, Int.toNat_natCast]
      simp only [bs_size]
      refine bc_yes (by simp; omega) ?_
      refine ⟨(k / 10, UInt8.ofNat (48 + k % 10) :: sfx), ⟨hn, by show k / 10 ≤ _; omega, ?_⟩, by show k / 10 < k; omega, ?_⟩
      · show (if k / 10 = 0 then [] else dec (k / 10)) ++ _ = _
        rw [if_neg hk0] at he
        rw [← he]
        by_cases hk10 : k < 10
        · rw [if_pos (by omega), dec_small hk10, show k % 10 = k by omega]; rfl
        · rw [if_neg (by omega), dec_big hk10]; simp
      · have e2 : IntKind.wrap .i64 (Int.tdiv (num k) 10) = num (k / 10) := by
          have t := tdiv10 k (num k) hor
          show IntKind.wrap .i64 (Int.tdiv (if n < 0 then -(k : Int) else (k : Int)) 10) = if n < 0 then _ else _
          have hnum : num k = if n < 0 then -(k : Int) else (k : Int) := rfl
          by_cases hneg : n < 0
          · rw [if_pos hneg] at hnum ⊢
            rw [if_pos hneg, ← hnum, t.2 hnum, w64 (by omega) (by omega)]
          · rw [if_neg hneg] at hnum ⊢
            rw [if_neg hneg, ← hnum, t.1 hnum, w64 (by omega) (by omega)]
        rw [e2]; rfl
    · have hk0 : k = 0 := by rcases hor with e | e <;> omega
      subst hk0
      show (if 0 = 0 then _ else _)
      rw [if_pos rfl]
      show nDe2 _ _ (bs sfx) (bs sg) _
      rw [nDe2_text]
      simp only [bs_size]
      refine bc_yes (by omega) ?_
      rw [if_pos rfl, List.nil_append] at he
      rw [bs_append, he, hit hn]
/-! ### numbers that are read -/
theorem pow_le {k : Nat} (h : k ≤ 17) : (10 : Int) ^ k ≤ 100000000000000000 := by
  have := pow10_le h
  rw [p17] at this; exact this
theorem isDig_no {b : UInt8} (h : ¬ (48 ≤ b.toNat ∧ b.toNat ≤ 57)) : isDig b = false := by
  unfold isDig
  rw [Bool.and_eq_false_iff, decide_eq_false_iff_not, decide_eq_false_iff_not]; omega
theorem byte48 {b : UInt8} (h1 : 48 ≤ b.toNat) (h2 : b.toNat ≤ 57) : IntKind.wrap .i64 (IntKind.wrap .u8 ((b.toNat : Int) - 48)) = (b.toNat : Int) - 48 := by
  rw [IntKind.wrap_u8]
  rw [w64 (by omega) (by omega)]; omega
theorem conNu (l : List UInt8) (d : Nat) (hd : d ≤ 18) (hl : l.length < 4294967281) : C5 27 [dS l, dI d] [dI (readNum d l).1, dB (readNum d l).2] := by
  let inv : Nat × Nat → Prop := fun x => x.1 ≤ 1 ∧ x.1 ≤ x.2 ∧ x.2 ≤ l.length ∧ l.length ≤ d + x.1 ∧ ((l.drop x.1).take (x.2 - x.1)).all isDig = true ∧ readNum d l = rdT x.1 l
  let st : Nat × Nat → Slots × Blocks := fun x => zNu1 (bs l) x.1 (numF 0 ((l.drop x.1).take (x.2 - x.1))) x.2
  refine con_of (L := fun _ s b => ∃ x, inv x ∧ st x = (s, b)) hokE mixed Tryd.func27 rfl (by show 0 ≤ 400; omega) rfl (ids := [0]) (by kernel_rfl) rfl (fun caps => ?_) (fun id hid => ?_)
  · show gNu _ _ (bs l) d _
    rw [gNu_text]
    simp only [bs_size]
    have pos : (∀ b, l[0]? = some b → b.toNat ≠ 45) → bcase ((l.length : Int) == 0) ([dI 0, dB false] = [dI (readNum d l).1, dB (readNum d l).2])
        (bcase (decide (IntKind.wrap .i64 ((l.length : Int) - 0) > (d : Int))) ([dI 0, dB false] = [dI (readNum d l).1, dB (readNum d l).2])
        (∃ b2 : UInt8, ByteAt (bs l) 0 b2 ∧ bcase ((b2.toNat : Int) == 48) (bcase (decide ((l.length : Int) > 1)) ([dI 0, dB false] = [dI (readNum d l).1, dB (readNum d l).2]) (∃ x, inv x ∧ st x = zNu1 (bs l) 0 0 0)) (∃ x, inv x ∧ st x = zNu1 (bs l) 0 0 0))) := by
      intro hno
      have hh : l.head? ≠ some 45 := by
        intro e
        cases l with
        | nil => simp at e
        | cons b r =>
          simp only [List.head?_cons, Option.some.injEq] at e
          subst e
          exact hno 45 rfl rfl
      have hr := readNum_pos (d := d) hh
      refine bc_beq (fun h => ?_) (fun h => ?_)
      · rw [hr, if_pos (by omega)]
      · rw [if_neg (by omega)] at hr
        have e1 : IntKind.wrap .i64 ((l.length : Int) - 0) = (l.length : Int) := by rw [w64 (by omega) (by omega)]; omega
        simp only [e1]
        refine bc_dec (fun h2 => ?_) (fun h2 => ?_)
        · rw [hr, if_pos (by omega)]
        · rw [if_neg (by omega)] at hr
          cases l with
          | nil => simp at h
          | cons b r =>
            rw [byte1 (l := b :: r) (i := 0) (b := b) rfl]
            have go : ¬ ((b :: r).head? = some 48 ∧ 1 < (b :: r).length) → ∃ x, inv x ∧ st x = zNu1 (bs (b :: r)) 0 0 0 := by
              intro hc
              rw [if_neg hc] at hr
              exact ⟨(0, 0), ⟨by decide, Nat.le_refl _, Nat.zero_le _, by show _ ≤ d + 0; omega, rfl, hr⟩, rfl⟩
            refine bc_beq (fun h3 => ?_) (fun h3 => ?_)
            · have hb : b = 48 := u8_eq (c := 48) h3
              refine bc_dec (fun h4 => ?_) (fun h4 => go (by omega))
              rw [hr, if_pos ⟨by rw [hb]; rfl, by omega⟩]
            · exact go (fun ⟨e, _⟩ => h3 (by simp only [List.head?_cons, Option.some.injEq] at e; rw [e]; rfl))
    refine bc_dec (fun h => ?_) (fun h => ?_)
    · cases l with
      | nil => simp at h
      | cons b r =>
        rw [byte1 (l := b :: r) (i := 0) (b := b) rfl]
        refine bc_beq (fun h45 => ?_) (fun h45 => pos ?_)
        · obtain rfl : b = 45 := u8_eq (c := 45) h45
          have hr := readNum_neg (d := d) (r := r)
          simp only [List.length_cons] at hl ⊢
          refine bc_beq (fun h1 => ?_) (fun h1 => ?_)
          · rw [hr, if_pos (by omega)]
          · rw [if_neg (by omega)] at hr
            have e1 : IntKind.wrap .i64 (((r.length + 1 : Nat) : Int) - 1) = (r.length : Int) := by rw [w64 (by omega) (by omega)]; omega
            simp only [e1]
            refine bc_dec (fun h2 => ?_) (fun h2 => ?_)
            · rw [hr, if_pos (by omega)]
            · rw [if_neg (by omega)] at hr
              cases r with
              | nil => simp at h1
              | cons c r =>
                rw [byte1 (l := 45 :: c :: r) (i := 1) (b := c) rfl]
                refine bc_beq (fun h3 => ?_) (fun h3 => ?_)
                · have hc : c = 48 := u8_eq (c := 48) h3
                  refine bc_yes (by simp only [List.length_cons]; omega) ?_
                  rw [hr, if_pos (by rw [hc]; rfl)]
                · rw [if_neg (fun e => h3 (by simp only [List.head?_cons, Option.some.injEq] at e; rw [e]; rfl))] at hr
                  refine ⟨(1, 1), ⟨by decide, Nat.le_refl _, by simp, by simp only [List.length_cons] at h2 ⊢; omega, rfl, hr⟩, rfl⟩
        · intro b' hb' e
          obtain rfl : b = b' := by simpa using hb'
          exact h45 (by omega)
    · exact pos (fun b hb => by
        have := (List.getElem?_eq_some_iff.1 hb).1
        omega)
  · obtain rfl := List.mem_singleton.1 hid
    refine ⟨Nat × Nat, st, inv, fun x => l.length - x.2, ⟨fun s b h => h, by kernel_rfl, ?_⟩⟩
    rintro ⟨a, i⟩ ⟨ha, hai, hil, hld, hall, hr⟩
    simp only at ha hai hil hld hall hr
    show rNu1 _ _ (bs l) a (numF 0 ((l.drop a).take (i - a))) i _ _ _
    rw [rNu1_text]
    simp only [bs_size]
    have hn := numF_ge _ 0 (by decide) hall
    have hlen : ((l.drop a).take (i - a)).length = i - a := by simp; omega
    rw [hlen] at hn
    refine bc_dec (fun h => ?_) (fun h => ?_)
    · have hi : i < l.length := by omega
      have fail : isDig l[i] = false → [dI 0, dB false] = [dI (readNum d l).1, dB (readNum d l).2] := by
        intro hb
        have hg : (l.drop a)[i - a]? = some l[i] := by rw [List.getElem?_drop, show a + (i - a) = i by omega, List.getElem?_eq_getElem hi]
        rw [hr]; unfold rdT; rw [not_all hg hb]; rfl
      have hp := pow_le (k := i - a) (by omega)
      simp only [bc_t (show (0 : Int) ≤ (i : Int) by omega), Int.toNat_natCast, byte1 (List.getElem?_eq_getElem hi), wi1 hi (by omega)]
      refine bc_dec (fun hb => fail (isDig_no (by omega))) (fun hb => ?_)
      refine bc_dec (fun hb2 => fail (isDig_no (by omega))) (fun hb2 => ?_)
      have hdig : isDig l[i] = true := by unfold isDig; rw [decide_eq_true (by omega), decide_eq_true (by omega)]; rfl
      refine ⟨(a, i + 1), ⟨ha, by show a ≤ i + 1; omega, hi, hld, by show ((l.drop a).take (i + 1 - a)).all isDig = true; rw [take_snoc hai hi, List.all_append, hall]; simp [hdig], hr⟩, by show l.length - (i + 1) < l.length - i; omega, ?_⟩
      show zNu1 (bs l) a (numF 0 ((l.drop a).take (i + 1 - a))) ((i + 1 : Nat) : Int) = _
      rw [take_snoc hai hi, numF_append, numF_cons, numF_nil, byte48 (by omega) (by omega), w64 (z := 10 * _) (by omega) (by omega), w64 (by omega) (by omega)]
    · have hi : i = l.length := by omega
      subst hi
      show nNu2 _ _ a _ _
      rw [nNu2_text]
      have ht : (l.drop a).take (l.length - a) = l.drop a := List.take_of_length_le (by simp)
      rw [ht] at hall hn ⊢
      have hp : (10 : Int) ^ (l.length - a) ≤ 1000000000000000000 := by
        have := pow10_le (k := l.length - a) (d := 18) (by omega)
        rw [p18] at this; exact this
      rw [hr]
      unfold rdT
      rw [if_pos hall]
      refine bc_beq (fun h1 => ?_) (fun h1 => ?_)
      · rw [if_pos (by omega), w64 (by omega) (by omega), Int.zero_sub]
      · rw [if_neg (by omega)]
end Go.Proofs.G5s

/- Chapter 2: routes and their strings: small functions, in data. -/
namespace Go.Proofs.G5s
open Go Go.Abs Go.Proofs Go.Str
set_option maxRecDepth 100000
theorem limE1 (lo hi a : Int) : limE lo hi [.int .i64 a] = if lo ≤ a ∧ a ≤ hi then 0 else 2 := by
  simp only [limE]; split <;> split <;> first | rfl | omega
theorem limE2 (lo hi a b : Int) : limE lo hi [.int .i64 a, .int .i64 b] = if (lo ≤ a ∧ a ≤ hi) ∧ lo ≤ b ∧ b ≤ hi then 0 else 2 := by
  simp only [limE]; repeat' split
  all_goals first | rfl | omega
theorem limE4 (lo hi a b c d : Int) : limE lo hi [.int .i64 a, .int .i64 b, .int .i64 c, .int .i64 d] = if (lo ≤ a ∧ a ≤ hi) ∧ (lo ≤ b ∧ b ≤ hi) ∧ (lo ≤ c ∧ c ≤ hi) ∧ lo ≤ d ∧ d ≤ hi then 0 else 2 := by
  simp only [limE]; repeat' split
  all_goals first | rfl | omega
theorem limGood : LimGood Tryd.prog 66 3 := by
  refine ⟨mixed, ⟨_, _, Tryd.func66, rfl⟩, fun cap lo hi x => ?_, fun cap lo hi x y => ?_, fun cap lo hi x y z => ?_, fun cap lo hi x y z u => ?_⟩
  · show lm1 cap lo hi x _
    rw [lm1_text, limE1]
    repeat' first | refine bc_dec (fun _ => ?_) (fun _ => ?_) | exact ⟨by rw [if_neg (by omega)], rfl⟩ | exact ⟨by rw [if_pos (by omega)], rfl⟩
  · show lm2 cap lo hi x y _
    rw [lm2_text, limE2]
    repeat' first | refine bc_dec (fun _ => ?_) (fun _ => ?_) | exact ⟨by rw [if_neg (by omega)], rfl⟩ | exact ⟨by rw [if_pos (by omega)], rfl⟩
  · show lm3 cap lo hi x y z _
    rw [lm3_text]
    have e : limE lo hi [.int .i64 x, .int .i64 y, .int .i64 z] = if (lo ≤ x ∧ x ≤ hi) ∧ (lo ≤ y ∧ y ≤ hi) ∧ lo ≤ z ∧ z ≤ hi then 0 else 2 := by
      simp only [limE]; repeat' split
      all_goals first | rfl | omega
    rw [e]
    repeat' first | refine bc_dec (fun _ => ?_) (fun _ => ?_) | exact ⟨by rw [if_neg (by omega)], rfl⟩ | exact ⟨by rw [if_pos (by omega)], rfl⟩
  · show lm4 cap lo hi x y z u _
    rw [lm4_text, limE4]
    repeat' first | refine bc_dec (fun _ => ?_) (fun _ => ?_) | exact ⟨by rw [if_neg (by omega)], rfl⟩ | exact ⟨by rw [if_pos (by omega)], rfl⟩
theorem ite_so {c : Prop} [Decidable c] {α : Type} {x h : α} {r : Option α} (e : (if c then some x else r) = some h) : (c ∧ x = h) ∨ r = some h := by
  by_cases hc : c
  · rw [if_pos hc] at e; exact .inl ⟨hc, Option.some.inj e⟩
  · rw [if_neg hc] at e; exact .inr e
theorem preFOK : PreOK Tryd.prog (preF C5) := by
  intro g h he args ats H k hk
  unfold preF at he
  rcases ite_so he with ⟨e, rfl⟩ | he
  · rw [beq_iff_eq] at e
    subst e
    exact wpState_call (fun args bs K hk => lim_ok limGood hk) hk
  rcases ite_so he with ⟨e, rfl⟩ | he
  · exact saidH_ok (fun _ _ _ h => h) _ _ _ _ _ hk
  rcases ite_so he with ⟨e, rfl⟩ | he
  · exact fixH_ok (fun _ _ _ h => h) _ _ _ _ _ hk
  · cases he
theorem hokF : HandlerOK Tryd.prog (hF C5) := handlerX_ok mixed preFOK (by decide) 6
abbrev Pr := Int × Int
theorem lim_s1 {lo hi x : Int} : Says limC 0 [dI lo, dI hi, .sl 1 1 [vI x]] [dI (if lo ≤ x ∧ x ≤ hi then 0 else 2)] := ⟨(limE1 lo hi x).symm⟩
theorem conFE (l : List Int) (hlen : l.length < 1000000000) : C5 31 [.sl l.length 1 (vi l)] [dI (fst0 l)] := by
  let inv : Nat × Nat → Prop := fun x => x.1 ≤ l.length ∧ fst0 l = fst0 (l.drop x.1)
  let st : Nat × Nat → Slots × Blocks := fun x => zFE1 l.length x.2 l.length x.1 (vi l)
  refine con_of (L := fun _ s b => ∃ x, inv x ∧ st x = (s, b)) hokF mixed Tryd.func31 rfl (by show 1 ≤ 400; omega) rfl (ids := [0]) (by kernel_rfl) rfl (fun caps => ?_) (fun id hid => ?_)
  · show gFE _ _ l.length (caps 500) (vi l) _
    rw [gFE_text]
    exact ⟨(0, caps 500), ⟨by simp, rfl⟩, rfl⟩
  · obtain rfl := List.mem_singleton.1 hid
    refine ⟨Nat × Nat, st, inv, fun x => l.length - x.1, ⟨fun s b h => h, by kernel_rfl, ?_⟩⟩
    rintro ⟨i, cap⟩ ⟨hi, hr⟩
    simp only at hi hr
    show rFE1 _ _ l.length cap l.length i (vi l) _ _ _
    rw [rFE1_text]
    refine bc_dec (fun h => ?_) (fun h => ?_)
    · have hi' : i < l.length := by omega
      rw [List.drop_eq_getElem_cons hi', fst0] at hr
      simp only [bc_t h, bc_t (show (0 : Int) ≤ (i : Int) by omega), Int.toNat_natCast, at1 (vi_at l i hi')]
      refine bc_bne (fun hc => ?_) (fun hc => ?_)
      · rw [if_neg hc] at hr
        show [dI l[i]] = [dI (fst0 l)]
        rw [hr]
      · rw [if_pos hc] at hr
        refine ⟨(i + 1, cap), ⟨by show i + 1 ≤ l.length; omega, hr⟩, by show l.length - (i + 1) < l.length - i; omega, ?_⟩
        rw [w64 (by omega) (by omega)]; rfl
    · show (if 0 = 0 then _ else _)
      rw [if_pos rfl]
      show nFE2 _ _ _
      rw [nFE2_text]
      have : i = l.length := by omega
      rw [this, List.drop_length] at hr
      show [dI 0] = [dI (fst0 l)]
      rw [hr]; rfl
/-! ### numbers of words -/
theorem conIN (l : List UInt8) : C5 23 [dS l] [dB (okNum 5 l)] := by
  let inv : Nat → Prop := fun i => i ≤ l.length ∧ (l.take i).all isDig = true ∧ okNum 5 l = l.all isDig ∧ l.length ≤ 5
  let st : Nat → Slots × Blocks := fun i => zIN1 (bs l) l.length i
  refine con_of (L := fun _ s b => ∃ x, inv x ∧ st x = (s, b)) hokF mixed Tryd.func23 rfl (by show 0 ≤ 400; omega) rfl (ids := [0]) (by kernel_rfl) rfl (fun caps => ?_) (fun id hid => ?_)
  · show gIN _ _ (bs l) _
    rw [gIN_text]
    simp only [bs_size]
    refine bc_beq (fun h => ?_) (fun h => ?_)
    · rw [show okNum 5 l = false by unfold okNum; simp; omega]
    · refine bc_dec (fun h2 => ?_) (fun h2 => ?_)
      · rw [show okNum 5 l = false by unfold okNum; simp; omega]
      · have go : ¬ (l.head? = some 48 ∧ 1 < l.length) → ∃ x, inv x ∧ st x = zIN1 (bs l) l.length 0 := by
          intro hc
          refine ⟨0, ⟨Nat.zero_le _, rfl, ?_, by omega⟩, rfl⟩
          unfold okNum
          have : (decide (1 < l.length) && l.head? == some 48) = false := by
            rw [Bool.and_eq_false_iff, decide_eq_false_iff_not, beq_eq_false_iff_ne]
            rcases Nat.lt_or_ge 1 l.length with h | h
            · exact .inr (fun e => hc ⟨e, h⟩)
            · exact .inl (by omega)
          rw [this, decide_eq_true (by omega), decide_eq_true (by omega)]; rfl
        refine bc_dec (fun h3 => ?_) (fun h3 => go (by omega))
        cases l with
        | nil => simp at h3
        | cons b r =>
          rw [byte1 (l := b :: r) (i := 0) (b := b) rfl]
          refine bc_beq (fun h4 => ?_) (fun h4 => go (fun ⟨e, _⟩ => h4 (by simp only [List.head?_cons, Option.some.injEq] at e; rw [e]; rfl)))
          obtain rfl : b = 48 := u8_eq (c := 48) h4
          rw [show okNum 5 (48 :: r) = false by unfold okNum; rw [decide_eq_true (show 1 < (48 :: r).length by omega)]; simp]
  · obtain rfl := List.mem_singleton.1 hid
    refine ⟨Nat, st, inv, fun x => l.length - x, ⟨fun s b h => h, by kernel_rfl, ?_⟩⟩
    rintro i ⟨hil, hall, hok, h5⟩
    show rIN1 _ _ (bs l) l.length i _ _ _
    rw [rIN1_text]
    refine bc_dec (fun h => ?_) (fun h => ?_)
    · have hi : i < l.length := by omega
      have fail : isDig l[i] = false → [dB false] = [dB (okNum 5 l)] := by
        intro hb
        rw [hok, not_all (List.getElem?_eq_getElem hi) hb]
      simp only [bc_t (show (0 : Int) ≤ (i : Int) by omega), Int.toNat_natCast, byte1 (List.getElem?_eq_getElem hi), wi1 hi (by omega)]
      refine bc_dec (fun hb => fail (isDig_no (by omega))) (fun hb => ?_)
      refine bc_dec (fun hb2 => fail (isDig_no (by omega))) (fun hb2 => ?_)
      have hdig : isDig l[i] = true := by unfold isDig; rw [decide_eq_true (by omega), decide_eq_true (by omega)]; rfl
      exact ⟨i + 1, ⟨hi, by rw [List.take_succ_eq_append_getElem hi, List.all_append, hall]; simp [hdig], hok, h5⟩, by omega, rfl⟩
    · have hi : i = l.length := by omega
      show (if 0 = 0 then _ else _)
      rw [if_pos rfl]
      show nIN2 _ _ _
      rw [nIN2_text]
      rw [hi, List.take_length] at hall
      show [dB true] = _
      rw [hok, hall]
theorem conNO (l : List UInt8) (h : okNum 5 l = true) : C5 24 [dS l] [dI (numF 0 l)] := by
  obtain ⟨_, h5, _, hall⟩ := okNum_inv h
  let inv : Nat → Prop := fun i => i ≤ l.length
  let st : Nat → Slots × Blocks := fun i => zNO1 (bs l) (numF 0 (l.take i)) l.length i
  refine con_of (L := fun _ s b => ∃ x, inv x ∧ st x = (s, b)) hokF mixed Tryd.func24 rfl (by show 0 ≤ 400; omega) rfl (ids := [0]) (by kernel_rfl) rfl (fun caps => ?_) (fun id hid => ?_)
  · show gNO _ _ (bs l) _
    rw [gNO_text]
    simp only [bs_size]
    exact ⟨0, Nat.zero_le _, rfl⟩
  · obtain rfl := List.mem_singleton.1 hid
    refine ⟨Nat, st, inv, fun x => l.length - x, ⟨fun s b h => h, by kernel_rfl, ?_⟩⟩
    intro i hil
    show rNO1 _ _ (bs l) (numF 0 (l.take i)) l.length i _ _ _
    rw [rNO1_text]
    refine bc_dec (fun h => ?_) (fun h => ?_)
    · have hi : i < l.length := by have := hil; omega
      have hdig : isDig l[i] = true := List.all_eq_true.1 hall _ (List.getElem_mem hi)
      have hd := hdig
      simp only [isDig, Bool.and_eq_true, decide_eq_true_eq] at hd
      have hn := numF_ge (l.take i) 0 (by decide) (by
        rw [List.all_eq_true]; intro x hx; exact List.all_eq_true.1 hall x (List.mem_of_mem_take hx))
      have hp := pow_le (k := (l.take i).length) (by rw [List.length_take]; omega)
      simp only [bc_t (show (0 : Int) ≤ (i : Int) by omega), Int.toNat_natCast, byte1 (List.getElem?_eq_getElem hi), wi1 hi (by omega)]
      refine ⟨i + 1, hi, by omega, ?_⟩
      show zNO1 (bs l) (numF 0 (l.take (i + 1))) l.length ((i + 1 : Nat) : Int) = _
      rw [List.take_succ_eq_append_getElem hi, numF_append, numF_cons, numF_nil, byte48 (by omega) (by omega), w64 (z := 10 * _) (by omega) (by omega), w64 (by omega) (by omega)]
    · have hi : i = l.length := by have := hil; omega
      show (if 0 = 0 then _ else _)
      rw [if_pos rfl]
      show nNO2 _ _ _ _
      rw [nNO2_text, hi, List.take_length]
/-! ### routes -/
def zoneOk (p : Pr) : Prop := (0 ≤ p.1 ∧ p.1 ≤ 20000) ∧ 0 ≤ p.2 ∧ p.2 ≤ 200
instance (p : Pr) : Decidable (zoneOk p) := by unfold zoneOk; infer_instance
/-- the first zone that is wrong, and the error -/
def rtE (i : Nat) : List Pr → Nat × Int
  | [] => (0, 0)
  | p :: r => if zoneOk p then rtE (i + 1) r else (i, 2)
def routeE (l : List Pr) : Nat × Int := if l.length > 5 then (0, 8) else rtE 0 l
theorem rtE_2 : ∀ (l : List Pr) (i : Nat), (rtE i l).2 = 0 ↔ ∀ p ∈ l, zoneOk p
  | [], i => by simp [rtE]
  | p :: r, i => by
    unfold rtE
    split
    · next h => rw [rtE_2 r (i + 1)]; simp [h]
    · next h => simp; intro h2; exact absurd h2 h
theorem conCR (l : List Pr) : C5 25 [.sl l.length 2 (vp l)] [dI (routeE l).1, dI (routeE l).2] := by
  let inv : Nat × Nat → Prop := fun x => x.1 ≤ l.length ∧ l.length ≤ 5 ∧ routeE l = rtE x.1 (l.drop x.1)
  let st : Nat × Nat → Slots × Blocks := fun x => zCR1 l.length x.2 l.length x.1 (vp l)
  refine con_of (L := fun _ s b => ∃ x, inv x ∧ st x = (s, b)) hokF mixed Tryd.func25 rfl (by show 1 ≤ 400; omega) rfl (ids := [0]) (by kernel_rfl) rfl (fun caps => ?_) (fun id hid => ?_)
  · show gCR _ _ l.length (caps 500) (vp l) _
    rw [gCR_text]
    refine bc_dec (fun h => ?_) (fun h => ?_)
    · unfold routeE; rw [if_pos (by omega)]; rfl
    · exact ⟨(0, caps 500), ⟨Nat.zero_le _, by omega, by unfold routeE; rw [if_neg (by omega)]; rfl⟩, rfl⟩
  · obtain rfl := List.mem_singleton.1 hid
    refine ⟨Nat × Nat, st, inv, fun x => l.length - x.1, ⟨fun s b h => h, by kernel_rfl, ?_⟩⟩
    rintro ⟨i, cap⟩ ⟨hi, h5, hr⟩
    simp only at hi hr
    show rCR1 _ _ l.length cap l.length i (vp l) _ _ _
    rw [rCR1_text]
    refine bc_dec (fun h => ?_) (fun h => ?_)
    · have hi' : i < l.length := by omega
      rw [List.drop_eq_getElem_cons hi', rtE] at hr
      simp only [bc_t h, bc_t (show (0 : Int) ≤ (i : Int) by omega), Int.toNat_natCast, at2 (vp_two l i hi'), eq_self, true_and, wi1 hi' (by omega)]
      refine ⟨_, lim_s1, _, lim_s1, _, ⟨conFE [_, _] (by simp)⟩, ?_⟩
      have e : fst0 [if 0 ≤ l[i].1 ∧ l[i].1 ≤ 20000 then 0 else 2, if 0 ≤ l[i].2 ∧ l[i].2 ≤ 200 then 0 else 2] = if zoneOk l[i] then 0 else 2 := by
        rw [fst0_two]
        unfold zoneOk
        repeat' split
        all_goals first | rfl | omega
      rw [e]
      by_cases hz : zoneOk l[i]
      · rw [if_pos hz] at hr ⊢
        refine bc_bne (fun hc => absurd rfl hc) (fun _ => ⟨(i + 1, cap), ⟨hi', h5, hr⟩, by show l.length - (i + 1) < l.length - i; omega, rfl⟩)
      · rw [if_neg hz] at hr ⊢
        refine bc_bne (fun _ => ?_) (fun hc => absurd hc (by decide))
        rw [hr]
    · show (if 0 = 0 then _ else _)
      rw [if_pos rfl]
      show nCR2 _ _ _
      rw [nCR2_text]
      have : i = l.length := by omega
      rw [this, List.drop_length] at hr
      rw [hr]; rfl
theorem vp_sndB (l : List Pr) (i : Nat) (h : i < l.length) (b : Nat) : At (vp l) (Addr.off ⟨b, 0 + i * 2, none⟩ + 1) 1 [.int .i64 l[i].2] := vp_snd l i h
theorem conRC (l : List Pr) : C5 29 [.sl l.length 2 (vp l)] [dI (routeE l).1, dI (routeE l).2] := by
  let inv : Nat × Nat → Prop := fun x => x.1 ≤ l.length ∧ l.length ≤ 5 ∧ routeE l = rtE x.1 (l.drop x.1)
  let st : Nat × Nat → Slots × Blocks := fun x => zRC1 l.length x.2 x.1 (vp l)
  refine con_of (L := fun _ s b => ∃ x, inv x ∧ st x = (s, b)) hokF mixed Tryd.func29 rfl (by show 1 ≤ 400; omega) rfl (ids := [0]) (by kernel_rfl) rfl (fun caps => ?_) (fun id hid => ?_)
  · show gRC _ _ l.length (caps 500) (vp l) _
    rw [gRC_text]
    refine bc_dec (fun h => ?_) (fun h => ?_)
    · unfold routeE; rw [if_pos (by omega)]; rfl
    · exact ⟨(0, caps 500), ⟨Nat.zero_le _, by omega, by unfold routeE; rw [if_neg (by omega)]; rfl⟩, rfl⟩
  · obtain rfl := List.mem_singleton.1 hid
    refine ⟨Nat × Nat, st, inv, fun x => l.length - x.1, ⟨fun s b h => h, by kernel_rfl, ?_⟩⟩
    rintro ⟨i, cap⟩ ⟨hi, h5, hr⟩
    simp only at hi hr
    show rRC1 _ _ l.length cap i (vp l) _ _ _
    rw [rRC1_text]
    refine bc_dec (fun h => ?_) (fun h => ?_)
    · have hi' : i < l.length := by omega
      rw [List.drop_eq_getElem_cons hi', rtE] at hr
      simp only [bc_t h, bc_t (show (0 : Int) ≤ (i : Int) by omega), Int.toNat_natCast, at1 (vp_one l i hi'), at1 (vp_sndB l i hi' 500), wi1 hi' (by omega)]
      have bad : ¬ zoneOk l[i] → [dI i, dI 2] = [dI (routeE l).1, dI (routeE l).2] := fun hz => by rw [if_neg hz] at hr; rw [hr]
      refine bc_dec (fun h1 => ?_) (fun h1 => bad (by unfold zoneOk; omega))
      refine bc_dec (fun h2 => ?_) (fun h2 => bad (by unfold zoneOk; omega))
      refine bc_dec (fun h3 => ?_) (fun h3 => bad (by unfold zoneOk; omega))
      refine bc_dec (fun h4 => ?_) (fun h4 => bad (by unfold zoneOk; omega))
      rw [if_pos (by unfold zoneOk; omega)] at hr
      exact ⟨(i + 1, cap), ⟨hi', h5, hr⟩, by show l.length - (i + 1) < l.length - i; omega, rfl⟩
    · show (if 0 = 0 then _ else _)
      rw [if_pos rfl]
      show nRC2 _ _ _
      rw [nRC2_text]
      have : i = l.length := by omega
      rw [this, List.drop_length] at hr
      rw [hr]; rfl
theorem conRCn : C5 29 [.nil] [dI 0, dI 0] := by
  refine con_of (L := fun _ s b => ∃ _x : Unit, True ∧ zRCn1 0 = (s, b)) hokF mixed Tryd.func29 rfl (by show 0 ≤ 400; omega) rfl (ids := [0]) (by kernel_rfl) rfl (fun caps => ?_) (fun id hid => ?_)
  · show gRCn _ _ _
    rw [gRCn_text]
    exact ⟨(), trivial, rfl⟩
  · obtain rfl := List.mem_singleton.1 hid
    refine ⟨Unit, fun _ => zRCn1 0, fun _ => True, fun _ => 0, ⟨fun s b h => h, by kernel_rfl, ?_⟩⟩
    rintro _ _
    show rRCn1 _ _ 0 _ _ _
    rw [rRCn1_text]
    refine bc_no (by decide) ?_
    show (if 0 = 0 then _ else _)
    rw [if_pos rfl]
    show nRCn2 _ _ _
    rw [nRCn2_text]
theorem conRE (l : List Pr) : C5 11 [.sl l.length 2 (vp l)] [dI (routeE l).2] := by
  refine con_flat hokF mixed Tryd.func11 rfl (by show 1 ≤ 400; omega) rfl (by kernel_rfl) (fun caps => ?_)
  show gRE _ _ l.length (caps 500) (vp l) _
  rw [gRE_text, vp_whole]
  exact bc_yes (by simp) ⟨_, _, ⟨conRC l⟩, rfl⟩
theorem conREn : C5 11 [.nil] [dI 0] := by
  refine con_flat hokF mixed Tryd.func11 rfl (by show 0 ≤ 400; omega) rfl (by kernel_rfl) (fun caps => ?_)
  show gREn _ _ _
  rw [gREn_text]
  exact ⟨_, _, ⟨conRCn⟩, rfl⟩
end Go.Proofs.G5s

/- Chapter 2: the string of a route, and the route with a string. -/
namespace Go.Proofs.G5s
open Go Go.Abs Go.Proofs Go.Str
set_option maxRecDepth 100000
theorem sayOr {f : FuncId} {args : List D} {b : Bool} {A B : Prop} (h : C5 f args [dB b]) (h1 : b = true → A) (h2 : b = false → B) : (Says C5 f args [.val (.bool true)] ∧ A) ∨ (Says C5 f args [.val (.bool false)] ∧ B) := by
  cases b with
  | true => exact .inl ⟨⟨h⟩, h1 rfl⟩
  | false => exact .inr ⟨⟨h⟩, h2 rfl⟩
theorem sayOr3 {f : FuncId} {args : List D} {x y : D} {b : Bool} {A B : Prop} (h : C5 f args [x, y, dB b]) (h1 : b = true → A) (h2 : b = false → B) : (Says C5 f args [x, y, .val (.bool true)] ∧ A) ∨ (Says C5 f args [x, y, .val (.bool false)] ∧ B) := by
  cases b with
  | true => exact .inl ⟨⟨h⟩, h1 rfl⟩
  | false => exact .inr ⟨⟨h⟩, h2 rfl⟩
theorem sayOr2 {f : FuncId} {args : List D} {x : D} {b : Bool} {A B : Prop} (h : C5 f args [x, dB b]) (h1 : b = true → A) (h2 : b = false → B) : (Says C5 f args [x, .val (.bool true)] ∧ A) ∨ (Says C5 f args [x, .val (.bool false)] ∧ B) := by
  cases b with
  | true => exact .inl ⟨⟨h⟩, h1 rfl⟩
  | false => exact .inr ⟨⟨h⟩, h2 rfl⟩
def in64 (l : List Pr) : Prop := ∀ p ∈ l, (-9223372036854775808 ≤ p.1 ∧ p.1 ≤ 9223372036854775807) ∧ -9223372036854775808 ≤ p.2 ∧ p.2 ≤ 9223372036854775807
/-- the word of a zone -/
def wz (p : Pr) : List UInt8 := Lib.itoa p.1 ++ 120 :: Lib.itoa p.2
def fmt (l : List Pr) : List UInt8 := Lib.join (l.map wz) [32]
theorem wz_len {p : Pr} (h : (-9223372036854775808 ≤ p.1 ∧ p.1 ≤ 9223372036854775807) ∧ -9223372036854775808 ≤ p.2 ∧ p.2 ≤ 9223372036854775807) : (wz p).length ≤ 43 := by
  have h1 := Lib.itoa_length_le p.1 h.1.1 h.1.2
  have h2 := Lib.itoa_length_le p.2 h.2.1 h.2.2
  simp [wz]; omega
theorem fmt_len {l : List Pr} (h : in64 l) : (fmt l).length ≤ 44 * l.length := by
  have := join_le (c := 32) (k := 43) (xs := l.map wz) (fun x hx => by
    obtain ⟨p, hp, rfl⟩ := List.mem_map.1 hx
    exact wz_len (h p hp))
  simpa [fmt] using this
theorem fmt_snoc {l : List Pr} {p : Pr} : fmt (l ++ [p]) = if l = [] then wz p else fmt l ++ 32 :: wz p := by
  cases l with
  | nil => simp [fmt, Lib.join_one]
  | cons q r =>
    rw [if_neg (by simp)]
    unfold fmt
    rw [List.map_append]
    exact join_snoc (by simp)
theorem in64_take {l : List Pr} (h : in64 l) (i : Nat) : in64 (l.take i) := fun p hp => h p (List.mem_of_mem_take hp)
theorem lit_bs (b : UInt8) : ({ data := #[b] } : ByteArray) = bs [b] := rfl
theorem conFR (l : List Pr) (hb : in64 l) (hlen : l.length ≤ 1000) : C5 5 [.sl l.length 2 (vp l)] [dS (fmt l)] := by
  let inv : Nat × Nat → Prop := fun x => x.1 ≤ l.length
  let st : Nat × Nat → Slots × Blocks := fun x => match x.1 with
    | 0 => zFR1 l.length x.2 l.length 0 (vp l)
    | i + 1 => zFR2 (i + 1) l.length x.2 l.length ((i + 1 : Nat) : Int) (strs ((l.take (i + 1)).map wz)) (vp l)
  refine con_of (L := fun _ s b => ∃ x, inv x ∧ st x = (s, b)) hokF mixed Tryd.func5 rfl (by show 1 ≤ 400; omega) rfl (ids := [0]) (by kernel_rfl) rfl (fun caps => ?_) (fun id hid => ?_)
  · show gFR _ _ l.length (caps 500) (vp l) _
    rw [gFR_text]
    exact ⟨(0, caps 500), Nat.zero_le _, rfl⟩
  · obtain rfl := List.mem_singleton.1 hid
    refine ⟨Nat × Nat, st, inv, fun x => l.length - x.1, ⟨fun s b h => h, by kernel_rfl, ?_⟩⟩
    rintro ⟨i, cap⟩ hi
    have hi : i ≤ l.length := hi
    cases i with
    | zero =>
      show rFR1 _ _ l.length cap l.length 0 (vp l) _ _ _
      rw [rFR1_text]
      refine bc_dec (fun h => ?_) (fun h => ?_)
      · have hi' : 0 < l.length := by omega
        have hp := hb l[0] (List.getElem_mem hi')
        have w1 := Lib.itoa_length_le l[0].1 hp.1.1 hp.1.2
        have w2 := Lib.itoa_length_le l[0].2 hp.2.1 hp.2.2
        refine bc_yes (by decide) (bc_yes h ?_)
        rw [show (0 + Int.toNat 0 * 2) = 0 + 0 * 2 from rfl, at2 (vp_two l 0 hi')]
        simp only [eq_self, true_and, and_true]
        refine ⟨_, ⟨conIt _ hp.1.1 hp.1.2⟩, ?_⟩
        have b1 : ByteArray.size (bs (Lib.itoa l[0].1)) + 1 ≤ 9223372036854775807 := by rw [bs_size]; omega
        simp only [bc_t b1, true_and, lit_bs, bs_append]
        refine ⟨_, ⟨conIt _ hp.2.1 hp.2.2⟩, ?_⟩
        have b2 : ByteArray.size (bs (Lib.itoa l[0].1 ++ [120])) + ByteArray.size (bs (Lib.itoa l[0].2)) ≤ 9223372036854775807 := by rw [bs_size, bs_size]; simp; omega
        simp only [bc_t b2, true_and, bs_append]
        refine ⟨(1, cap), hi', by show l.length - 1 < l.length - 0; omega, ?_⟩
        show zFR2 1 l.length cap l.length 1 (strs ((l.take 1).map wz)) (vp l) = _
        have e : l.take 1 = [l[0]] := by rw [List.take_succ_eq_append_getElem hi']; rfl
        rw [e]
        simp only [List.map_cons, List.map_nil, wz, List.append_assoc]
        rfl
      · show (if 0 = 0 then _ else _)
        rw [if_pos rfl]
        show nFR3 _ _ _
        rw [nFR3_text]
        have : l = [] := List.length_eq_zero_iff.1 (by omega)
        subst this
        exact ⟨_, ⟨conJz 32⟩, rfl⟩
    | succ i =>
      show rFR2 _ _ (i + 1) l.length cap l.length ((i + 1 : Nat) : Int) (strs ((l.take (i + 1)).map wz)) (vp l) _ _ _
      rw [rFR2_text]
      have hsl : ((l.take (i + 1)).map wz).length = i + 1 := by simp; omega
      have hw : List.take ((i + 1) * 1) (List.drop 0 (strs ((l.take (i + 1)).map wz))) = strs ((l.take (i + 1)).map wz) := by
        have := strs_whole ((l.take (i + 1)).map wz); rw [hsl] at this; exact this
      have hq1 : 0 + (i + 1) * 1 ≤ (strs ((l.take (i + 1)).map wz)).length := by rw [strs_length, hsl]; omega
      have hq2 : 0 + (i + 1) * 1 = (strs ((l.take (i + 1)).map wz)).length := by rw [strs_length, hsl]; omega
      refine bc_dec (fun h => ?_) (fun h => ?_)
      · have hi' : i + 1 < l.length := by omega
        have hp := hb l[i + 1] (List.getElem_mem hi')
        have w1 := Lib.itoa_length_le l[i + 1].1 hp.1.1 hp.1.2
        have w2 := Lib.itoa_length_le l[i + 1].2 hp.2.1 hp.2.2
        simp only [bc_t (show (0 : Int) ≤ ((i + 1 : Nat) : Int) by omega), bc_t h, Int.toNat_natCast, at2 (vp_two l (i + 1) hi'), eq_self, true_and, and_true, wi1 hi' (by omega)]
        refine ⟨_, ⟨conIt _ hp.1.1 hp.1.2⟩, ?_⟩
        have b1 : ByteArray.size (bs (Lib.itoa l[i + 1].1)) + 1 ≤ 9223372036854775807 := by rw [bs_size]; omega
        simp only [bc_t b1, true_and, lit_bs, bs_append]
        refine ⟨_, ⟨conIt _ hp.2.1 hp.2.2⟩, ?_⟩
        have b2 : ByteArray.size (bs (Lib.itoa l[i + 1].1 ++ [120])) + ByteArray.size (bs (Lib.itoa l[i + 1].2)) ≤ 9223372036854775807 := by rw [bs_size, bs_size]; simp; omega
        simp only [bc_t b2, true_and, bs_append, bc_t (Nat.lt_succ_self (i + 1)), bc_t (show (2 * (i + 1 + 1) + 768) * 16 ≤ 281474976710656 by omega), bc_t (show i + 1 + 1 ≤ 1099511627776 by omega), bc_t hq1, bc_t hq2, hw]
        refine ⟨(i + 2, cap), hi', by show l.length - (i + 2) < l.length - (i + 1); omega, ?_⟩
        show zFR2 (i + 1 + 1) l.length cap l.length ((i + 1 + 1 : Nat) : Int) (strs ((l.take (i + 1 + 1)).map wz)) (vp l) = _
        rw [List.take_succ_eq_append_getElem hi', List.map_append]
        simp only [strs, List.map_append, List.map_cons, List.map_nil, wz, List.append_assoc]
        rfl
      · show (if 0 = 0 then _ else _)
        rw [if_pos rfl]
        show nFR4 _ _ (i + 1) (strs ((l.take (i + 1)).map wz)) _
        rw [nFR4_text, hw]
        have hil : i + 1 = l.length := by omega
        rw [hil, List.take_length] at hq1 ⊢
        have hfl := fmt_len hb
        have hJ := conJn (l.map wz) 32 (by simp; omega) (by show (fmt l).length ≤ _; omega)
        rw [show dSs (l.map wz) = D.sl l.length 1 (strs (l.map wz)) by simp] at hJ
        refine bc_yes (by simp) ⟨_, ⟨hJ⟩, rfl⟩
theorem conRF (l : List Pr) (hb : in64 l) (hlen : l.length ≤ 1000) : C5 9 [.sl l.length 2 (vp l)] [dS (fmt l)] := by
  let inv : Nat × Nat → Prop := fun x => x.1 ≤ l.length
  let st : Nat × Nat → Slots × Blocks := fun x => zRF1 l.length x.2 (bs (fmt (l.take x.1))) x.1 (vp l)
  refine con_of (L := fun _ s b => ∃ x, inv x ∧ st x = (s, b)) hokF mixed Tryd.func9 rfl (by show 1 ≤ 400; omega) rfl (ids := [0]) (by kernel_rfl) rfl (fun caps => ?_) (fun id hid => ?_)
  · show gRF _ _ l.length (caps 500) (vp l) _
    rw [gRF_text]
    exact ⟨(0, caps 500), Nat.zero_le _, rfl⟩
  · obtain rfl := List.mem_singleton.1 hid
    refine ⟨Nat × Nat, st, inv, fun x => l.length - x.1, ⟨fun s b h => h, by kernel_rfl, ?_⟩⟩
    rintro ⟨i, cap⟩ hi
    have hi : i ≤ l.length := hi
    show rRF1 _ _ l.length cap (bs (fmt (l.take i))) i (vp l) _ _ _
    rw [rRF1_text]
    have hfl := fmt_len (in64_take hb i)
    rw [List.length_take] at hfl
    refine bc_dec (fun h => ?_) (fun h => ?_)
    · have hi' : i < l.length := by omega
      have hp := hb l[i] (List.getElem_mem hi')
      have w1 := Lib.itoa_length_le l[i].1 hp.1.1 hp.1.2
      have w2 := Lib.itoa_length_le l[i].2 hp.2.1 hp.2.2
      have s1 := conDe l[i].1 hp.1.1 hp.1.2
      have s2 := conDe l[i].2 hp.2.1 hp.2.2
      have hs : fmt (l.take (i + 1)) = if i = 0 then wz l[i] else fmt (l.take i) ++ 32 :: wz l[i] := by
        rw [List.take_succ_eq_append_getElem hi', fmt_snoc]
        by_cases h0 : i = 0
        · rw [if_pos h0, if_pos (by rw [h0]; rfl)]
        · rw [if_neg h0, if_neg (by intro e; have := congrArg List.length e; rw [List.length_take, List.length_nil] at this; omega)]
      refine bc_dec (fun h0 => ?_) (fun h0 => ?_)
      · rw [if_neg (by omega)] at hs
        have b0 : ByteArray.size (bs (fmt (l.take i))) + 1 ≤ 9223372036854775807 := by rw [bs_size]; omega
        simp only [bc_t b0, bc_t (show (0 : Int) ≤ (i : Int) by omega), bc_t h, Int.toNat_natCast, at1 (vp_one l i hi'), at1 (vp_sndB l i hi' 500), eq_self, true_and, and_true, wi1 hi' (by omega), lit_bs, bs_append]
        refine ⟨_, ⟨s1⟩, ?_⟩
        have b1 : ByteArray.size (bs (fmt (l.take i) ++ [32])) + ByteArray.size (bs (Lib.itoa l[i].1)) ≤ 9223372036854775807 := by rw [bs_size, bs_size]; simp; omega
        simp only [bc_t b1, true_and, bs_append]
        have b2 : ByteArray.size (bs (fmt (l.take i) ++ [32] ++ Lib.itoa l[i].1)) + 1 ≤ 9223372036854775807 := by rw [bs_size]; simp; omega
        simp only [bc_t b2, true_and, bs_append]
        refine ⟨_, ⟨s2⟩, ?_⟩
        have b3 : ByteArray.size (bs (fmt (l.take i) ++ [32] ++ Lib.itoa l[i].1 ++ [120])) + ByteArray.size (bs (Lib.itoa l[i].2)) ≤ 9223372036854775807 := by rw [bs_size, bs_size]; simp; omega
        simp only [bc_t b3, true_and, bs_append]
        refine ⟨(i + 1, cap), hi', by show l.length - (i + 1) < l.length - i; omega, ?_⟩
        show zRF1 l.length cap (bs (fmt (l.take (i + 1)))) ((i + 1 : Nat) : Int) (vp l) = _
        rw [hs]
        simp only [wz, List.append_assoc, List.cons_append, List.nil_append]
      · have h00 : i = 0 := by omega
        rw [if_pos h00] at hs
        have he : fmt (l.take i) = [] := by rw [h00]; rfl
        rw [he]
        simp only [bc_t (show (0 : Int) ≤ (i : Int) by omega), bc_t h, Int.toNat_natCast, at1 (vp_one l i hi'), at1 (vp_sndB l i hi' 500), eq_self, true_and, and_true, wi1 hi' (by omega), lit_bs]
        refine ⟨_, ⟨s1⟩, ?_⟩
        have b1 : ByteArray.size (bs []) + ByteArray.size (bs (Lib.itoa l[i].1)) ≤ 9223372036854775807 := by rw [bs_size, bs_size]; simp; omega
        simp only [bc_t b1, true_and, bs_append, List.nil_append]
        have b2 : ByteArray.size (bs (Lib.itoa l[i].1)) + 1 ≤ 9223372036854775807 := by rw [bs_size]; omega
        simp only [bc_t b2, true_and, bs_append]
        refine ⟨_, ⟨s2⟩, ?_⟩
        have b3 : ByteArray.size (bs (Lib.itoa l[i].1 ++ [120])) + ByteArray.size (bs (Lib.itoa l[i].2)) ≤ 9223372036854775807 := by rw [bs_size, bs_size]; simp; omega
        simp only [bc_t b3, true_and, bs_append]
        refine ⟨(i + 1, cap), hi', by show l.length - (i + 1) < l.length - i; omega, ?_⟩
        show zRF1 l.length cap (bs (fmt (l.take (i + 1)))) ((i + 1 : Nat) : Int) (vp l) = _
        rw [hs]
        simp only [wz, List.append_assoc, List.cons_append, List.nil_append]
    · show (if 0 = 0 then _ else _)
      rw [if_pos rfl]
      show nRF2 _ _ _ _
      rw [nRF2_text]
      have : i = l.length := by omega
      rw [this, List.take_length]
theorem conRFn : C5 9 [.nil] [dS []] := by
  refine con_of (L := fun _ s b => ∃ _x : Unit, True ∧ zRFn1 (bs []) 0 = (s, b)) hokF mixed Tryd.func9 rfl (by show 0 ≤ 400; omega) rfl (ids := [0]) (by kernel_rfl) rfl (fun caps => ?_) (fun id hid => ?_)
  · show gRFn _ _ _
    rw [gRFn_text]
    exact ⟨(), trivial, rfl⟩
  · obtain rfl := List.mem_singleton.1 hid
    refine ⟨Unit, fun _ => zRFn1 (bs []) 0, fun _ => True, fun _ => 0, ⟨fun s b h => h, by kernel_rfl, ?_⟩⟩
    rintro _ _
    show rRFn1 _ _ (bs []) 0 _ _ _
    rw [rRFn1_text]
    refine bc_no (by decide) ?_
    show (if 0 = 0 then _ else _)
    rw [if_pos rfl]
    show nRFn2 _ _ _ _
    rw [nRFn2_text]
end Go.Proofs.G5s

/- Chapter 2: the route with a string. -/
namespace Go.Proofs.G5s
open Go Go.Abs Go.Proofs Go.Str
set_option maxRecDepth 100000
abbrev zoneW : List UInt8 → Option Pr := two 120 5
def afterW : Option (List Pr) → D × Int
  | none => (.nil, 7)
  | some zs => if (routeE zs).2 = 0 then (.sl zs.length 2 (vp zs), 0) else (.nil, (routeE zs).2)
def prs (l : List UInt8) : D × Int := if 60000 < l.length then (.nil, 8) else if l = [] then (.nil, 0) else afterW (words zoneW (cutA 32 [] l))
theorem vp_snoc : ∀ (l : List Pr) (p : Pr), vp (l ++ [p]) = vp l ++ [vI p.1, vI p.2]
  | [], p => rfl
  | q :: r, p => by simp only [List.cons_append, vp, vp_snoc r p]
theorem empty_beq (l : List UInt8) : (ByteArray.toList (bs l) == ByteArray.toList { data := #[] }) = decide (l = []) := by
  rw [show ({ data := #[] } : ByteArray) = bs [] from rfl, bs_toList, bs_toList]
  cases l <;> rfl
/-- the loop of both programs over the words -/
def goes (ws : List (List UInt8)) (x : Nat × List Pr) : Prop := x.1 ≤ ws.length ∧ x.2.length = x.1 ∧ words zoneW ws = (words zoneW (ws.drop x.1)).map (x.2 ++ ·)
theorem goes_step {ws : List (List UInt8)} {i : Nat} {out : List Pr} (h : goes ws (i, out)) (hi : i < ws.length) : (zoneW ws[i] = none → words zoneW ws = none) ∧ (∀ z, zoneW ws[i] = some z → goes ws (i + 1, out ++ [z])) := by
  obtain ⟨h1, h2, h3⟩ := h
  rw [List.drop_eq_getElem_cons hi, words] at h3
  constructor
  · intro e
    rw [e] at h3; exact h3
  · intro z e
    rw [e] at h3
    refine ⟨hi, by show (out ++ [z]).length = i + 1; simp at h2 ⊢; omega, ?_⟩
    rw [h3]
    show Option.map _ (Option.map _ _) = Option.map _ _
    rw [Option.map_map]
    congr 1
    funext t
    simp
theorem goes_end {ws : List (List UInt8)} {out : List Pr} (h : goes ws (ws.length, out)) : words zoneW ws = some out := by
  obtain ⟨_, _, h3⟩ := h
  rw [List.drop_length, words] at h3
  simpa using h3
theorem conPR (l : List UInt8) (hl : l.length ≤ 70000) : C5 7 [dS l] [(prs l).1, dI (prs l).2] := by
  generalize hws : cutA 32 [] l = ws
  have hwn : ws.length ≠ 0 := by rw [← hws]; intro e; exact cutA_ne (List.length_eq_zero_iff.1 e)
  have hwl : ws.length ≤ 70001 := by rw [← hws, cutA_len]; have := List.count_le_length (a := (32 : UInt8)) (l := l); omega
  have hwm : ∀ w ∈ ws, w.length ≤ 70000 := fun w hw => by rw [← hws] at hw; have := cutA_le w hw; simp at this; omega
  let inv : Nat × List Pr → Prop := fun x => goes ws x ∧ ¬ 60000 < l.length ∧ l ≠ []
  let st : Nat × List Pr → Slots × Blocks := fun x => match x.2 with
    | [] => zPR2 ws.length ws.length x.1 (strs ws)
    | p :: r => zPR4 (p :: r).length ws.length ws.length x.1 (vp (p :: r)) (strs ws)
  have hprs : ¬ 60000 < l.length → l ≠ [] → prs l = afterW (words zoneW ws) := by
    intro h1 h2
    unfold prs
    rw [if_neg h1, if_neg h2, hws]
  refine con_of (L := fun _ s b => ∃ x, inv x ∧ st x = (s, b)) hokF mixed Tryd.func7 rfl (by show 0 ≤ 400; omega) rfl (ids := [1]) (by kernel_rfl) rfl (fun caps => ?_) (fun id hid => ?_)
  · show gPR _ _ (bs l) _
    rw [gPR_text]
    simp only [bs_size, empty_beq]
    refine bc_dec (fun h => ?_) (fun h => ?_)
    · unfold prs; rw [if_pos (by omega)]
    · refine bc_dec (fun h2 => ?_) (fun h2 => ?_)
      · unfold prs; rw [if_neg (by omega), if_pos h2]
      · refine .inr ⟨_, _, ⟨conSp l 32 (by omega)⟩, ?_⟩
        rw [hws]
        exact ⟨(0, []), ⟨⟨Nat.zero_le _, rfl, by simp⟩, by omega, h2⟩, rfl⟩
  · obtain rfl := List.mem_singleton.1 hid
    refine ⟨Nat × List Pr, st, inv, fun x => ws.length - x.1, ⟨fun s b h => h, by kernel_rfl, ?_⟩⟩
    rintro ⟨i, out⟩ ⟨hg, h6, hne⟩
    have hp := hprs h6 hne
    have hi := hg.1
    have ho := hg.2.1
    simp only at hi ho
    have bad : ∀ h : i < ws.length, zoneW ws[i] = none → [D.nil, dI 7] = [(prs l).1, dI (prs l).2] := fun h e => by
      rw [hp, (goes_step hg h).1 e]; rfl
    have cutS : ∀ h : i < ws.length, C5 22 [dS ws[i], dS [120]] [dS (Lib.cut ws[i] [120]).1, dS (Lib.cut ws[i] [120]).2.1, dB (Lib.cut ws[i] [120]).2.2] := fun h =>
      conCt _ 120 (by have := hwm _ (List.getElem_mem h); omega)
    have two1 : ∀ h : i < ws.length, okNum 5 (Lib.cut ws[i] [120]).1 = true → okNum 5 (Lib.cut ws[i] [120]).2.1 = true → zoneW ws[i] = some (numF 0 (Lib.cut ws[i] [120]).1, numF 0 (Lib.cut ws[i] [120]).2.1) := fun h a b => by
      show two 120 5 _ = _; unfold two; rw [a, b]; rfl
    have two2 : ∀ h : i < ws.length, okNum 5 (Lib.cut ws[i] [120]).1 = false ∨ okNum 5 (Lib.cut ws[i] [120]).2.1 = false → zoneW ws[i] = none := fun h a => by
      show two 120 5 _ = _; unfold two
      rcases a with a | a <;> rw [a] <;> simp
    cases out with
    | nil =>
      have hi0 : i = 0 := by simpa using ho.symm
      show rPR2 _ _ ws.length ws.length i (strs ws) _ _ _
      rw [rPR2_text]
      refine bc_dec (fun h => ?_) (fun h => absurd (show (i : Int) < ws.length by omega) h)
      have hi' : i < ws.length := by omega
      simp only [bc_t (show (0 : Int) ≤ (i : Int) by omega), bc_t h, Int.toNat_natCast, atS (strs_at ws i hi'), wi1 hi' (by omega)]
      have fin : ∀ (b : Bool), (Lib.cut ws[i] [120]).2.2 = b → (((Says C5 23 [dS (Lib.cut ws[i] [120]).1] [.val (.bool true)] ∧
            ((Says C5 23 [dS (Lib.cut ws[i] [120]).2.1] [.val (.bool true)] ∧ ∃ n1 : Int, Says C5 24 [dS (Lib.cut ws[i] [120]).1] [dI n1] ∧ ∃ n2 : Int, Says C5 24 [dS (Lib.cut ws[i] [120]).2.1] [dI n2] ∧
              ∃ x', inv x' ∧ ws.length - x'.1 < ws.length - i ∧ st x' = zPR4 1 ws.length ws.length ((i + 1 : Nat) : Int) [vI n1, vI n2] (strs ws)) ∨
             (Says C5 23 [dS (Lib.cut ws[i] [120]).2.1] [.val (.bool false)] ∧ [D.nil, dI 7] = [(prs l).1, dI (prs l).2]))) ∨
          (Says C5 23 [dS (Lib.cut ws[i] [120]).1] [.val (.bool false)] ∧ [D.nil, dI 7] = [(prs l).1, dI (prs l).2]))) := by
        intro b _
        refine sayOr (conIN _) (fun ha => sayOr (conIN _) (fun hb => ?_) (fun hb => bad hi' (two2 hi' (.inr hb)))) (fun ha => bad hi' (two2 hi' (.inl ha)))
        exact ⟨_, ⟨conNO _ ha⟩, _, ⟨conNO _ hb⟩, (i + 1, [(numF 0 (Lib.cut ws[i] [120]).1, numF 0 (Lib.cut ws[i] [120]).2.1)]), ⟨(goes_step hg hi').2 _ (two1 hi' ha hb), h6, hne⟩, by show ws.length - (i + 1) < ws.length - i; omega, rfl⟩
      refine ⟨_, _, sayOr3 (cutS hi') (fun hb => fin _ hb) (fun hb => fin _ hb)⟩
    | cons p r =>
      show rPR4 _ _ (p :: r).length ws.length ws.length i (vp (p :: r)) (strs ws) _ _ _
      rw [rPR4_text]
      refine bc_dec (fun h => ?_) (fun h => ?_)
      · have hi' : i < ws.length := by omega
        have hpl : (p :: r).length = i := ho
        simp only [bc_t (show (0 : Int) ≤ (i : Int) by omega), bc_t h, Int.toNat_natCast, atS (strs_at ws i hi'), wi1 hi' (by omega),
          bc_t (Nat.lt_succ_self (p :: r).length), bc_t (show (2 * ((p :: r).length + 1) + 768) * 16 ≤ 281474976710656 by omega), bc_t (show (p :: r).length + 1 ≤ 1099511627776 by omega), bc_t (show 0 + (p :: r).length * 2 ≤ (vp (p :: r)).length by rw [vp_length]; omega), bc_t (show 0 + (p :: r).length * 2 = (vp (p :: r)).length by rw [vp_length]; omega), vp_whole]
        have fin : ∀ (b : Bool), (Lib.cut ws[i] [120]).2.2 = b → (((Says C5 23 [dS (Lib.cut ws[i] [120]).1] [.val (.bool true)] ∧
              ((Says C5 23 [dS (Lib.cut ws[i] [120]).2.1] [.val (.bool true)] ∧ ∃ n1 : Int, Says C5 24 [dS (Lib.cut ws[i] [120]).1] [dI n1] ∧ ∃ n2 : Int, Says C5 24 [dS (Lib.cut ws[i] [120]).2.1] [dI n2] ∧
                ∃ x', inv x' ∧ ws.length - x'.1 < ws.length - i ∧ st x' = zPR4 ((p :: r).length + 1) ws.length ws.length ((i + 1 : Nat) : Int) (vp (p :: r) ++ [vI n1, vI n2]) (strs ws)) ∨
               (Says C5 23 [dS (Lib.cut ws[i] [120]).2.1] [.val (.bool false)] ∧ [D.nil, dI 7] = [(prs l).1, dI (prs l).2]))) ∨
            (Says C5 23 [dS (Lib.cut ws[i] [120]).1] [.val (.bool false)] ∧ [D.nil, dI 7] = [(prs l).1, dI (prs l).2]))) := by
          intro b _
          refine sayOr (conIN _) (fun ha => sayOr (conIN _) (fun hb => ?_) (fun hb => bad hi' (two2 hi' (.inr hb)))) (fun ha => bad hi' (two2 hi' (.inl ha)))
          refine ⟨_, ⟨conNO _ ha⟩, _, ⟨conNO _ hb⟩, (i + 1, (p :: r) ++ [(numF 0 (Lib.cut ws[i] [120]).1, numF 0 (Lib.cut ws[i] [120]).2.1)]), ⟨(goes_step hg hi').2 _ (two1 hi' ha hb), h6, hne⟩, by show ws.length - (i + 1) < ws.length - i; omega, ?_⟩
          show zPR4 ((p :: r) ++ [_]).length ws.length ws.length ((i + 1 : Nat) : Int) (vp ((p :: r) ++ [_])) (strs ws) = _
          rw [List.length_append, vp_snoc]
          rfl
        refine ⟨_, _, sayOr3 (cutS hi') (fun hb => fin _ hb) (fun hb => fin _ hb)⟩
      · have hil : i = ws.length := by omega
        subst hil
        have hz := goes_end hg
        rw [hz] at hp
        show nPR5 _ _ (p :: r).length (vp (p :: r)) _
        rw [nPR5_text]
        simp only [vp_whole]
        refine bc_yes (by rw [vp_length]; omega) ⟨_, _, ⟨conCR (p :: r)⟩, ?_⟩
        refine bc_bne (fun hc => ?_) (fun hc => ?_)
        · rw [hp]; unfold afterW; simp only; rw [if_neg hc]
        · rw [hp]; unfold afterW; simp only; rw [if_pos hc]
          first | rfl | exact ⟨⟨trivial, by rw [vp_length]⟩, rfl⟩
end Go.Proofs.G5s
