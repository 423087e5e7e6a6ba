/- What is left to show of each function, written out; the kernel reckons it. -/
import Derived.Test.YtnnbkhijgbmgaaaGreatDoorAbsLoop
import Derived.Test.YtnnbkhijgbmgaaaGreatDoorProg
import Derived.KernelRfl
namespace Go.Proofs.C1
open Go Go.Abs Go.Proofs
set_option maxRecDepth 100000
set_option linter.unusedVariables false
abbrev Ct := FuncId → List D → List D → Prop
abbrev hN (C : Ct) : Handler := handlerN Tryz.prog C (fun g => [6, 7, 8, 9, 10, 11, 12, 36, 37, 39, 52].contains g) 8 6
abbrev Bx := Slots → Blocks → Prop
abbrev Xx := Nat → Slots → Blocks → Prop
def g39 (C : Ct) (L : AtLoop) (s : ByteArray) (k : List D → Prop) : Prop := wpFn Tryz.prog (hN C) L 0 39 #[.string s] (heapOf []) (dataK k)
theorem g39_text (C : Ct) (L : AtLoop) (s : ByteArray) (k : List D → Prop) : g39 C L s k =
 (bcase (decide ((↑(ByteArray.size s) : Int) < 1))
 (k [(D.val (Go.Value.bool false))])
 (bcase (decide ((↑(ByteArray.size s) : Int) > 12))
 (k [(D.val (Go.Value.bool false))])
 (L 0 [(Prod.mk 0 (Go.Value.string (s))), (Prod.mk 3 (Go.Value.int Go.IntKind.i64 (0 : Int)))] []))) := by kernel_rfl
def g52 (C : Ct) (L : AtLoop) (s : ByteArray) (k : List D → Prop) : Prop := wpFn Tryz.prog (hN C) L 0 52 #[.string s] (heapOf []) (dataK k)
theorem g52_text (C : Ct) (L : AtLoop) (s : ByteArray) (k : List D → Prop) : g52 C L s k =
 (bcase ((↑(ByteArray.size s) : Int) == 0)
 (k [(D.val (Go.Value.bool false))])
 (bcase (decide ((↑(ByteArray.size s) : Int) > 12))
 (k [(D.val (Go.Value.bool false))])
 (∃ b1 : UInt8,
 ((ByteAt (s) 0 (b1)) ∧
 (bcase (decide (97 ≤ (↑(UInt8.toNat b1) : Int)))
 (bcase (decide ((↑(UInt8.toNat b1) : Int) ≤ 122))
 (L 0 [(Prod.mk 0 (Go.Value.string (s))), (Prod.mk 19 (Go.Value.int Go.IntKind.i64 ((↑(ByteArray.size s) : Int)))), (Prod.mk 20 (Go.Value.int Go.IntKind.i64 (0 : Int)))] [])
 (bcase (decide (65 ≤ (↑(UInt8.toNat b1) : Int)))
 (bcase (decide ((↑(UInt8.toNat b1) : Int) ≤ 90))
 (L 0 [(Prod.mk 0 (Go.Value.string (s))), (Prod.mk 19 (Go.Value.int Go.IntKind.i64 ((↑(ByteArray.size s) : Int)))), (Prod.mk 20 (Go.Value.int Go.IntKind.i64 (0 : Int)))] [])
 (k [(D.val (Go.Value.bool false))]))
 (k [(D.val (Go.Value.bool false))])))
 (bcase (decide (65 ≤ (↑(UInt8.toNat b1) : Int)))
 (bcase (decide ((↑(UInt8.toNat b1) : Int) ≤ 90))
 (L 0 [(Prod.mk 0 (Go.Value.string (s))), (Prod.mk 19 (Go.Value.int Go.IntKind.i64 ((↑(ByteArray.size s) : Int)))), (Prod.mk 20 (Go.Value.int Go.IntKind.i64 (0 : Int)))] [])
 (k [(D.val (Go.Value.bool false))]))
 (k [(D.val (Go.Value.bool false))]))))))) := by kernel_rfl
abbrev vSlab (s : ByteArray) (g t w l : Int) : Value := .agg #[.string s, .int .i64 g, .int .i64 t, .int .i64 w, .int .i64 l]
abbrev vOrder (s : ByteArray) (g t tol w lo hi due : Int) : Value := .agg #[.string s, .int .i64 g, .int .i64 t, .int .i64 tol, .int .i64 w, .int .i64 lo, .int .i64 hi, .int .i64 due]
def g9 (C : Ct) (L : AtLoop) (s : ByteArray) (g t w l : Int) (k : List D → Prop) : Prop := wpFn Tryz.prog (hN C) L 0 9 #[vSlab s g t w l] (heapOf []) (dataK k)
theorem g9_text (C : Ct) (L : AtLoop) (s : ByteArray) (g : Int) (t : Int) (w : Int) (l : Int) (k : List D → Prop) : g9 C L s g t w l k =
 (((Says C 39 [(D.val (Go.Value.string (s)))] [(D.val (Go.Value.bool true))]) ∧
 (bcase (decide (1 ≤ g))
 (bcase (decide (g ≤ 99))
 (bcase (decide (1 ≤ t))
 (bcase (decide (t ≤ 300000))
 (bcase (decide (500 ≤ w))
 (bcase (decide (w ≤ 2500))
 (bcase (decide (1 ≤ l))
 (bcase (decide (l ≤ 20000))
 (k [(D.val (Go.Value.int Go.IntKind.i64 (0 : Int)))])
 (k [(D.val (Go.Value.int Go.IntKind.i64 (2 : Int)))]))
 (k [(D.val (Go.Value.int Go.IntKind.i64 (2 : Int)))]))
 (k [(D.val (Go.Value.int Go.IntKind.i64 (2 : Int)))]))
 (k [(D.val (Go.Value.int Go.IntKind.i64 (2 : Int)))]))
 (k [(D.val (Go.Value.int Go.IntKind.i64 (2 : Int)))]))
 (k [(D.val (Go.Value.int Go.IntKind.i64 (2 : Int)))]))
 (k [(D.val (Go.Value.int Go.IntKind.i64 (2 : Int)))]))
 (k [(D.val (Go.Value.int Go.IntKind.i64 (2 : Int)))]))) ∨
 ((Says C 39 [(D.val (Go.Value.string (s)))] [(D.val (Go.Value.bool false))]) ∧
 (k [(D.val (Go.Value.int Go.IntKind.i64 (4 : Int)))]))) := by kernel_rfl
def g36 (C : Ct) (L : AtLoop) (s : ByteArray) (g t w l : Int) (k : List D → Prop) : Prop := wpFn Tryz.prog (hN C) L 0 36 #[vSlab s g t w l] (heapOf []) (dataK k)
theorem g36_text (C : Ct) (L : AtLoop) (s : ByteArray) (g : Int) (t : Int) (w : Int) (l : Int) (k : List D → Prop) : g36 C L s g t w l k =
 (((Says C 52 [(D.val (Go.Value.string (s)))] [(D.val (Go.Value.bool true))]) ∧
 (bcase (decide (g < 1))
 (k [(D.val (Go.Value.int Go.IntKind.i64 (2 : Int)))])
 (bcase (decide (g > 99))
 (k [(D.val (Go.Value.int Go.IntKind.i64 (2 : Int)))])
 (bcase (decide (t < 1))
 (k [(D.val (Go.Value.int Go.IntKind.i64 (2 : Int)))])
 (bcase (decide (t > 300000))
 (k [(D.val (Go.Value.int Go.IntKind.i64 (2 : Int)))])
 (bcase (decide (w < 500))
 (k [(D.val (Go.Value.int Go.IntKind.i64 (2 : Int)))])
 (bcase (decide (w > 2500))
 (k [(D.val (Go.Value.int Go.IntKind.i64 (2 : Int)))])
 (bcase (decide (l < 1))
 (k [(D.val (Go.Value.int Go.IntKind.i64 (2 : Int)))])
 (bcase (decide (l > 20000))
 (k [(D.val (Go.Value.int Go.IntKind.i64 (2 : Int)))])
 (k [(D.val (Go.Value.int Go.IntKind.i64 (0 : Int)))])))))))))) ∨
 ((Says C 52 [(D.val (Go.Value.string (s)))] [(D.val (Go.Value.bool false))]) ∧
 (k [(D.val (Go.Value.int Go.IntKind.i64 (4 : Int)))]))) := by kernel_rfl
def g11 (C : Ct) (L : AtLoop) (s : ByteArray) (g t w l : Int) (s' : ByteArray) (g' t' tol w' lo hi due : Int) (k : List D → Prop) : Prop := wpFn Tryz.prog (hN C) L 0 11 #[vSlab s g t w l, vOrder s' g' t' tol w' lo hi due] (heapOf []) (dataK k)
theorem g11_text (C : Ct) (L : AtLoop) (s : ByteArray) (g : Int) (t : Int) (w : Int) (l : Int) (s' : ByteArray) (g' : Int) (t' : Int) (tol : Int) (w' : Int) (lo : Int) (hi : Int) (due : Int) (k : List D → Prop) : g11 C L s g t w l s' g' t' tol w' lo hi due k =
 (bcase (g == g')
 (bcase (decide (0 ≤ Go.IntKind.wrap Go.IntKind.i64 (w - w')))
 (bcase (decide (Go.IntKind.wrap Go.IntKind.i64 (w - w') ≤ 100))
 (k [(D.val (Go.Value.bool true))])
 (k [(D.val (Go.Value.bool false))]))
 (k [(D.val (Go.Value.bool false))]))
 (k [(D.val (Go.Value.bool false))])) := by kernel_rfl
def g12 (C : Ct) (L : AtLoop) (s : ByteArray) (g t w l : Int) (s' : ByteArray) (g' t' tol w' lo hi due : Int) (k : List D → Prop) : Prop := wpFn Tryz.prog (hN C) L 0 12 #[vSlab s g t w l, vOrder s' g' t' tol w' lo hi due] (heapOf []) (dataK k)
theorem g12_text (C : Ct) (L : AtLoop) (s : ByteArray) (g : Int) (t : Int) (w : Int) (l : Int) (s' : ByteArray) (g' : Int) (t' : Int) (tol : Int) (w' : Int) (lo : Int) (hi : Int) (due : Int) (k : List D → Prop) : g12 C L s g t w l s' g' t' tol w' lo hi due k =
 ((((Go.Value.int Go.IntKind.i64 (Go.IntKind.wrap Go.IntKind.i64 (Go.IntKind.wrap Go.IntKind.i64 (t' - tol) * w'))) = (Go.Value.int Go.IntKind.i64 (Go.IntKind.wrap Go.IntKind.i64 (Go.IntKind.wrap Go.IntKind.i64 (t' - tol) * w')))) ∧
 (((Go.Value.int Go.IntKind.i64 (w')) = (Go.Value.int Go.IntKind.i64 (w'))) ∧
 (((Go.Value.pointer (Option.some (Go.Addr.mk 1001 4 Option.none))) = (Go.Value.pointer (Option.some (Go.Addr.mk 1001 4 Option.none)))) ∧
 (((Go.Value.int Go.IntKind.i64 (Go.IntKind.wrap Go.IntKind.i64 (t' - tol))) = (Go.Value.int Go.IntKind.i64 (Go.IntKind.wrap Go.IntKind.i64 (t' - tol)))) ∧
 (((Go.Value.int Go.IntKind.i64 (tol)) = (Go.Value.int Go.IntKind.i64 (tol))) ∧
 (((Go.Value.pointer (Option.some (Go.Addr.mk 1001 3 Option.none))) = (Go.Value.pointer (Option.some (Go.Addr.mk 1001 3 Option.none)))) ∧
 (((Go.Value.int Go.IntKind.i64 (t')) = (Go.Value.int Go.IntKind.i64 (t'))) ∧
 (((Go.Value.pointer (Option.some (Go.Addr.mk 1001 2 Option.none))) = (Go.Value.pointer (Option.some (Go.Addr.mk 1001 2 Option.none)))) ∧
 (((Go.Value.int Go.IntKind.i64 (Go.IntKind.wrap Go.IntKind.i64 (Go.IntKind.wrap Go.IntKind.i64 (t * w) * l))) = (Go.Value.int Go.IntKind.i64 (Go.IntKind.wrap Go.IntKind.i64 (Go.IntKind.wrap Go.IntKind.i64 (t * w) * l)))) ∧
 (((Go.Value.int Go.IntKind.i64 (Go.IntKind.wrap Go.IntKind.i64 (Go.IntKind.wrap Go.IntKind.i64 (t' + tol) * w'))) = (Go.Value.int Go.IntKind.i64 (Go.IntKind.wrap Go.IntKind.i64 (Go.IntKind.wrap Go.IntKind.i64 (t' + tol) * w')))) ∧
 (((Go.Value.int Go.IntKind.i64 (w')) = (Go.Value.int Go.IntKind.i64 (w'))) ∧
 (((Go.Value.pointer (Option.some (Go.Addr.mk 1001 4 Option.none))) = (Go.Value.pointer (Option.some (Go.Addr.mk 1001 4 Option.none)))) ∧
 (((Go.Value.int Go.IntKind.i64 (Go.IntKind.wrap Go.IntKind.i64 (t' + tol))) = (Go.Value.int Go.IntKind.i64 (Go.IntKind.wrap Go.IntKind.i64 (t' + tol)))) ∧
 (((Go.Value.int Go.IntKind.i64 (tol)) = (Go.Value.int Go.IntKind.i64 (tol))) ∧
 (((Go.Value.pointer (Option.some (Go.Addr.mk 1001 3 Option.none))) = (Go.Value.pointer (Option.some (Go.Addr.mk 1001 3 Option.none)))) ∧
 (((Go.Value.int Go.IntKind.i64 (t')) = (Go.Value.int Go.IntKind.i64 (t'))) ∧
 (((Go.Value.pointer (Option.some (Go.Addr.mk 1001 2 Option.none))) = (Go.Value.pointer (Option.some (Go.Addr.mk 1001 2 Option.none)))) ∧
 (((Go.Value.int Go.IntKind.i64 (Go.IntKind.wrap Go.IntKind.i64 (Go.IntKind.wrap Go.IntKind.i64 (t * w) * l))) = (Go.Value.int Go.IntKind.i64 (Go.IntKind.wrap Go.IntKind.i64 (Go.IntKind.wrap Go.IntKind.i64 (t * w) * l)))) ∧
 True)))))))))))))))))) ∧
 (bcase (Go.IntKind.wrap Go.IntKind.i64 (Go.IntKind.wrap Go.IntKind.i64 (t' + tol) * w') != 0)
 (bcase (Go.IntKind.wrap Go.IntKind.i64 (Go.IntKind.wrap Go.IntKind.i64 (t' + tol) * w') != 0)
 (bcase (decide (Int.tmod (Go.IntKind.wrap Go.IntKind.i64 (Go.IntKind.wrap Go.IntKind.i64 (t * w) * l)) (Go.IntKind.wrap Go.IntKind.i64 (Go.IntKind.wrap Go.IntKind.i64 (t' + tol) * w')) < 0))
 ((((Go.Value.int Go.IntKind.i64 (Go.IntKind.wrap Go.IntKind.i64 (Go.IntKind.wrap Go.IntKind.i64 (t' - tol) * w'))) = (Go.Value.int Go.IntKind.i64 (Go.IntKind.wrap Go.IntKind.i64 (Go.IntKind.wrap Go.IntKind.i64 (t' - tol) * w')))) ∧
 (((Go.Value.int Go.IntKind.i64 (w')) = (Go.Value.int Go.IntKind.i64 (w'))) ∧
 (((Go.Value.pointer (Option.some (Go.Addr.mk 1001 4 Option.none))) = (Go.Value.pointer (Option.some (Go.Addr.mk 1001 4 Option.none)))) ∧
 (((Go.Value.int Go.IntKind.i64 (Go.IntKind.wrap Go.IntKind.i64 (t' - tol))) = (Go.Value.int Go.IntKind.i64 (Go.IntKind.wrap Go.IntKind.i64 (t' - tol)))) ∧
 (((Go.Value.int Go.IntKind.i64 (tol)) = (Go.Value.int Go.IntKind.i64 (tol))) ∧
 (((Go.Value.pointer (Option.some (Go.Addr.mk 1001 3 Option.none))) = (Go.Value.pointer (Option.some (Go.Addr.mk 1001 3 Option.none)))) ∧
 (((Go.Value.int Go.IntKind.i64 (t')) = (Go.Value.int Go.IntKind.i64 (t'))) ∧
 (((Go.Value.pointer (Option.some (Go.Addr.mk 1001 2 Option.none))) = (Go.Value.pointer (Option.some (Go.Addr.mk 1001 2 Option.none)))) ∧
 (((Go.Value.int Go.IntKind.i64 (Go.IntKind.wrap Go.IntKind.i64 (Go.IntKind.wrap Go.IntKind.i64 (t * w) * l))) = (Go.Value.int Go.IntKind.i64 (Go.IntKind.wrap Go.IntKind.i64 (Go.IntKind.wrap Go.IntKind.i64 (t * w) * l)))) ∧
 (((Go.Value.int Go.IntKind.i64 (w')) = (Go.Value.int Go.IntKind.i64 (w'))) ∧
 (((Go.Value.pointer (Option.some (Go.Addr.mk 1001 4 Option.none))) = (Go.Value.pointer (Option.some (Go.Addr.mk 1001 4 Option.none)))) ∧
 (((Go.Value.int Go.IntKind.i64 (Go.IntKind.wrap Go.IntKind.i64 (t' + tol))) = (Go.Value.int Go.IntKind.i64 (Go.IntKind.wrap Go.IntKind.i64 (t' + tol)))) ∧
 (((Go.Value.int Go.IntKind.i64 (tol)) = (Go.Value.int Go.IntKind.i64 (tol))) ∧
 (((Go.Value.pointer (Option.some (Go.Addr.mk 1001 3 Option.none))) = (Go.Value.pointer (Option.some (Go.Addr.mk 1001 3 Option.none)))) ∧
 (((Go.Value.int Go.IntKind.i64 (t')) = (Go.Value.int Go.IntKind.i64 (t'))) ∧
 (((Go.Value.pointer (Option.some (Go.Addr.mk 1001 2 Option.none))) = (Go.Value.pointer (Option.some (Go.Addr.mk 1001 2 Option.none)))) ∧
 True)))))))))))))))) ∧
 (bcase (Go.IntKind.wrap Go.IntKind.i64 (Go.IntKind.wrap Go.IntKind.i64 (t' - tol) * w') != 0)
 (bcase (Go.IntKind.wrap Go.IntKind.i64 (Go.IntKind.wrap Go.IntKind.i64 (t' - tol) * w') != 0)
 (bcase (decide (Int.tmod (Go.IntKind.wrap Go.IntKind.i64 (0 - Go.IntKind.wrap Go.IntKind.i64 (Go.IntKind.wrap Go.IntKind.i64 (t * w) * l))) (Go.IntKind.wrap Go.IntKind.i64 (Go.IntKind.wrap Go.IntKind.i64 (t' - tol) * w')) < 0))
 ((((Go.Value.agg [(Go.Value.int Go.IntKind.i64 (Go.IntKind.wrap Go.IntKind.i64 (Go.IntKind.wrap Go.IntKind.i64 (Int.tdiv (Go.IntKind.wrap Go.IntKind.i64 (Go.IntKind.wrap Go.IntKind.i64 (t * w) * l)) (Go.IntKind.wrap Go.IntKind.i64 (Go.IntKind.wrap Go.IntKind.i64 (t' + tol) * w'))) - 1))), (Go.Value.int Go.IntKind.i64 (Go.IntKind.wrap Go.IntKind.i64 (0 - Go.IntKind.wrap Go.IntKind.i64 (Go.IntKind.wrap Go.IntKind.i64 (Int.tdiv (Go.IntKind.wrap Go.IntKind.i64 (0 - Go.IntKind.wrap Go.IntKind.i64 (Go.IntKind.wrap Go.IntKind.i64 (t * w) * l))) (Go.IntKind.wrap Go.IntKind.i64 (Go.IntKind.wrap Go.IntKind.i64 (t' - tol) * w'))) - 1))))].toArray) = (Go.Value.agg [(Go.Value.int Go.IntKind.i64 (Go.IntKind.wrap Go.IntKind.i64 (Go.IntKind.wrap Go.IntKind.i64 (Int.tdiv (Go.IntKind.wrap Go.IntKind.i64 (Go.IntKind.wrap Go.IntKind.i64 (t * w) * l)) (Go.IntKind.wrap Go.IntKind.i64 (Go.IntKind.wrap Go.IntKind.i64 (t' + tol) * w'))) - 1))), (Go.Value.int Go.IntKind.i64 (Go.IntKind.wrap Go.IntKind.i64 (0 - Go.IntKind.wrap Go.IntKind.i64 (Go.IntKind.wrap Go.IntKind.i64 (Int.tdiv (Go.IntKind.wrap Go.IntKind.i64 (0 - Go.IntKind.wrap Go.IntKind.i64 (Go.IntKind.wrap Go.IntKind.i64 (t * w) * l))) (Go.IntKind.wrap Go.IntKind.i64 (Go.IntKind.wrap Go.IntKind.i64 (t' - tol) * w'))) - 1))))].toArray)) ∧
 (((Go.Value.int Go.IntKind.i64 (w')) = (Go.Value.int Go.IntKind.i64 (w'))) ∧
 (((Go.Value.pointer (Option.some (Go.Addr.mk 1001 4 Option.none))) = (Go.Value.pointer (Option.some (Go.Addr.mk 1001 4 Option.none)))) ∧
 (((Go.Value.int Go.IntKind.i64 (Go.IntKind.wrap Go.IntKind.i64 (t' - tol))) = (Go.Value.int Go.IntKind.i64 (Go.IntKind.wrap Go.IntKind.i64 (t' - tol)))) ∧
 (((Go.Value.int Go.IntKind.i64 (tol)) = (Go.Value.int Go.IntKind.i64 (tol))) ∧
 (((Go.Value.pointer (Option.some (Go.Addr.mk 1001 3 Option.none))) = (Go.Value.pointer (Option.some (Go.Addr.mk 1001 3 Option.none)))) ∧
 (((Go.Value.int Go.IntKind.i64 (t')) = (Go.Value.int Go.IntKind.i64 (t'))) ∧
 (((Go.Value.pointer (Option.some (Go.Addr.mk 1001 2 Option.none))) = (Go.Value.pointer (Option.some (Go.Addr.mk 1001 2 Option.none)))) ∧
 (((Go.Value.int Go.IntKind.i64 (w')) = (Go.Value.int Go.IntKind.i64 (w'))) ∧
 (((Go.Value.pointer (Option.some (Go.Addr.mk 1001 4 Option.none))) = (Go.Value.pointer (Option.some (Go.Addr.mk 1001 4 Option.none)))) ∧
 (((Go.Value.int Go.IntKind.i64 (Go.IntKind.wrap Go.IntKind.i64 (t' + tol))) = (Go.Value.int Go.IntKind.i64 (Go.IntKind.wrap Go.IntKind.i64 (t' + tol)))) ∧
 (((Go.Value.int Go.IntKind.i64 (tol)) = (Go.Value.int Go.IntKind.i64 (tol))) ∧
 (((Go.Value.pointer (Option.some (Go.Addr.mk 1001 3 Option.none))) = (Go.Value.pointer (Option.some (Go.Addr.mk 1001 3 Option.none)))) ∧
 (((Go.Value.int Go.IntKind.i64 (t')) = (Go.Value.int Go.IntKind.i64 (t'))) ∧
 (((Go.Value.pointer (Option.some (Go.Addr.mk 1001 2 Option.none))) = (Go.Value.pointer (Option.some (Go.Addr.mk 1001 2 Option.none)))) ∧
 True))))))))))))))) ∧
 (True ∧
 (k [(D.agg [(D.val (Go.Value.int Go.IntKind.i64 (Go.IntKind.wrap Go.IntKind.i64 (Go.IntKind.wrap Go.IntKind.i64 (Int.tdiv (Go.IntKind.wrap Go.IntKind.i64 (Go.IntKind.wrap Go.IntKind.i64 (t * w) * l)) (Go.IntKind.wrap Go.IntKind.i64 (Go.IntKind.wrap Go.IntKind.i64 (t' + tol) * w'))) - 1)))), (D.val (Go.Value.int Go.IntKind.i64 (Go.IntKind.wrap Go.IntKind.i64 (0 - Go.IntKind.wrap Go.IntKind.i64 (Go.IntKind.wrap Go.IntKind.i64 (Int.tdiv (Go.IntKind.wrap Go.IntKind.i64 (0 - Go.IntKind.wrap Go.IntKind.i64 (Go.IntKind.wrap Go.IntKind.i64 (t * w) * l))) (Go.IntKind.wrap Go.IntKind.i64 (Go.IntKind.wrap Go.IntKind.i64 (t' - tol) * w'))) - 1)))))])])))
 ((((Go.Value.agg [(Go.Value.int Go.IntKind.i64 (Go.IntKind.wrap Go.IntKind.i64 (Go.IntKind.wrap Go.IntKind.i64 (Int.tdiv (Go.IntKind.wrap Go.IntKind.i64 (Go.IntKind.wrap Go.IntKind.i64 (t * w) * l)) (Go.IntKind.wrap Go.IntKind.i64 (Go.IntKind.wrap Go.IntKind.i64 (t' + tol) * w'))) - 1))), (Go.Value.int Go.IntKind.i64 (Go.IntKind.wrap Go.IntKind.i64 (0 - Go.IntKind.wrap Go.IntKind.i64 (Int.tdiv (Go.IntKind.wrap Go.IntKind.i64 (0 - Go.IntKind.wrap Go.IntKind.i64 (Go.IntKind.wrap Go.IntKind.i64 (t * w) * l))) (Go.IntKind.wrap Go.IntKind.i64 (Go.IntKind.wrap Go.IntKind.i64 (t' - tol) * w'))))))].toArray) = (Go.Value.agg [(Go.Value.int Go.IntKind.i64 (Go.IntKind.wrap Go.IntKind.i64 (Go.IntKind.wrap Go.IntKind.i64 (Int.tdiv (Go.IntKind.wrap Go.IntKind.i64 (Go.IntKind.wrap Go.IntKind.i64 (t * w) * l)) (Go.IntKind.wrap Go.IntKind.i64 (Go.IntKind.wrap Go.IntKind.i64 (t' + tol) * w'))) - 1))), (Go.Value.int Go.IntKind.i64 (Go.IntKind.wrap Go.IntKind.i64 (0 - Go.IntKind.wrap Go.IntKind.i64 (Int.tdiv (Go.IntKind.wrap Go.IntKind.i64 (0 - Go.IntKind.wrap Go.IntKind.i64 (Go.IntKind.wrap Go.IntKind.i64 (t * w) * l))) (Go.IntKind.wrap Go.IntKind.i64 (Go.IntKind.wrap Go.IntKind.i64 (t' - tol) * w'))))))].toArray)) ∧
 (((Go.Value.int Go.IntKind.i64 (w')) = (Go.Value.int Go.IntKind.i64 (w'))) ∧
 (((Go.Value.pointer (Option.some (Go.Addr.mk 1001 4 Option.none))) = (Go.Value.pointer (Option.some (Go.Addr.mk 1001 4 Option.none)))) ∧
 (((Go.Value.int Go.IntKind.i64 (Go.IntKind.wrap Go.IntKind.i64 (t' - tol))) = (Go.Value.int Go.IntKind.i64 (Go.IntKind.wrap Go.IntKind.i64 (t' - tol)))) ∧
 (((Go.Value.int Go.IntKind.i64 (tol)) = (Go.Value.int Go.IntKind.i64 (tol))) ∧
 (((Go.Value.pointer (Option.some (Go.Addr.mk 1001 3 Option.none))) = (Go.Value.pointer (Option.some (Go.Addr.mk 1001 3 Option.none)))) ∧
 (((Go.Value.int Go.IntKind.i64 (t')) = (Go.Value.int Go.IntKind.i64 (t'))) ∧
 (((Go.Value.pointer (Option.some (Go.Addr.mk 1001 2 Option.none))) = (Go.Value.pointer (Option.some (Go.Addr.mk 1001 2 Option.none)))) ∧
 (((Go.Value.int Go.IntKind.i64 (w')) = (Go.Value.int Go.IntKind.i64 (w'))) ∧
 (((Go.Value.pointer (Option.some (Go.Addr.mk 1001 4 Option.none))) = (Go.Value.pointer (Option.some (Go.Addr.mk 1001 4 Option.none)))) ∧
 (((Go.Value.int Go.IntKind.i64 (Go.IntKind.wrap Go.IntKind.i64 (t' + tol))) = (Go.Value.int Go.IntKind.i64 (Go.IntKind.wrap Go.IntKind.i64 (t' + tol)))) ∧
 (((Go.Value.int Go.IntKind.i64 (tol)) = (Go.Value.int Go.IntKind.i64 (tol))) ∧
 (((Go.Value.pointer (Option.some (Go.Addr.mk 1001 3 Option.none))) = (Go.Value.pointer (Option.some (Go.Addr.mk 1001 3 Option.none)))) ∧
 (((Go.Value.int Go.IntKind.i64 (t')) = (Go.Value.int Go.IntKind.i64 (t'))) ∧
 (((Go.Value.pointer (Option.some (Go.Addr.mk 1001 2 Option.none))) = (Go.Value.pointer (Option.some (Go.Addr.mk 1001 2 Option.none)))) ∧
 True))))))))))))))) ∧
 (True ∧
 (k [(D.agg [(D.val (Go.Value.int Go.IntKind.i64 (Go.IntKind.wrap Go.IntKind.i64 (Go.IntKind.wrap Go.IntKind.i64 (Int.tdiv (Go.IntKind.wrap Go.IntKind.i64 (Go.IntKind.wrap Go.IntKind.i64 (t * w) * l)) (Go.IntKind.wrap Go.IntKind.i64 (Go.IntKind.wrap Go.IntKind.i64 (t' + tol) * w'))) - 1)))), (D.val (Go.Value.int Go.IntKind.i64 (Go.IntKind.wrap Go.IntKind.i64 (0 - Go.IntKind.wrap Go.IntKind.i64 (Int.tdiv (Go.IntKind.wrap Go.IntKind.i64 (0 - Go.IntKind.wrap Go.IntKind.i64 (Go.IntKind.wrap Go.IntKind.i64 (t * w) * l))) (Go.IntKind.wrap Go.IntKind.i64 (Go.IntKind.wrap Go.IntKind.i64 (t' - tol) * w')))))))])]))))
 False)
 False))
 ((((Go.Value.int Go.IntKind.i64 (Go.IntKind.wrap Go.IntKind.i64 (Go.IntKind.wrap Go.IntKind.i64 (t' - tol) * w'))) = (Go.Value.int Go.IntKind.i64 (Go.IntKind.wrap Go.IntKind.i64 (Go.IntKind.wrap Go.IntKind.i64 (t' - tol) * w')))) ∧
 (((Go.Value.int Go.IntKind.i64 (w')) = (Go.Value.int Go.IntKind.i64 (w'))) ∧
 (((Go.Value.pointer (Option.some (Go.Addr.mk 1001 4 Option.none))) = (Go.Value.pointer (Option.some (Go.Addr.mk 1001 4 Option.none)))) ∧
 (((Go.Value.int Go.IntKind.i64 (Go.IntKind.wrap Go.IntKind.i64 (t' - tol))) = (Go.Value.int Go.IntKind.i64 (Go.IntKind.wrap Go.IntKind.i64 (t' - tol)))) ∧
 (((Go.Value.int Go.IntKind.i64 (tol)) = (Go.Value.int Go.IntKind.i64 (tol))) ∧
 (((Go.Value.pointer (Option.some (Go.Addr.mk 1001 3 Option.none))) = (Go.Value.pointer (Option.some (Go.Addr.mk 1001 3 Option.none)))) ∧
 (((Go.Value.int Go.IntKind.i64 (t')) = (Go.Value.int Go.IntKind.i64 (t'))) ∧
 (((Go.Value.pointer (Option.some (Go.Addr.mk 1001 2 Option.none))) = (Go.Value.pointer (Option.some (Go.Addr.mk 1001 2 Option.none)))) ∧
 (((Go.Value.int Go.IntKind.i64 (Go.IntKind.wrap Go.IntKind.i64 (Go.IntKind.wrap Go.IntKind.i64 (t * w) * l))) = (Go.Value.int Go.IntKind.i64 (Go.IntKind.wrap Go.IntKind.i64 (Go.IntKind.wrap Go.IntKind.i64 (t * w) * l)))) ∧
 (((Go.Value.int Go.IntKind.i64 (w')) = (Go.Value.int Go.IntKind.i64 (w'))) ∧
 (((Go.Value.pointer (Option.some (Go.Addr.mk 1001 4 Option.none))) = (Go.Value.pointer (Option.some (Go.Addr.mk 1001 4 Option.none)))) ∧
 (((Go.Value.int Go.IntKind.i64 (Go.IntKind.wrap Go.IntKind.i64 (t' + tol))) = (Go.Value.int Go.IntKind.i64 (Go.IntKind.wrap Go.IntKind.i64 (t' + tol)))) ∧
 (((Go.Value.int Go.IntKind.i64 (tol)) = (Go.Value.int Go.IntKind.i64 (tol))) ∧
 (((Go.Value.pointer (Option.some (Go.Addr.mk 1001 3 Option.none))) = (Go.Value.pointer (Option.some (Go.Addr.mk 1001 3 Option.none)))) ∧
 (((Go.Value.int Go.IntKind.i64 (t')) = (Go.Value.int Go.IntKind.i64 (t'))) ∧
 (((Go.Value.pointer (Option.some (Go.Addr.mk 1001 2 Option.none))) = (Go.Value.pointer (Option.some (Go.Addr.mk 1001 2 Option.none)))) ∧
 True)))))))))))))))) ∧
 (bcase (Go.IntKind.wrap Go.IntKind.i64 (Go.IntKind.wrap Go.IntKind.i64 (t' - tol) * w') != 0)
 (bcase (Go.IntKind.wrap Go.IntKind.i64 (Go.IntKind.wrap Go.IntKind.i64 (t' - tol) * w') != 0)
 (bcase (decide (Int.tmod (Go.IntKind.wrap Go.IntKind.i64 (0 - Go.IntKind.wrap Go.IntKind.i64 (Go.IntKind.wrap Go.IntKind.i64 (t * w) * l))) (Go.IntKind.wrap Go.IntKind.i64 (Go.IntKind.wrap Go.IntKind.i64 (t' - tol) * w')) < 0))
 ((((Go.Value.agg [(Go.Value.int Go.IntKind.i64 (Go.IntKind.wrap Go.IntKind.i64 (Int.tdiv (Go.IntKind.wrap Go.IntKind.i64 (Go.IntKind.wrap Go.IntKind.i64 (t * w) * l)) (Go.IntKind.wrap Go.IntKind.i64 (Go.IntKind.wrap Go.IntKind.i64 (t' + tol) * w'))))), (Go.Value.int Go.IntKind.i64 (Go.IntKind.wrap Go.IntKind.i64 (0 - Go.IntKind.wrap Go.IntKind.i64 (Go.IntKind.wrap Go.IntKind.i64 (Int.tdiv (Go.IntKind.wrap Go.IntKind.i64 (0 - Go.IntKind.wrap Go.IntKind.i64 (Go.IntKind.wrap Go.IntKind.i64 (t * w) * l))) (Go.IntKind.wrap Go.IntKind.i64 (Go.IntKind.wrap Go.IntKind.i64 (t' - tol) * w'))) - 1))))].toArray) = (Go.Value.agg [(Go.Value.int Go.IntKind.i64 (Go.IntKind.wrap Go.IntKind.i64 (Int.tdiv (Go.IntKind.wrap Go.IntKind.i64 (Go.IntKind.wrap Go.IntKind.i64 (t * w) * l)) (Go.IntKind.wrap Go.IntKind.i64 (Go.IntKind.wrap Go.IntKind.i64 (t' + tol) * w'))))), (Go.Value.int Go.IntKind.i64 (Go.IntKind.wrap Go.IntKind.i64 (0 - Go.IntKind.wrap Go.IntKind.i64 (Go.IntKind.wrap Go.IntKind.i64 (Int.tdiv (Go.IntKind.wrap Go.IntKind.i64 (0 - Go.IntKind.wrap Go.IntKind.i64 (Go.IntKind.wrap Go.IntKind.i64 (t * w) * l))) (Go.IntKind.wrap Go.IntKind.i64 (Go.IntKind.wrap Go.IntKind.i64 (t' - tol) * w'))) - 1))))].toArray)) ∧
 (((Go.Value.int Go.IntKind.i64 (w')) = (Go.Value.int Go.IntKind.i64 (w'))) ∧
 (((Go.Value.pointer (Option.some (Go.Addr.mk 1001 4 Option.none))) = (Go.Value.pointer (Option.some (Go.Addr.mk 1001 4 Option.none)))) ∧
 (((Go.Value.int Go.IntKind.i64 (Go.IntKind.wrap Go.IntKind.i64 (t' - tol))) = (Go.Value.int Go.IntKind.i64 (Go.IntKind.wrap Go.IntKind.i64 (t' - tol)))) ∧
 (((Go.Value.int Go.IntKind.i64 (tol)) = (Go.Value.int Go.IntKind.i64 (tol))) ∧
 (((Go.Value.pointer (Option.some (Go.Addr.mk 1001 3 Option.none))) = (Go.Value.pointer (Option.some (Go.Addr.mk 1001 3 Option.none)))) ∧
 (((Go.Value.int Go.IntKind.i64 (t')) = (Go.Value.int Go.IntKind.i64 (t'))) ∧
 (((Go.Value.pointer (Option.some (Go.Addr.mk 1001 2 Option.none))) = (Go.Value.pointer (Option.some (Go.Addr.mk 1001 2 Option.none)))) ∧
 (((Go.Value.int Go.IntKind.i64 (w')) = (Go.Value.int Go.IntKind.i64 (w'))) ∧
 (((Go.Value.pointer (Option.some (Go.Addr.mk 1001 4 Option.none))) = (Go.Value.pointer (Option.some (Go.Addr.mk 1001 4 Option.none)))) ∧
 (((Go.Value.int Go.IntKind.i64 (Go.IntKind.wrap Go.IntKind.i64 (t' + tol))) = (Go.Value.int Go.IntKind.i64 (Go.IntKind.wrap Go.IntKind.i64 (t' + tol)))) ∧
 (((Go.Value.int Go.IntKind.i64 (tol)) = (Go.Value.int Go.IntKind.i64 (tol))) ∧
 (((Go.Value.pointer (Option.some (Go.Addr.mk 1001 3 Option.none))) = (Go.Value.pointer (Option.some (Go.Addr.mk 1001 3 Option.none)))) ∧
 (((Go.Value.int Go.IntKind.i64 (t')) = (Go.Value.int Go.IntKind.i64 (t'))) ∧
 (((Go.Value.pointer (Option.some (Go.Addr.mk 1001 2 Option.none))) = (Go.Value.pointer (Option.some (Go.Addr.mk 1001 2 Option.none)))) ∧
 True))))))))))))))) ∧
 (True ∧
 (k [(D.agg [(D.val (Go.Value.int Go.IntKind.i64 (Go.IntKind.wrap Go.IntKind.i64 (Int.tdiv (Go.IntKind.wrap Go.IntKind.i64 (Go.IntKind.wrap Go.IntKind.i64 (t * w) * l)) (Go.IntKind.wrap Go.IntKind.i64 (Go.IntKind.wrap Go.IntKind.i64 (t' + tol) * w')))))), (D.val (Go.Value.int Go.IntKind.i64 (Go.IntKind.wrap Go.IntKind.i64 (0 - Go.IntKind.wrap Go.IntKind.i64 (Go.IntKind.wrap Go.IntKind.i64 (Int.tdiv (Go.IntKind.wrap Go.IntKind.i64 (0 - Go.IntKind.wrap Go.IntKind.i64 (Go.IntKind.wrap Go.IntKind.i64 (t * w) * l))) (Go.IntKind.wrap Go.IntKind.i64 (Go.IntKind.wrap Go.IntKind.i64 (t' - tol) * w'))) - 1)))))])])))
 ((((Go.Value.agg [(Go.Value.int Go.IntKind.i64 (Go.IntKind.wrap Go.IntKind.i64 (Int.tdiv (Go.IntKind.wrap Go.IntKind.i64 (Go.IntKind.wrap Go.IntKind.i64 (t * w) * l)) (Go.IntKind.wrap Go.IntKind.i64 (Go.IntKind.wrap Go.IntKind.i64 (t' + tol) * w'))))), (Go.Value.int Go.IntKind.i64 (Go.IntKind.wrap Go.IntKind.i64 (0 - Go.IntKind.wrap Go.IntKind.i64 (Int.tdiv (Go.IntKind.wrap Go.IntKind.i64 (0 - Go.IntKind.wrap Go.IntKind.i64 (Go.IntKind.wrap Go.IntKind.i64 (t * w) * l))) (Go.IntKind.wrap Go.IntKind.i64 (Go.IntKind.wrap Go.IntKind.i64 (t' - tol) * w'))))))].toArray) = (Go.Value.agg [(Go.Value.int Go.IntKind.i64 (Go.IntKind.wrap Go.IntKind.i64 (Int.tdiv (Go.IntKind.wrap Go.IntKind.i64 (Go.IntKind.wrap Go.IntKind.i64 (t * w) * l)) (Go.IntKind.wrap Go.IntKind.i64 (Go.IntKind.wrap Go.IntKind.i64 (t' + tol) * w'))))), (Go.Value.int Go.IntKind.i64 (Go.IntKind.wrap Go.IntKind.i64 (0 - Go.IntKind.wrap Go.IntKind.i64 (Int.tdiv (Go.IntKind.wrap Go.IntKind.i64 (0 - Go.IntKind.wrap Go.IntKind.i64 (Go.IntKind.wrap Go.IntKind.i64 (t * w) * l))) (Go.IntKind.wrap Go.IntKind.i64 (Go.IntKind.wrap Go.IntKind.i64 (t' - tol) * w'))))))].toArray)) ∧
 (((Go.Value.int Go.IntKind.i64 (w')) = (Go.Value.int Go.IntKind.i64 (w'))) ∧
 (((Go.Value.pointer (Option.some (Go.Addr.mk 1001 4 Option.none))) = (Go.Value.pointer (Option.some (Go.Addr.mk 1001 4 Option.none)))) ∧
 (((Go.Value.int Go.IntKind.i64 (Go.IntKind.wrap Go.IntKind.i64 (t' - tol))) = (Go.Value.int Go.IntKind.i64 (Go.IntKind.wrap Go.IntKind.i64 (t' - tol)))) ∧
 (((Go.Value.int Go.IntKind.i64 (tol)) = (Go.Value.int Go.IntKind.i64 (tol))) ∧
 (((Go.Value.pointer (Option.some (Go.Addr.mk 1001 3 Option.none))) = (Go.Value.pointer (Option.some (Go.Addr.mk 1001 3 Option.none)))) ∧
 (((Go.Value.int Go.IntKind.i64 (t')) = (Go.Value.int Go.IntKind.i64 (t'))) ∧
 (((Go.Value.pointer (Option.some (Go.Addr.mk 1001 2 Option.none))) = (Go.Value.pointer (Option.some (Go.Addr.mk 1001 2 Option.none)))) ∧
 (((Go.Value.int Go.IntKind.i64 (w')) = (Go.Value.int Go.IntKind.i64 (w'))) ∧
 (((Go.Value.pointer (Option.some (Go.Addr.mk 1001 4 Option.none))) = (Go.Value.pointer (Option.some (Go.Addr.mk 1001 4 Option.none)))) ∧
 (((Go.Value.int Go.IntKind.i64 (Go.IntKind.wrap Go.IntKind.i64 (t' + tol))) = (Go.Value.int Go.IntKind.i64 (Go.IntKind.wrap Go.IntKind.i64 (t' + tol)))) ∧
 (((Go.Value.int Go.IntKind.i64 (tol)) = (Go.Value.int Go.IntKind.i64 (tol))) ∧
 (((Go.Value.pointer (Option.some (Go.Addr.mk 1001 3 Option.none))) = (Go.Value.pointer (Option.some (Go.Addr.mk 1001 3 Option.none)))) ∧
 (((Go.Value.int Go.IntKind.i64 (t')) = (Go.Value.int Go.IntKind.i64 (t'))) ∧
 (((Go.Value.pointer (Option.some (Go.Addr.mk 1001 2 Option.none))) = (Go.Value.pointer (Option.some (Go.Addr.mk 1001 2 Option.none)))) ∧
 True))))))))))))))) ∧
 (True ∧
 (k [(D.agg [(D.val (Go.Value.int Go.IntKind.i64 (Go.IntKind.wrap Go.IntKind.i64 (Int.tdiv (Go.IntKind.wrap Go.IntKind.i64 (Go.IntKind.wrap Go.IntKind.i64 (t * w) * l)) (Go.IntKind.wrap Go.IntKind.i64 (Go.IntKind.wrap Go.IntKind.i64 (t' + tol) * w')))))), (D.val (Go.Value.int Go.IntKind.i64 (Go.IntKind.wrap Go.IntKind.i64 (0 - Go.IntKind.wrap Go.IntKind.i64 (Int.tdiv (Go.IntKind.wrap Go.IntKind.i64 (0 - Go.IntKind.wrap Go.IntKind.i64 (Go.IntKind.wrap Go.IntKind.i64 (t * w) * l))) (Go.IntKind.wrap Go.IntKind.i64 (Go.IntKind.wrap Go.IntKind.i64 (t' - tol) * w')))))))])]))))
 False)
 False)))
 False)
 False)) := by kernel_rfl
def s39 (s : ByteArray) (i : Int) : Slots := [(0, .string s), (3, .int .i64 i)]
def r39 (C : Ct) (L : AtLoop) (s : ByteArray) (i : Int) (B : Bx) (X : Xx) (k : List D → Prop) : Prop := wpRound Tryz.prog (hN C) L 39 0 (s39 s i) [] B X (dataK k)
theorem r39_text (C : Ct) (L : AtLoop) (s : ByteArray) (i : Int) (B : Bx) (X : Xx) (k : List D → Prop) : r39 C L s i B X k =
 (bcase (decide (i < (↑(ByteArray.size s) : Int)))
 (bcase (decide (0 ≤ i))
 (∃ b1 : UInt8,
 ((ByteAt (s) (Int.toNat i) (b1)) ∧
 (bcase (decide ((↑(UInt8.toNat b1) : Int) ≥ 97))
 (bcase (decide ((↑(UInt8.toNat b1) : Int) ≤ 122))
 (B [(Prod.mk 0 (Go.Value.string (s))), (Prod.mk 3 (Go.Value.int Go.IntKind.i64 (Go.IntKind.wrap Go.IntKind.i64 (i + 1))))] [])
 (bcase (decide ((↑(UInt8.toNat b1) : Int) ≥ 65))
 (bcase (decide ((↑(UInt8.toNat b1) : Int) ≤ 90))
 (B [(Prod.mk 0 (Go.Value.string (s))), (Prod.mk 3 (Go.Value.int Go.IntKind.i64 (Go.IntKind.wrap Go.IntKind.i64 (i + 1))))] [])
 (bcase (i == 0)
 (k [(D.val (Go.Value.bool false))])
 (bcase ((↑(UInt8.toNat b1) : Int) != 45)
 (bcase (decide ((↑(UInt8.toNat b1) : Int) < 48))
 (k [(D.val (Go.Value.bool false))])
 (bcase (decide ((↑(UInt8.toNat b1) : Int) > 57))
 (k [(D.val (Go.Value.bool false))])
 (B [(Prod.mk 0 (Go.Value.string (s))), (Prod.mk 3 (Go.Value.int Go.IntKind.i64 (Go.IntKind.wrap Go.IntKind.i64 (i + 1))))] [])))
 (B [(Prod.mk 0 (Go.Value.string (s))), (Prod.mk 3 (Go.Value.int Go.IntKind.i64 (Go.IntKind.wrap Go.IntKind.i64 (i + 1))))] []))))
 (bcase (i == 0)
 (k [(D.val (Go.Value.bool false))])
 (bcase ((↑(UInt8.toNat b1) : Int) != 45)
 (bcase (decide ((↑(UInt8.toNat b1) : Int) < 48))
 (k [(D.val (Go.Value.bool false))])
 (bcase (decide ((↑(UInt8.toNat b1) : Int) > 57))
 (k [(D.val (Go.Value.bool false))])
 (B [(Prod.mk 0 (Go.Value.string (s))), (Prod.mk 3 (Go.Value.int Go.IntKind.i64 (Go.IntKind.wrap Go.IntKind.i64 (i + 1))))] [])))
 (B [(Prod.mk 0 (Go.Value.string (s))), (Prod.mk 3 (Go.Value.int Go.IntKind.i64 (Go.IntKind.wrap Go.IntKind.i64 (i + 1))))] [])))))
 (bcase (decide ((↑(UInt8.toNat b1) : Int) ≥ 65))
 (bcase (decide ((↑(UInt8.toNat b1) : Int) ≤ 90))
 (B [(Prod.mk 0 (Go.Value.string (s))), (Prod.mk 3 (Go.Value.int Go.IntKind.i64 (Go.IntKind.wrap Go.IntKind.i64 (i + 1))))] [])
 (bcase (i == 0)
 (k [(D.val (Go.Value.bool false))])
 (bcase ((↑(UInt8.toNat b1) : Int) != 45)
 (bcase (decide ((↑(UInt8.toNat b1) : Int) < 48))
 (k [(D.val (Go.Value.bool false))])
 (bcase (decide ((↑(UInt8.toNat b1) : Int) > 57))
 (k [(D.val (Go.Value.bool false))])
 (B [(Prod.mk 0 (Go.Value.string (s))), (Prod.mk 3 (Go.Value.int Go.IntKind.i64 (Go.IntKind.wrap Go.IntKind.i64 (i + 1))))] [])))
 (B [(Prod.mk 0 (Go.Value.string (s))), (Prod.mk 3 (Go.Value.int Go.IntKind.i64 (Go.IntKind.wrap Go.IntKind.i64 (i + 1))))] []))))
 (bcase (i == 0)
 (k [(D.val (Go.Value.bool false))])
 (bcase ((↑(UInt8.toNat b1) : Int) != 45)
 (bcase (decide ((↑(UInt8.toNat b1) : Int) < 48))
 (k [(D.val (Go.Value.bool false))])
 (bcase (decide ((↑(UInt8.toNat b1) : Int) > 57))
 (k [(D.val (Go.Value.bool false))])
 (B [(Prod.mk 0 (Go.Value.string (s))), (Prod.mk 3 (Go.Value.int Go.IntKind.i64 (Go.IntKind.wrap Go.IntKind.i64 (i + 1))))] [])))
 (B [(Prod.mk 0 (Go.Value.string (s))), (Prod.mk 3 (Go.Value.int Go.IntKind.i64 (Go.IntKind.wrap Go.IntKind.i64 (i + 1))))] [])))))))
 False)
 (X 0 [] [])) := by kernel_rfl
def n39 (C : Ct) (L : AtLoop) (k : List D → Prop) : Prop := wpNext Tryz.prog (hN C) L 39 0 .normal [] [] (dataK k)
theorem n39_text (C : Ct) (L : AtLoop) (k : List D → Prop) : n39 C L k =
 (k [(D.val (Go.Value.bool true))]) := by kernel_rfl
def s52 (s : ByteArray) (n i : Int) : Slots := [(0, .string s), (19, .int .i64 n), (20, .int .i64 i)]
def r52 (C : Ct) (L : AtLoop) (s : ByteArray) (n i : Int) (B : Bx) (X : Xx) (k : List D → Prop) : Prop := wpRound Tryz.prog (hN C) L 52 0 (s52 s n i) [] B X (dataK k)
theorem r52_text (C : Ct) (L : AtLoop) (s : ByteArray) (n : Int) (i : Int) (B : Bx) (X : Xx) (k : List D → Prop) : r52 C L s n i B X k =
 (bcase (decide (i < n))
 (bcase (decide (0 ≤ i))
 (∃ b1 : UInt8,
 ((ByteAt (s) (Int.toNat i) (b1)) ∧
 (bcase (decide (97 ≤ (↑(UInt8.toNat b1) : Int)))
 (bcase (decide ((↑(UInt8.toNat b1) : Int) ≤ 122))
 (B [(Prod.mk 0 (Go.Value.string (s))), (Prod.mk 19 (Go.Value.int Go.IntKind.i64 (n))), (Prod.mk 20 (Go.Value.int Go.IntKind.i64 (Go.IntKind.wrap Go.IntKind.i64 (i + 1))))] [])
 (bcase (decide (65 ≤ (↑(UInt8.toNat b1) : Int)))
 (bcase (decide ((↑(UInt8.toNat b1) : Int) ≤ 90))
 (B [(Prod.mk 0 (Go.Value.string (s))), (Prod.mk 19 (Go.Value.int Go.IntKind.i64 (n))), (Prod.mk 20 (Go.Value.int Go.IntKind.i64 (Go.IntKind.wrap Go.IntKind.i64 (i + 1))))] [])
 (bcase (decide (0 ≤ i))
 (∃ b2 : UInt8,
 ((ByteAt (s) (Int.toNat i) (b2)) ∧
 (bcase (decide (48 ≤ (↑(UInt8.toNat b2) : Int)))
 (bcase (decide ((↑(UInt8.toNat b2) : Int) ≤ 57))
 (B [(Prod.mk 0 (Go.Value.string (s))), (Prod.mk 19 (Go.Value.int Go.IntKind.i64 (n))), (Prod.mk 20 (Go.Value.int Go.IntKind.i64 (Go.IntKind.wrap Go.IntKind.i64 (i + 1))))] [])
 (bcase (decide (0 ≤ i))
 (∃ b3 : UInt8,
 ((ByteAt (s) (Int.toNat i) (b3)) ∧
 (bcase ((↑(UInt8.toNat b3) : Int) != 45)
 (k [(D.val (Go.Value.bool false))])
 (B [(Prod.mk 0 (Go.Value.string (s))), (Prod.mk 19 (Go.Value.int Go.IntKind.i64 (n))), (Prod.mk 20 (Go.Value.int Go.IntKind.i64 (Go.IntKind.wrap Go.IntKind.i64 (i + 1))))] []))))
 False))
 (bcase (decide (0 ≤ i))
 (∃ b3 : UInt8,
 ((ByteAt (s) (Int.toNat i) (b3)) ∧
 (bcase ((↑(UInt8.toNat b3) : Int) != 45)
 (k [(D.val (Go.Value.bool false))])
 (B [(Prod.mk 0 (Go.Value.string (s))), (Prod.mk 19 (Go.Value.int Go.IntKind.i64 (n))), (Prod.mk 20 (Go.Value.int Go.IntKind.i64 (Go.IntKind.wrap Go.IntKind.i64 (i + 1))))] []))))
 False))))
 False))
 (bcase (decide (0 ≤ i))
 (∃ b2 : UInt8,
 ((ByteAt (s) (Int.toNat i) (b2)) ∧
 (bcase (decide (48 ≤ (↑(UInt8.toNat b2) : Int)))
 (bcase (decide ((↑(UInt8.toNat b2) : Int) ≤ 57))
 (B [(Prod.mk 0 (Go.Value.string (s))), (Prod.mk 19 (Go.Value.int Go.IntKind.i64 (n))), (Prod.mk 20 (Go.Value.int Go.IntKind.i64 (Go.IntKind.wrap Go.IntKind.i64 (i + 1))))] [])
 (bcase (decide (0 ≤ i))
 (∃ b3 : UInt8,
 ((ByteAt (s) (Int.toNat i) (b3)) ∧
 (bcase ((↑(UInt8.toNat b3) : Int) != 45)
 (k [(D.val (Go.Value.bool false))])
 (B [(Prod.mk 0 (Go.Value.string (s))), (Prod.mk 19 (Go.Value.int Go.IntKind.i64 (n))), (Prod.mk 20 (Go.Value.int Go.IntKind.i64 (Go.IntKind.wrap Go.IntKind.i64 (i + 1))))] []))))
 False))
 (bcase (decide (0 ≤ i))
 (∃ b3 : UInt8,
 ((ByteAt (s) (Int.toNat i) (b3)) ∧
 (bcase ((↑(UInt8.toNat b3) : Int) != 45)
 (k [(D.val (Go.Value.bool false))])
 (B [(Prod.mk 0 (Go.Value.string (s))), (Prod.mk 19 (Go.Value.int Go.IntKind.i64 (n))), (Prod.mk 20 (Go.Value.int Go.IntKind.i64 (Go.IntKind.wrap Go.IntKind.i64 (i + 1))))] []))))
 False))))
 False)))
 (bcase (decide (65 ≤ (↑(UInt8.toNat b1) : Int)))
 (bcase (decide ((↑(UInt8.toNat b1) : Int) ≤ 90))
 (B [(Prod.mk 0 (Go.Value.string (s))), (Prod.mk 19 (Go.Value.int Go.IntKind.i64 (n))), (Prod.mk 20 (Go.Value.int Go.IntKind.i64 (Go.IntKind.wrap Go.IntKind.i64 (i + 1))))] [])
 (bcase (decide (0 ≤ i))
 (∃ b2 : UInt8,
 ((ByteAt (s) (Int.toNat i) (b2)) ∧
 (bcase (decide (48 ≤ (↑(UInt8.toNat b2) : Int)))
 (bcase (decide ((↑(UInt8.toNat b2) : Int) ≤ 57))
 (B [(Prod.mk 0 (Go.Value.string (s))), (Prod.mk 19 (Go.Value.int Go.IntKind.i64 (n))), (Prod.mk 20 (Go.Value.int Go.IntKind.i64 (Go.IntKind.wrap Go.IntKind.i64 (i + 1))))] [])
 (bcase (decide (0 ≤ i))
 (∃ b3 : UInt8,
 ((ByteAt (s) (Int.toNat i) (b3)) ∧
 (bcase ((↑(UInt8.toNat b3) : Int) != 45)
 (k [(D.val (Go.Value.bool false))])
 (B [(Prod.mk 0 (Go.Value.string (s))), (Prod.mk 19 (Go.Value.int Go.IntKind.i64 (n))), (Prod.mk 20 (Go.Value.int Go.IntKind.i64 (Go.IntKind.wrap Go.IntKind.i64 (i + 1))))] []))))
 False))
 (bcase (decide (0 ≤ i))
 (∃ b3 : UInt8,
 ((ByteAt (s) (Int.toNat i) (b3)) ∧
 (bcase ((↑(UInt8.toNat b3) : Int) != 45)
 (k [(D.val (Go.Value.bool false))])
 (B [(Prod.mk 0 (Go.Value.string (s))), (Prod.mk 19 (Go.Value.int Go.IntKind.i64 (n))), (Prod.mk 20 (Go.Value.int Go.IntKind.i64 (Go.IntKind.wrap Go.IntKind.i64 (i + 1))))] []))))
 False))))
 False))
 (bcase (decide (0 ≤ i))
 (∃ b2 : UInt8,
 ((ByteAt (s) (Int.toNat i) (b2)) ∧
 (bcase (decide (48 ≤ (↑(UInt8.toNat b2) : Int)))
 (bcase (decide ((↑(UInt8.toNat b2) : Int) ≤ 57))
 (B [(Prod.mk 0 (Go.Value.string (s))), (Prod.mk 19 (Go.Value.int Go.IntKind.i64 (n))), (Prod.mk 20 (Go.Value.int Go.IntKind.i64 (Go.IntKind.wrap Go.IntKind.i64 (i + 1))))] [])
 (bcase (decide (0 ≤ i))
 (∃ b3 : UInt8,
 ((ByteAt (s) (Int.toNat i) (b3)) ∧
 (bcase ((↑(UInt8.toNat b3) : Int) != 45)
 (k [(D.val (Go.Value.bool false))])
 (B [(Prod.mk 0 (Go.Value.string (s))), (Prod.mk 19 (Go.Value.int Go.IntKind.i64 (n))), (Prod.mk 20 (Go.Value.int Go.IntKind.i64 (Go.IntKind.wrap Go.IntKind.i64 (i + 1))))] []))))
 False))
 (bcase (decide (0 ≤ i))
 (∃ b3 : UInt8,
 ((ByteAt (s) (Int.toNat i) (b3)) ∧
 (bcase ((↑(UInt8.toNat b3) : Int) != 45)
 (k [(D.val (Go.Value.bool false))])
 (B [(Prod.mk 0 (Go.Value.string (s))), (Prod.mk 19 (Go.Value.int Go.IntKind.i64 (n))), (Prod.mk 20 (Go.Value.int Go.IntKind.i64 (Go.IntKind.wrap Go.IntKind.i64 (i + 1))))] []))))
 False))))
 False)))))
 False)
 (X 0 [] [])) := by kernel_rfl
def n52 (C : Ct) (L : AtLoop) (k : List D → Prop) : Prop := wpNext Tryz.prog (hN C) L 52 0 .normal [] [] (dataK k)
theorem n52_text (C : Ct) (L : AtLoop) (k : List D → Prop) : n52 C L k =
 (k [(D.val (Go.Value.bool true))]) := by kernel_rfl
def g10 (C : Ct) (L : AtLoop) (s : ByteArray) (g t tol w lo hi due : Int) (k : List D → Prop) : Prop := wpFn Tryz.prog (hN C) L 0 10 #[vOrder s g t tol w lo hi due] (heapOf []) (dataK k)
theorem g10_text (C : Ct) (L : AtLoop) (s : ByteArray) (g : Int) (t : Int) (tol : Int) (w : Int) (lo : Int) (hi : Int) (due : Int) (k : List D → Prop) : g10 C L s g t tol w lo hi due k =
 (((Says C 39 [(D.val (Go.Value.string (s)))] [(D.val (Go.Value.bool true))]) ∧
 (bcase (decide (1 ≤ g))
 (bcase (decide (g ≤ 99))
 (bcase (decide (1 ≤ t))
 (bcase (decide (t ≤ 300000))
 (bcase (decide (0 ≤ tol))
 (bcase (decide (tol ≤ Go.IntKind.wrap Go.IntKind.i64 (t - 1)))
 (bcase (decide (500 ≤ w))
 (bcase (decide (w ≤ 2500))
 (bcase (decide (0 ≤ lo))
 (bcase (decide (lo ≤ 20000))
 (bcase (decide (0 ≤ hi))
 (bcase (decide (hi ≤ 20000))
 (bcase (decide (lo > hi))
 (k [(D.val (Go.Value.int Go.IntKind.i64 (9 : Int)))])
 (bcase (Int.tmod lo 10 != 0)
 (k [(D.val (Go.Value.int Go.IntKind.i64 (3 : Int)))])
 (bcase (Int.tmod hi 10 != 0)
 (k [(D.val (Go.Value.int Go.IntKind.i64 (3 : Int)))])
 (bcase (decide (0 ≤ due))
 (bcase (decide (due ≤ 100000))
 (k [(D.val (Go.Value.int Go.IntKind.i64 (0 : Int)))])
 (k [(D.val (Go.Value.int Go.IntKind.i64 (2 : Int)))]))
 (k [(D.val (Go.Value.int Go.IntKind.i64 (2 : Int)))])))))
 (k [(D.val (Go.Value.int Go.IntKind.i64 (2 : Int)))]))
 (k [(D.val (Go.Value.int Go.IntKind.i64 (2 : Int)))]))
 (k [(D.val (Go.Value.int Go.IntKind.i64 (2 : Int)))]))
 (k [(D.val (Go.Value.int Go.IntKind.i64 (2 : Int)))]))
 (k [(D.val (Go.Value.int Go.IntKind.i64 (2 : Int)))]))
 (k [(D.val (Go.Value.int Go.IntKind.i64 (2 : Int)))]))
 (k [(D.val (Go.Value.int Go.IntKind.i64 (2 : Int)))]))
 (k [(D.val (Go.Value.int Go.IntKind.i64 (2 : Int)))]))
 (k [(D.val (Go.Value.int Go.IntKind.i64 (2 : Int)))]))
 (k [(D.val (Go.Value.int Go.IntKind.i64 (2 : Int)))]))
 (k [(D.val (Go.Value.int Go.IntKind.i64 (2 : Int)))]))
 (k [(D.val (Go.Value.int Go.IntKind.i64 (2 : Int)))]))) ∨
 ((Says C 39 [(D.val (Go.Value.string (s)))] [(D.val (Go.Value.bool false))]) ∧
 (k [(D.val (Go.Value.int Go.IntKind.i64 (4 : Int)))]))) := by kernel_rfl
def g37 (C : Ct) (L : AtLoop) (s : ByteArray) (g t tol w lo hi due : Int) (k : List D → Prop) : Prop := wpFn Tryz.prog (hN C) L 0 37 #[vOrder s g t tol w lo hi due] (heapOf []) (dataK k)
theorem g37_text (C : Ct) (L : AtLoop) (s : ByteArray) (g : Int) (t : Int) (tol : Int) (w : Int) (lo : Int) (hi : Int) (due : Int) (k : List D → Prop) : g37 C L s g t tol w lo hi due k =
 (((Says C 52 [(D.val (Go.Value.string (s)))] [(D.val (Go.Value.bool true))]) ∧
 (bcase (decide (g < 1))
 (k [(D.val (Go.Value.int Go.IntKind.i64 (2 : Int)))])
 (bcase (decide (g > 99))
 (k [(D.val (Go.Value.int Go.IntKind.i64 (2 : Int)))])
 (bcase (decide (t < 1))
 (k [(D.val (Go.Value.int Go.IntKind.i64 (2 : Int)))])
 (bcase (decide (t > 300000))
 (k [(D.val (Go.Value.int Go.IntKind.i64 (2 : Int)))])
 (bcase (decide (tol < 0))
 (k [(D.val (Go.Value.int Go.IntKind.i64 (2 : Int)))])
 (bcase (decide (tol > Go.IntKind.wrap Go.IntKind.i64 (t - 1)))
 (k [(D.val (Go.Value.int Go.IntKind.i64 (2 : Int)))])
 (bcase (decide (w < 500))
 (k [(D.val (Go.Value.int Go.IntKind.i64 (2 : Int)))])
 (bcase (decide (w > 2500))
 (k [(D.val (Go.Value.int Go.IntKind.i64 (2 : Int)))])
 (bcase (decide (lo < 0))
 (k [(D.val (Go.Value.int Go.IntKind.i64 (2 : Int)))])
 (bcase (decide (lo > 20000))
 (k [(D.val (Go.Value.int Go.IntKind.i64 (2 : Int)))])
 (bcase (decide (hi < 0))
 (k [(D.val (Go.Value.int Go.IntKind.i64 (2 : Int)))])
 (bcase (decide (hi > 20000))
 (k [(D.val (Go.Value.int Go.IntKind.i64 (2 : Int)))])
 (bcase (decide (lo > hi))
 (k [(D.val (Go.Value.int Go.IntKind.i64 (9 : Int)))])
 (bcase (Int.tmod lo 10 != 0)
 (k [(D.val (Go.Value.int Go.IntKind.i64 (3 : Int)))])
 (bcase (Int.tmod hi 10 != 0)
 (k [(D.val (Go.Value.int Go.IntKind.i64 (3 : Int)))])
 (bcase (decide (due < 0))
 (k [(D.val (Go.Value.int Go.IntKind.i64 (2 : Int)))])
 (bcase (decide (due > 100000))
 (k [(D.val (Go.Value.int Go.IntKind.i64 (2 : Int)))])
 (k [(D.val (Go.Value.int Go.IntKind.i64 (0 : Int)))]))))))))))))))))))) ∨
 ((Says C 52 [(D.val (Go.Value.string (s)))] [(D.val (Go.Value.bool false))]) ∧
 (k [(D.val (Go.Value.int Go.IntKind.i64 (4 : Int)))]))) := by kernel_rfl
def g7 (C : Ct) (L : AtLoop) (s : ByteArray) (g t w l : Int) (s' : ByteArray) (g' t' tol w' lo hi due : Int) (k : List D → Prop) : Prop := wpFn Tryz.prog (hN C) L 0 7 #[vSlab s g t w l, vOrder s' g' t' tol w' lo hi due] (heapOf []) (dataK k)
theorem g7_text (C : Ct) (L : AtLoop) (s : ByteArray) (g : Int) (t : Int) (w : Int) (l : Int) (s' : ByteArray) (g' : Int) (t' : Int) (tol : Int) (w' : Int) (lo : Int) (hi : Int) (due : Int) (k : List D → Prop) : g7 C L s g t w l s' g' t' tol w' lo hi due k =
 ((((Go.Value.agg [(Go.Value.string (s')), (Go.Value.int Go.IntKind.i64 (g')), (Go.Value.int Go.IntKind.i64 (t')), (Go.Value.int Go.IntKind.i64 (tol)), (Go.Value.int Go.IntKind.i64 (w')), (Go.Value.int Go.IntKind.i64 (lo)), (Go.Value.int Go.IntKind.i64 (hi)), (Go.Value.int Go.IntKind.i64 (due))].toArray) = (Go.Value.agg [(Go.Value.string (s')), (Go.Value.int Go.IntKind.i64 (g')), (Go.Value.int Go.IntKind.i64 (t')), (Go.Value.int Go.IntKind.i64 (tol)), (Go.Value.int Go.IntKind.i64 (w')), (Go.Value.int Go.IntKind.i64 (lo)), (Go.Value.int Go.IntKind.i64 (hi)), (Go.Value.int Go.IntKind.i64 (due))].toArray)) ∧
 (((Go.Value.agg [(Go.Value.string (s)), (Go.Value.int Go.IntKind.i64 (g)), (Go.Value.int Go.IntKind.i64 (t)), (Go.Value.int Go.IntKind.i64 (w)), (Go.Value.int Go.IntKind.i64 (l))].toArray) = (Go.Value.agg [(Go.Value.string (s)), (Go.Value.int Go.IntKind.i64 (g)), (Go.Value.int Go.IntKind.i64 (t)), (Go.Value.int Go.IntKind.i64 (w)), (Go.Value.int Go.IntKind.i64 (l))].toArray)) ∧
 True)) ∧
 (∃ n1 : Int,
 ((Says C 36 [(D.agg [(D.val (Go.Value.string (s))), (D.val (Go.Value.int Go.IntKind.i64 (g))), (D.val (Go.Value.int Go.IntKind.i64 (t))), (D.val (Go.Value.int Go.IntKind.i64 (w))), (D.val (Go.Value.int Go.IntKind.i64 (l)))])] [(D.val (Go.Value.int Go.IntKind.i64 (n1)))]) ∧
 ((((Go.Value.agg [(Go.Value.string (s')), (Go.Value.int Go.IntKind.i64 (g')), (Go.Value.int Go.IntKind.i64 (t')), (Go.Value.int Go.IntKind.i64 (tol)), (Go.Value.int Go.IntKind.i64 (w')), (Go.Value.int Go.IntKind.i64 (lo)), (Go.Value.int Go.IntKind.i64 (hi)), (Go.Value.int Go.IntKind.i64 (due))].toArray) = (Go.Value.agg [(Go.Value.string (s')), (Go.Value.int Go.IntKind.i64 (g')), (Go.Value.int Go.IntKind.i64 (t')), (Go.Value.int Go.IntKind.i64 (tol)), (Go.Value.int Go.IntKind.i64 (w')), (Go.Value.int Go.IntKind.i64 (lo)), (Go.Value.int Go.IntKind.i64 (hi)), (Go.Value.int Go.IntKind.i64 (due))].toArray)) ∧
 True) ∧
 (∃ n2 : Int,
 ((Says C 37 [(D.agg [(D.val (Go.Value.string (s'))), (D.val (Go.Value.int Go.IntKind.i64 (g'))), (D.val (Go.Value.int Go.IntKind.i64 (t'))), (D.val (Go.Value.int Go.IntKind.i64 (tol))), (D.val (Go.Value.int Go.IntKind.i64 (w'))), (D.val (Go.Value.int Go.IntKind.i64 (lo))), (D.val (Go.Value.int Go.IntKind.i64 (hi))), (D.val (Go.Value.int Go.IntKind.i64 (due)))])] [(D.val (Go.Value.int Go.IntKind.i64 (n2)))]) ∧
 (((((Go.Value.slice (Option.some (Go.Addr.mk 1002 0 Option.none)) 2 2) = (Go.Value.slice (Option.some (Go.Addr.mk 1002 0 Option.none)) 2 2)) ∧
 ((Option.some (AObj.cells [(Go.Value.int Go.IntKind.i64 (n1)), (Go.Value.int Go.IntKind.i64 (n2))] 29 false 1)) = (Option.some (AObj.cells [(Go.Value.int Go.IntKind.i64 (n1)), (Go.Value.int Go.IntKind.i64 (n2))] 29 false 1)))) ∧
 True) ∧
 (bcase (n1 != 0)
 (True ∧
 (True ∧
 (bcase (n1 != 0)
 (k [(D.val (Go.Value.bool false)), (D.val (Go.Value.int Go.IntKind.i64 (n1)))])
 (bcase (g == g')
 (bcase (decide (Go.IntKind.wrap Go.IntKind.i64 (w - w') < 0))
 (k [(D.val (Go.Value.bool false)), (D.val (Go.Value.int Go.IntKind.i64 (0 : Int)))])
 (bcase (decide (Go.IntKind.wrap Go.IntKind.i64 (w - w') > 100))
 (k [(D.val (Go.Value.bool false)), (D.val (Go.Value.int Go.IntKind.i64 (0 : Int)))])
 (k [(D.val (Go.Value.bool true)), (D.val (Go.Value.int Go.IntKind.i64 (0 : Int)))])))
 (k [(D.val (Go.Value.bool false)), (D.val (Go.Value.int Go.IntKind.i64 (0 : Int)))])))))
 (bcase (n2 != 0)
 (True ∧
 (True ∧
 (bcase (n2 != 0)
 (k [(D.val (Go.Value.bool false)), (D.val (Go.Value.int Go.IntKind.i64 (n2)))])
 (bcase (g == g')
 (bcase (decide (Go.IntKind.wrap Go.IntKind.i64 (w - w') < 0))
 (k [(D.val (Go.Value.bool false)), (D.val (Go.Value.int Go.IntKind.i64 (0 : Int)))])
 (bcase (decide (Go.IntKind.wrap Go.IntKind.i64 (w - w') > 100))
 (k [(D.val (Go.Value.bool false)), (D.val (Go.Value.int Go.IntKind.i64 (0 : Int)))])
 (k [(D.val (Go.Value.bool true)), (D.val (Go.Value.int Go.IntKind.i64 (0 : Int)))])))
 (k [(D.val (Go.Value.bool false)), (D.val (Go.Value.int Go.IntKind.i64 (0 : Int)))])))))
 (True ∧
 (True ∧
 (bcase (g == g')
 (bcase (decide (Go.IntKind.wrap Go.IntKind.i64 (w - w') < 0))
 (k [(D.val (Go.Value.bool false)), (D.val (Go.Value.int Go.IntKind.i64 (0 : Int)))])
 (bcase (decide (Go.IntKind.wrap Go.IntKind.i64 (w - w') > 100))
 (k [(D.val (Go.Value.bool false)), (D.val (Go.Value.int Go.IntKind.i64 (0 : Int)))])
 (k [(D.val (Go.Value.bool true)), (D.val (Go.Value.int Go.IntKind.i64 (0 : Int)))])))
 (k [(D.val (Go.Value.bool false)), (D.val (Go.Value.int Go.IntKind.i64 (0 : Int)))]))))))))))))) := by kernel_rfl
def g8 (C : Ct) (L : AtLoop) (s : ByteArray) (g t w l : Int) (s' : ByteArray) (g' t' tol w' lo hi due : Int) (k : List D → Prop) : Prop := wpFn Tryz.prog (hN C) L 0 8 #[vSlab s g t w l, vOrder s' g' t' tol w' lo hi due] (heapOf []) (dataK k)
theorem g8_text (C : Ct) (L : AtLoop) (s : ByteArray) (g : Int) (t : Int) (w : Int) (l : Int) (s' : ByteArray) (g' : Int) (t' : Int) (tol : Int) (w' : Int) (lo : Int) (hi : Int) (due : Int) (k : List D → Prop) : g8 C L s g t w l s' g' t' tol w' lo hi due k =
 ((∃ n1 : Int,
 ((Says C 7 [(D.agg [(D.val (Go.Value.string (s))), (D.val (Go.Value.int Go.IntKind.i64 (g))), (D.val (Go.Value.int Go.IntKind.i64 (t))), (D.val (Go.Value.int Go.IntKind.i64 (w))), (D.val (Go.Value.int Go.IntKind.i64 (l)))]), (D.agg [(D.val (Go.Value.string (s'))), (D.val (Go.Value.int Go.IntKind.i64 (g'))), (D.val (Go.Value.int Go.IntKind.i64 (t'))), (D.val (Go.Value.int Go.IntKind.i64 (tol))), (D.val (Go.Value.int Go.IntKind.i64 (w'))), (D.val (Go.Value.int Go.IntKind.i64 (lo))), (D.val (Go.Value.int Go.IntKind.i64 (hi))), (D.val (Go.Value.int Go.IntKind.i64 (due)))])] [(D.val (Go.Value.bool true)), (D.val (Go.Value.int Go.IntKind.i64 (n1)))]) ∧
 (bcase (n1 != 0)
 (k [(D.agg [(D.val (Go.Value.int Go.IntKind.i64 (0 : Int))), (D.val (Go.Value.int Go.IntKind.i64 (0 : Int)))]), (D.val (Go.Value.int Go.IntKind.i64 (n1)))])
 (bcase (Go.IntKind.wrap Go.IntKind.i64 (Go.IntKind.wrap Go.IntKind.i64 (t' + tol) * w') != 0)
 (bcase (Go.IntKind.wrap Go.IntKind.i64 (Go.IntKind.wrap Go.IntKind.i64 (t' - tol) * w') != 0)
 ((((Go.Value.agg [(Go.Value.int Go.IntKind.i64 (Go.IntKind.wrap Go.IntKind.i64 (Int.tdiv (Go.IntKind.wrap Go.IntKind.i64 (Go.IntKind.wrap Go.IntKind.i64 (t * w) * l)) (Go.IntKind.wrap Go.IntKind.i64 (Go.IntKind.wrap Go.IntKind.i64 (t' + tol) * w'))))), (Go.Value.int Go.IntKind.i64 (Go.IntKind.wrap Go.IntKind.i64 (Int.tdiv (Go.IntKind.wrap Go.IntKind.i64 (Go.IntKind.wrap Go.IntKind.i64 (Go.IntKind.wrap Go.IntKind.i64 (Go.IntKind.wrap Go.IntKind.i64 (t * w) * l) + Go.IntKind.wrap Go.IntKind.i64 (Go.IntKind.wrap Go.IntKind.i64 (t' - tol) * w')) - 1)) (Go.IntKind.wrap Go.IntKind.i64 (Go.IntKind.wrap Go.IntKind.i64 (t' - tol) * w')))))].toArray) = (Go.Value.agg [(Go.Value.int Go.IntKind.i64 (Go.IntKind.wrap Go.IntKind.i64 (Int.tdiv (Go.IntKind.wrap Go.IntKind.i64 (Go.IntKind.wrap Go.IntKind.i64 (t * w) * l)) (Go.IntKind.wrap Go.IntKind.i64 (Go.IntKind.wrap Go.IntKind.i64 (t' + tol) * w'))))), (Go.Value.int Go.IntKind.i64 (Go.IntKind.wrap Go.IntKind.i64 (Int.tdiv (Go.IntKind.wrap Go.IntKind.i64 (Go.IntKind.wrap Go.IntKind.i64 (Go.IntKind.wrap Go.IntKind.i64 (Go.IntKind.wrap Go.IntKind.i64 (t * w) * l) + Go.IntKind.wrap Go.IntKind.i64 (Go.IntKind.wrap Go.IntKind.i64 (t' - tol) * w')) - 1)) (Go.IntKind.wrap Go.IntKind.i64 (Go.IntKind.wrap Go.IntKind.i64 (t' - tol) * w')))))].toArray)) ∧
 ((bcase (Go.IntKind.wrap Go.IntKind.i64 (Go.IntKind.wrap Go.IntKind.i64 (t' - tol) * w') != 0)
 ((Go.Value.int Go.IntKind.i64 (Go.IntKind.wrap Go.IntKind.i64 (Int.tdiv (Go.IntKind.wrap Go.IntKind.i64 (Go.IntKind.wrap Go.IntKind.i64 (Go.IntKind.wrap Go.IntKind.i64 (Go.IntKind.wrap Go.IntKind.i64 (t * w) * l) + Go.IntKind.wrap Go.IntKind.i64 (Go.IntKind.wrap Go.IntKind.i64 (t' - tol) * w')) - 1)) (Go.IntKind.wrap Go.IntKind.i64 (Go.IntKind.wrap Go.IntKind.i64 (t' - tol) * w'))))) = (Go.Value.int Go.IntKind.i64 (Go.IntKind.wrap Go.IntKind.i64 (Int.tdiv (Go.IntKind.wrap Go.IntKind.i64 (Go.IntKind.wrap Go.IntKind.i64 (Go.IntKind.wrap Go.IntKind.i64 (Go.IntKind.wrap Go.IntKind.i64 (t * w) * l) + Go.IntKind.wrap Go.IntKind.i64 (Go.IntKind.wrap Go.IntKind.i64 (t' - tol) * w')) - 1)) (Go.IntKind.wrap Go.IntKind.i64 (Go.IntKind.wrap Go.IntKind.i64 (t' - tol) * w'))))))
 False) ∧
 (((Go.Value.int Go.IntKind.i64 (Go.IntKind.wrap Go.IntKind.i64 (Go.IntKind.wrap Go.IntKind.i64 (t' - tol) * w'))) = (Go.Value.int Go.IntKind.i64 (Go.IntKind.wrap Go.IntKind.i64 (Go.IntKind.wrap Go.IntKind.i64 (t' - tol) * w')))) ∧
 (((Go.Value.int Go.IntKind.i64 (Go.IntKind.wrap Go.IntKind.i64 (Go.IntKind.wrap Go.IntKind.i64 (Go.IntKind.wrap Go.IntKind.i64 (Go.IntKind.wrap Go.IntKind.i64 (t * w) * l) + Go.IntKind.wrap Go.IntKind.i64 (Go.IntKind.wrap Go.IntKind.i64 (t' - tol) * w')) - 1))) = (Go.Value.int Go.IntKind.i64 (Go.IntKind.wrap Go.IntKind.i64 (Go.IntKind.wrap Go.IntKind.i64 (Go.IntKind.wrap Go.IntKind.i64 (Go.IntKind.wrap Go.IntKind.i64 (t * w) * l) + Go.IntKind.wrap Go.IntKind.i64 (Go.IntKind.wrap Go.IntKind.i64 (t' - tol) * w')) - 1)))) ∧
 (((Go.Value.int Go.IntKind.i64 (Go.IntKind.wrap Go.IntKind.i64 (Go.IntKind.wrap Go.IntKind.i64 (Go.IntKind.wrap Go.IntKind.i64 (t * w) * l) + Go.IntKind.wrap Go.IntKind.i64 (Go.IntKind.wrap Go.IntKind.i64 (t' - tol) * w')))) = (Go.Value.int Go.IntKind.i64 (Go.IntKind.wrap Go.IntKind.i64 (Go.IntKind.wrap Go.IntKind.i64 (Go.IntKind.wrap Go.IntKind.i64 (t * w) * l) + Go.IntKind.wrap Go.IntKind.i64 (Go.IntKind.wrap Go.IntKind.i64 (t' - tol) * w'))))) ∧
 (((Go.Value.int Go.IntKind.i64 (Go.IntKind.wrap Go.IntKind.i64 (Go.IntKind.wrap Go.IntKind.i64 (t' - tol) * w'))) = (Go.Value.int Go.IntKind.i64 (Go.IntKind.wrap Go.IntKind.i64 (Go.IntKind.wrap Go.IntKind.i64 (t' - tol) * w')))) ∧
 (((Go.Value.int Go.IntKind.i64 (Go.IntKind.wrap Go.IntKind.i64 (Go.IntKind.wrap Go.IntKind.i64 (t * w) * l))) = (Go.Value.int Go.IntKind.i64 (Go.IntKind.wrap Go.IntKind.i64 (Go.IntKind.wrap Go.IntKind.i64 (t * w) * l)))) ∧
 ((bcase (Go.IntKind.wrap Go.IntKind.i64 (Go.IntKind.wrap Go.IntKind.i64 (t' + tol) * w') != 0)
 ((Go.Value.int Go.IntKind.i64 (Go.IntKind.wrap Go.IntKind.i64 (Int.tdiv (Go.IntKind.wrap Go.IntKind.i64 (Go.IntKind.wrap Go.IntKind.i64 (t * w) * l)) (Go.IntKind.wrap Go.IntKind.i64 (Go.IntKind.wrap Go.IntKind.i64 (t' + tol) * w'))))) = (Go.Value.int Go.IntKind.i64 (Go.IntKind.wrap Go.IntKind.i64 (Int.tdiv (Go.IntKind.wrap Go.IntKind.i64 (Go.IntKind.wrap Go.IntKind.i64 (t * w) * l)) (Go.IntKind.wrap Go.IntKind.i64 (Go.IntKind.wrap Go.IntKind.i64 (t' + tol) * w'))))))
 False) ∧
 (((Go.Value.int Go.IntKind.i64 (Go.IntKind.wrap Go.IntKind.i64 (Go.IntKind.wrap Go.IntKind.i64 (t' + tol) * w'))) = (Go.Value.int Go.IntKind.i64 (Go.IntKind.wrap Go.IntKind.i64 (Go.IntKind.wrap Go.IntKind.i64 (t' + tol) * w')))) ∧
 (((Go.Value.int Go.IntKind.i64 (Go.IntKind.wrap Go.IntKind.i64 (Go.IntKind.wrap Go.IntKind.i64 (t * w) * l))) = (Go.Value.int Go.IntKind.i64 (Go.IntKind.wrap Go.IntKind.i64 (Go.IntKind.wrap Go.IntKind.i64 (t * w) * l)))) ∧
 True)))))))))) ∧
 (True ∧
 (True ∧
 (k [(D.agg [(D.val (Go.Value.int Go.IntKind.i64 (Go.IntKind.wrap Go.IntKind.i64 (Int.tdiv (Go.IntKind.wrap Go.IntKind.i64 (Go.IntKind.wrap Go.IntKind.i64 (t * w) * l)) (Go.IntKind.wrap Go.IntKind.i64 (Go.IntKind.wrap Go.IntKind.i64 (t' + tol) * w')))))), (D.val (Go.Value.int Go.IntKind.i64 (Go.IntKind.wrap Go.IntKind.i64 (Int.tdiv (Go.IntKind.wrap Go.IntKind.i64 (Go.IntKind.wrap Go.IntKind.i64 (Go.IntKind.wrap Go.IntKind.i64 (Go.IntKind.wrap Go.IntKind.i64 (t * w) * l) + Go.IntKind.wrap Go.IntKind.i64 (Go.IntKind.wrap Go.IntKind.i64 (t' - tol) * w')) - 1)) (Go.IntKind.wrap Go.IntKind.i64 (Go.IntKind.wrap Go.IntKind.i64 (t' - tol) * w'))))))]), (D.val (Go.Value.int Go.IntKind.i64 (0 : Int)))]))))
 False)
 False)))) ∨
 (∃ n1 : Int,
 ((Says C 7 [(D.agg [(D.val (Go.Value.string (s))), (D.val (Go.Value.int Go.IntKind.i64 (g))), (D.val (Go.Value.int Go.IntKind.i64 (t))), (D.val (Go.Value.int Go.IntKind.i64 (w))), (D.val (Go.Value.int Go.IntKind.i64 (l)))]), (D.agg [(D.val (Go.Value.string (s'))), (D.val (Go.Value.int Go.IntKind.i64 (g'))), (D.val (Go.Value.int Go.IntKind.i64 (t'))), (D.val (Go.Value.int Go.IntKind.i64 (tol))), (D.val (Go.Value.int Go.IntKind.i64 (w'))), (D.val (Go.Value.int Go.IntKind.i64 (lo))), (D.val (Go.Value.int Go.IntKind.i64 (hi))), (D.val (Go.Value.int Go.IntKind.i64 (due)))])] [(D.val (Go.Value.bool false)), (D.val (Go.Value.int Go.IntKind.i64 (n1)))]) ∧
 (bcase (n1 != 0)
 (k [(D.agg [(D.val (Go.Value.int Go.IntKind.i64 (0 : Int))), (D.val (Go.Value.int Go.IntKind.i64 (0 : Int)))]), (D.val (Go.Value.int Go.IntKind.i64 (n1)))])
 (k [(D.agg [(D.val (Go.Value.int Go.IntKind.i64 (0 : Int))), (D.val (Go.Value.int Go.IntKind.i64 (0 : Int)))]), (D.val (Go.Value.int Go.IntKind.i64 (13 : Int)))]))))) := by kernel_rfl
def g3 (C : Ct) (L : AtLoop) (s : ByteArray) (g t w l : Int) (s' : ByteArray) (g' t' tol w' lo hi due : Int) (k : List D → Prop) : Prop := wpFn Tryz.prog (hN C) L 0 3 #[vSlab s g t w l, vOrder s' g' t' tol w' lo hi due] (heapOf []) (dataK k)
theorem g3_text (C : Ct) (L : AtLoop) (s : ByteArray) (g : Int) (t : Int) (w : Int) (l : Int) (s' : ByteArray) (g' : Int) (t' : Int) (tol : Int) (w' : Int) (lo : Int) (hi : Int) (due : Int) (k : List D → Prop) : g3 C L s g t w l s' g' t' tol w' lo hi due k =
 (((Says C 6 [] [(D.val (Go.Value.bool true))]) ∧
 (bcase (decide ((↑(ByteArray.size s) : Int) > 30))
 (k [(D.val (Go.Value.bool true))])
 (bcase (decide ((↑(ByteArray.size s') : Int) > 30))
 (k [(D.val (Go.Value.bool true))])
 ((∃ n1 : Int,
 ((Says C 7 [(D.agg [(D.val (Go.Value.string (s))), (D.val (Go.Value.int Go.IntKind.i64 (g))), (D.val (Go.Value.int Go.IntKind.i64 (t))), (D.val (Go.Value.int Go.IntKind.i64 (w))), (D.val (Go.Value.int Go.IntKind.i64 (l)))]), (D.agg [(D.val (Go.Value.string (s'))), (D.val (Go.Value.int Go.IntKind.i64 (g'))), (D.val (Go.Value.int Go.IntKind.i64 (t'))), (D.val (Go.Value.int Go.IntKind.i64 (tol))), (D.val (Go.Value.int Go.IntKind.i64 (w'))), (D.val (Go.Value.int Go.IntKind.i64 (lo))), (D.val (Go.Value.int Go.IntKind.i64 (hi))), (D.val (Go.Value.int Go.IntKind.i64 (due)))])] [(D.val (Go.Value.bool true)), (D.val (Go.Value.int Go.IntKind.i64 (n1)))]) ∧
 (∃ n2 : Int,
 (∃ n3 : Int,
 (∃ n4 : Int,
 ((Says C 8 [(D.agg [(D.val (Go.Value.string (s))), (D.val (Go.Value.int Go.IntKind.i64 (g))), (D.val (Go.Value.int Go.IntKind.i64 (t))), (D.val (Go.Value.int Go.IntKind.i64 (w))), (D.val (Go.Value.int Go.IntKind.i64 (l)))]), (D.agg [(D.val (Go.Value.string (s'))), (D.val (Go.Value.int Go.IntKind.i64 (g'))), (D.val (Go.Value.int Go.IntKind.i64 (t'))), (D.val (Go.Value.int Go.IntKind.i64 (tol))), (D.val (Go.Value.int Go.IntKind.i64 (w'))), (D.val (Go.Value.int Go.IntKind.i64 (lo))), (D.val (Go.Value.int Go.IntKind.i64 (hi))), (D.val (Go.Value.int Go.IntKind.i64 (due)))])] [(D.agg [(D.val (Go.Value.int Go.IntKind.i64 (n2))), (D.val (Go.Value.int Go.IntKind.i64 (n3)))]), (D.val (Go.Value.int Go.IntKind.i64 (n4)))]) ∧
 (∃ n5 : Int,
 ((Says C 9 [(D.agg [(D.val (Go.Value.string (s))), (D.val (Go.Value.int Go.IntKind.i64 (g))), (D.val (Go.Value.int Go.IntKind.i64 (t))), (D.val (Go.Value.int Go.IntKind.i64 (w))), (D.val (Go.Value.int Go.IntKind.i64 (l)))])] [(D.val (Go.Value.int Go.IntKind.i64 (n5)))]) ∧
 (bcase (n5 == 0)
 (∃ n6 : Int,
 ((Says C 10 [(D.agg [(D.val (Go.Value.string (s'))), (D.val (Go.Value.int Go.IntKind.i64 (g'))), (D.val (Go.Value.int Go.IntKind.i64 (t'))), (D.val (Go.Value.int Go.IntKind.i64 (tol))), (D.val (Go.Value.int Go.IntKind.i64 (w'))), (D.val (Go.Value.int Go.IntKind.i64 (lo))), (D.val (Go.Value.int Go.IntKind.i64 (hi))), (D.val (Go.Value.int Go.IntKind.i64 (due)))])] [(D.val (Go.Value.int Go.IntKind.i64 (n6)))]) ∧
 (bcase (n6 != 0)
 (bcase (n1 == n6)
 (bcase (n4 == n6)
 (k [(D.val (Go.Value.bool false))])
 (k [(D.val (Go.Value.bool false))]))
 (k [(D.val (Go.Value.bool false))]))
 (bcase (n1 != 0)
 (k [(D.val (Go.Value.bool false))])
 (((Says C 11 [(D.agg [(D.val (Go.Value.string (s))), (D.val (Go.Value.int Go.IntKind.i64 (g))), (D.val (Go.Value.int Go.IntKind.i64 (t))), (D.val (Go.Value.int Go.IntKind.i64 (w))), (D.val (Go.Value.int Go.IntKind.i64 (l)))]), (D.agg [(D.val (Go.Value.string (s'))), (D.val (Go.Value.int Go.IntKind.i64 (g'))), (D.val (Go.Value.int Go.IntKind.i64 (t'))), (D.val (Go.Value.int Go.IntKind.i64 (tol))), (D.val (Go.Value.int Go.IntKind.i64 (w'))), (D.val (Go.Value.int Go.IntKind.i64 (lo))), (D.val (Go.Value.int Go.IntKind.i64 (hi))), (D.val (Go.Value.int Go.IntKind.i64 (due)))])] [(D.val (Go.Value.bool true))]) ∧
 (bcase (n4 == 0)
 ((((Go.Value.agg [(Go.Value.string (s')), (Go.Value.int Go.IntKind.i64 (g')), (Go.Value.int Go.IntKind.i64 (t')), (Go.Value.int Go.IntKind.i64 (tol)), (Go.Value.int Go.IntKind.i64 (w')), (Go.Value.int Go.IntKind.i64 (lo)), (Go.Value.int Go.IntKind.i64 (hi)), (Go.Value.int Go.IntKind.i64 (due))].toArray) = (Go.Value.agg [(Go.Value.string (s')), (Go.Value.int Go.IntKind.i64 (g')), (Go.Value.int Go.IntKind.i64 (t')), (Go.Value.int Go.IntKind.i64 (tol)), (Go.Value.int Go.IntKind.i64 (w')), (Go.Value.int Go.IntKind.i64 (lo)), (Go.Value.int Go.IntKind.i64 (hi)), (Go.Value.int Go.IntKind.i64 (due))].toArray)) ∧
 (((Go.Value.agg [(Go.Value.string (s)), (Go.Value.int Go.IntKind.i64 (g)), (Go.Value.int Go.IntKind.i64 (t)), (Go.Value.int Go.IntKind.i64 (w)), (Go.Value.int Go.IntKind.i64 (l))].toArray) = (Go.Value.agg [(Go.Value.string (s)), (Go.Value.int Go.IntKind.i64 (g)), (Go.Value.int Go.IntKind.i64 (t)), (Go.Value.int Go.IntKind.i64 (w)), (Go.Value.int Go.IntKind.i64 (l))].toArray)) ∧
 (((Go.Value.agg [(Go.Value.int Go.IntKind.i64 (n2)), (Go.Value.int Go.IntKind.i64 (n3))].toArray) = (Go.Value.agg [(Go.Value.int Go.IntKind.i64 (n2)), (Go.Value.int Go.IntKind.i64 (n3))].toArray)) ∧
 (((Go.Value.bool true) = (Go.Value.bool true)) ∧
 ((bcase (n4 == 0)
 ((Go.Value.bool true) = (Go.Value.bool true))
 ((Go.Value.bool false) = (Go.Value.bool true))) ∧
 (((Go.Value.int Go.IntKind.i64 (n4)) = (Go.Value.int Go.IntKind.i64 (n4))) ∧
 True)))))) ∧
 (∃ n7 : Int,
 (∃ n8 : Int,
 ((Says C 12 [(D.agg [(D.val (Go.Value.string (s))), (D.val (Go.Value.int Go.IntKind.i64 (g))), (D.val (Go.Value.int Go.IntKind.i64 (t))), (D.val (Go.Value.int Go.IntKind.i64 (w))), (D.val (Go.Value.int Go.IntKind.i64 (l)))]), (D.agg [(D.val (Go.Value.string (s'))), (D.val (Go.Value.int Go.IntKind.i64 (g'))), (D.val (Go.Value.int Go.IntKind.i64 (t'))), (D.val (Go.Value.int Go.IntKind.i64 (tol))), (D.val (Go.Value.int Go.IntKind.i64 (w'))), (D.val (Go.Value.int Go.IntKind.i64 (lo))), (D.val (Go.Value.int Go.IntKind.i64 (hi))), (D.val (Go.Value.int Go.IntKind.i64 (due)))])] [(D.agg [(D.val (Go.Value.int Go.IntKind.i64 (n7))), (D.val (Go.Value.int Go.IntKind.i64 (n8)))])]) ∧
 (bcase (if Bool.false = Bool.true then !(n2 == n7 && (n3 == n8 && Bool.true)) else n2 == n7 && (n3 == n8 && Bool.true))
 ((((Go.Value.bool true) = (Go.Value.bool true)) ∧
 ((bcase (if Bool.false = Bool.true then !(n2 == n7 && (n3 == n8 && Bool.true)) else n2 == n7 && (n3 == n8 && Bool.true))
 ((Go.Value.bool true) = (Go.Value.bool true))
 ((Go.Value.bool false) = (Go.Value.bool true))) ∧
 (((Go.Value.agg [(Go.Value.int Go.IntKind.i64 (n2)), (Go.Value.int Go.IntKind.i64 (n3))].toArray) = (Go.Value.agg [(Go.Value.int Go.IntKind.i64 (n2)), (Go.Value.int Go.IntKind.i64 (n3))].toArray)) ∧
 ((bcase (n4 == 0)
 ((Go.Value.bool true) = (Go.Value.bool true))
 ((Go.Value.bool false) = (Go.Value.bool true))) ∧
 (((Go.Value.int Go.IntKind.i64 (n4)) = (Go.Value.int Go.IntKind.i64 (n4))) ∧
 True))))) ∧
 (True ∧
 (k [(D.val (Go.Value.bool true))])))
 ((((Go.Value.bool false) = (Go.Value.bool false)) ∧
 ((bcase (if Bool.false = Bool.true then !(n2 == n7 && (n3 == n8 && Bool.true)) else n2 == n7 && (n3 == n8 && Bool.true))
 ((Go.Value.bool true) = (Go.Value.bool false))
 ((Go.Value.bool false) = (Go.Value.bool false))) ∧
 (((Go.Value.agg [(Go.Value.int Go.IntKind.i64 (n2)), (Go.Value.int Go.IntKind.i64 (n3))].toArray) = (Go.Value.agg [(Go.Value.int Go.IntKind.i64 (n2)), (Go.Value.int Go.IntKind.i64 (n3))].toArray)) ∧
 ((bcase (n4 == 0)
 ((Go.Value.bool true) = (Go.Value.bool true))
 ((Go.Value.bool false) = (Go.Value.bool true))) ∧
 (((Go.Value.int Go.IntKind.i64 (n4)) = (Go.Value.int Go.IntKind.i64 (n4))) ∧
 True))))) ∧
 (True ∧
 (k [(D.val (Go.Value.bool false))]))))))))
 ((((Go.Value.tuple [].toArray) = (Go.Value.tuple [].toArray)) ∧
 (((Go.Value.tuple [].toArray) = (Go.Value.tuple [].toArray)) ∧
 (((Go.Value.tuple [].toArray) = (Go.Value.tuple [].toArray)) ∧
 (((Go.Value.bool false) = (Go.Value.bool false)) ∧
 ((bcase (n4 == 0)
 ((Go.Value.bool true) = (Go.Value.bool false))
 ((Go.Value.bool false) = (Go.Value.bool false))) ∧
 (((Go.Value.int Go.IntKind.i64 (n4)) = (Go.Value.int Go.IntKind.i64 (n4))) ∧
 True)))))) ∧
 ((((Go.Value.bool false) = (Go.Value.bool false)) ∧
 (((Go.Value.tuple [].toArray) = (Go.Value.tuple [].toArray)) ∧
 (((Go.Value.tuple [].toArray) = (Go.Value.tuple [].toArray)) ∧
 ((bcase (n4 == 0)
 ((Go.Value.bool true) = (Go.Value.bool false))
 ((Go.Value.bool false) = (Go.Value.bool false))) ∧
 (((Go.Value.int Go.IntKind.i64 (n4)) = (Go.Value.int Go.IntKind.i64 (n4))) ∧
 True))))) ∧
 (True ∧
 (k [(D.val (Go.Value.bool false))])))))) ∨
 ((Says C 11 [(D.agg [(D.val (Go.Value.string (s))), (D.val (Go.Value.int Go.IntKind.i64 (g))), (D.val (Go.Value.int Go.IntKind.i64 (t))), (D.val (Go.Value.int Go.IntKind.i64 (w))), (D.val (Go.Value.int Go.IntKind.i64 (l)))]), (D.agg [(D.val (Go.Value.string (s'))), (D.val (Go.Value.int Go.IntKind.i64 (g'))), (D.val (Go.Value.int Go.IntKind.i64 (t'))), (D.val (Go.Value.int Go.IntKind.i64 (tol))), (D.val (Go.Value.int Go.IntKind.i64 (w'))), (D.val (Go.Value.int Go.IntKind.i64 (lo))), (D.val (Go.Value.int Go.IntKind.i64 (hi))), (D.val (Go.Value.int Go.IntKind.i64 (due)))])] [(D.val (Go.Value.bool false))]) ∧
 (k [(D.val (Go.Value.bool false))])))))))
 (bcase (n5 != 0)
 (bcase (n1 == n5)
 (bcase (n4 == n5)
 (k [(D.val (Go.Value.bool false))])
 (k [(D.val (Go.Value.bool false))]))
 (k [(D.val (Go.Value.bool false))]))
 (bcase (n1 != 0)
 (k [(D.val (Go.Value.bool false))])
 (((Says C 11 [(D.agg [(D.val (Go.Value.string (s))), (D.val (Go.Value.int Go.IntKind.i64 (g))), (D.val (Go.Value.int Go.IntKind.i64 (t))), (D.val (Go.Value.int Go.IntKind.i64 (w))), (D.val (Go.Value.int Go.IntKind.i64 (l)))]), (D.agg [(D.val (Go.Value.string (s'))), (D.val (Go.Value.int Go.IntKind.i64 (g'))), (D.val (Go.Value.int Go.IntKind.i64 (t'))), (D.val (Go.Value.int Go.IntKind.i64 (tol))), (D.val (Go.Value.int Go.IntKind.i64 (w'))), (D.val (Go.Value.int Go.IntKind.i64 (lo))), (D.val (Go.Value.int Go.IntKind.i64 (hi))), (D.val (Go.Value.int Go.IntKind.i64 (due)))])] [(D.val (Go.Value.bool true))]) ∧
 (bcase (n4 == 0)
 ((((Go.Value.agg [(Go.Value.string (s')), (Go.Value.int Go.IntKind.i64 (g')), (Go.Value.int Go.IntKind.i64 (t')), (Go.Value.int Go.IntKind.i64 (tol)), (Go.Value.int Go.IntKind.i64 (w')), (Go.Value.int Go.IntKind.i64 (lo)), (Go.Value.int Go.IntKind.i64 (hi)), (Go.Value.int Go.IntKind.i64 (due))].toArray) = (Go.Value.agg [(Go.Value.string (s')), (Go.Value.int Go.IntKind.i64 (g')), (Go.Value.int Go.IntKind.i64 (t')), (Go.Value.int Go.IntKind.i64 (tol)), (Go.Value.int Go.IntKind.i64 (w')), (Go.Value.int Go.IntKind.i64 (lo)), (Go.Value.int Go.IntKind.i64 (hi)), (Go.Value.int Go.IntKind.i64 (due))].toArray)) ∧
 (((Go.Value.agg [(Go.Value.string (s)), (Go.Value.int Go.IntKind.i64 (g)), (Go.Value.int Go.IntKind.i64 (t)), (Go.Value.int Go.IntKind.i64 (w)), (Go.Value.int Go.IntKind.i64 (l))].toArray) = (Go.Value.agg [(Go.Value.string (s)), (Go.Value.int Go.IntKind.i64 (g)), (Go.Value.int Go.IntKind.i64 (t)), (Go.Value.int Go.IntKind.i64 (w)), (Go.Value.int Go.IntKind.i64 (l))].toArray)) ∧
 (((Go.Value.agg [(Go.Value.int Go.IntKind.i64 (n2)), (Go.Value.int Go.IntKind.i64 (n3))].toArray) = (Go.Value.agg [(Go.Value.int Go.IntKind.i64 (n2)), (Go.Value.int Go.IntKind.i64 (n3))].toArray)) ∧
 (((Go.Value.bool true) = (Go.Value.bool true)) ∧
 ((bcase (n4 == 0)
 ((Go.Value.bool true) = (Go.Value.bool true))
 ((Go.Value.bool false) = (Go.Value.bool true))) ∧
 (((Go.Value.int Go.IntKind.i64 (n4)) = (Go.Value.int Go.IntKind.i64 (n4))) ∧
 True)))))) ∧
 (∃ n6 : Int,
 (∃ n7 : Int,
 ((Says C 12 [(D.agg [(D.val (Go.Value.string (s))), (D.val (Go.Value.int Go.IntKind.i64 (g))), (D.val (Go.Value.int Go.IntKind.i64 (t))), (D.val (Go.Value.int Go.IntKind.i64 (w))), (D.val (Go.Value.int Go.IntKind.i64 (l)))]), (D.agg [(D.val (Go.Value.string (s'))), (D.val (Go.Value.int Go.IntKind.i64 (g'))), (D.val (Go.Value.int Go.IntKind.i64 (t'))), (D.val (Go.Value.int Go.IntKind.i64 (tol))), (D.val (Go.Value.int Go.IntKind.i64 (w'))), (D.val (Go.Value.int Go.IntKind.i64 (lo))), (D.val (Go.Value.int Go.IntKind.i64 (hi))), (D.val (Go.Value.int Go.IntKind.i64 (due)))])] [(D.agg [(D.val (Go.Value.int Go.IntKind.i64 (n6))), (D.val (Go.Value.int Go.IntKind.i64 (n7)))])]) ∧
 (bcase (if Bool.false = Bool.true then !(n2 == n6 && (n3 == n7 && Bool.true)) else n2 == n6 && (n3 == n7 && Bool.true))
 ((((Go.Value.bool true) = (Go.Value.bool true)) ∧
 ((bcase (if Bool.false = Bool.true then !(n2 == n6 && (n3 == n7 && Bool.true)) else n2 == n6 && (n3 == n7 && Bool.true))
 ((Go.Value.bool true) = (Go.Value.bool true))
 ((Go.Value.bool false) = (Go.Value.bool true))) ∧
 (((Go.Value.agg [(Go.Value.int Go.IntKind.i64 (n2)), (Go.Value.int Go.IntKind.i64 (n3))].toArray) = (Go.Value.agg [(Go.Value.int Go.IntKind.i64 (n2)), (Go.Value.int Go.IntKind.i64 (n3))].toArray)) ∧
 ((bcase (n4 == 0)
 ((Go.Value.bool true) = (Go.Value.bool true))
 ((Go.Value.bool false) = (Go.Value.bool true))) ∧
 (((Go.Value.int Go.IntKind.i64 (n4)) = (Go.Value.int Go.IntKind.i64 (n4))) ∧
 True))))) ∧
 (True ∧
 (k [(D.val (Go.Value.bool true))])))
 ((((Go.Value.bool false) = (Go.Value.bool false)) ∧
 ((bcase (if Bool.false = Bool.true then !(n2 == n6 && (n3 == n7 && Bool.true)) else n2 == n6 && (n3 == n7 && Bool.true))
 ((Go.Value.bool true) = (Go.Value.bool false))
 ((Go.Value.bool false) = (Go.Value.bool false))) ∧
 (((Go.Value.agg [(Go.Value.int Go.IntKind.i64 (n2)), (Go.Value.int Go.IntKind.i64 (n3))].toArray) = (Go.Value.agg [(Go.Value.int Go.IntKind.i64 (n2)), (Go.Value.int Go.IntKind.i64 (n3))].toArray)) ∧
 ((bcase (n4 == 0)
 ((Go.Value.bool true) = (Go.Value.bool true))
 ((Go.Value.bool false) = (Go.Value.bool true))) ∧
 (((Go.Value.int Go.IntKind.i64 (n4)) = (Go.Value.int Go.IntKind.i64 (n4))) ∧
 True))))) ∧
 (True ∧
 (k [(D.val (Go.Value.bool false))]))))))))
 ((((Go.Value.tuple [].toArray) = (Go.Value.tuple [].toArray)) ∧
 (((Go.Value.tuple [].toArray) = (Go.Value.tuple [].toArray)) ∧
 (((Go.Value.tuple [].toArray) = (Go.Value.tuple [].toArray)) ∧
 (((Go.Value.bool false) = (Go.Value.bool false)) ∧
 ((bcase (n4 == 0)
 ((Go.Value.bool true) = (Go.Value.bool false))
 ((Go.Value.bool false) = (Go.Value.bool false))) ∧
 (((Go.Value.int Go.IntKind.i64 (n4)) = (Go.Value.int Go.IntKind.i64 (n4))) ∧
 True)))))) ∧
 ((((Go.Value.bool false) = (Go.Value.bool false)) ∧
 (((Go.Value.tuple [].toArray) = (Go.Value.tuple [].toArray)) ∧
 (((Go.Value.tuple [].toArray) = (Go.Value.tuple [].toArray)) ∧
 ((bcase (n4 == 0)
 ((Go.Value.bool true) = (Go.Value.bool false))
 ((Go.Value.bool false) = (Go.Value.bool false))) ∧
 (((Go.Value.int Go.IntKind.i64 (n4)) = (Go.Value.int Go.IntKind.i64 (n4))) ∧
 True))))) ∧
 (True ∧
 (k [(D.val (Go.Value.bool false))])))))) ∨
 ((Says C 11 [(D.agg [(D.val (Go.Value.string (s))), (D.val (Go.Value.int Go.IntKind.i64 (g))), (D.val (Go.Value.int Go.IntKind.i64 (t))), (D.val (Go.Value.int Go.IntKind.i64 (w))), (D.val (Go.Value.int Go.IntKind.i64 (l)))]), (D.agg [(D.val (Go.Value.string (s'))), (D.val (Go.Value.int Go.IntKind.i64 (g'))), (D.val (Go.Value.int Go.IntKind.i64 (t'))), (D.val (Go.Value.int Go.IntKind.i64 (tol))), (D.val (Go.Value.int Go.IntKind.i64 (w'))), (D.val (Go.Value.int Go.IntKind.i64 (lo))), (D.val (Go.Value.int Go.IntKind.i64 (hi))), (D.val (Go.Value.int Go.IntKind.i64 (due)))])] [(D.val (Go.Value.bool false))]) ∧
 (k [(D.val (Go.Value.bool false))])))))))))))))) ∨
 (∃ n1 : Int,
 ((Says C 7 [(D.agg [(D.val (Go.Value.string (s))), (D.val (Go.Value.int Go.IntKind.i64 (g))), (D.val (Go.Value.int Go.IntKind.i64 (t))), (D.val (Go.Value.int Go.IntKind.i64 (w))), (D.val (Go.Value.int Go.IntKind.i64 (l)))]), (D.agg [(D.val (Go.Value.string (s'))), (D.val (Go.Value.int Go.IntKind.i64 (g'))), (D.val (Go.Value.int Go.IntKind.i64 (t'))), (D.val (Go.Value.int Go.IntKind.i64 (tol))), (D.val (Go.Value.int Go.IntKind.i64 (w'))), (D.val (Go.Value.int Go.IntKind.i64 (lo))), (D.val (Go.Value.int Go.IntKind.i64 (hi))), (D.val (Go.Value.int Go.IntKind.i64 (due)))])] [(D.val (Go.Value.bool false)), (D.val (Go.Value.int Go.IntKind.i64 (n1)))]) ∧
 (∃ n2 : Int,
 (∃ n3 : Int,
 (∃ n4 : Int,
 ((Says C 8 [(D.agg [(D.val (Go.Value.string (s))), (D.val (Go.Value.int Go.IntKind.i64 (g))), (D.val (Go.Value.int Go.IntKind.i64 (t))), (D.val (Go.Value.int Go.IntKind.i64 (w))), (D.val (Go.Value.int Go.IntKind.i64 (l)))]), (D.agg [(D.val (Go.Value.string (s'))), (D.val (Go.Value.int Go.IntKind.i64 (g'))), (D.val (Go.Value.int Go.IntKind.i64 (t'))), (D.val (Go.Value.int Go.IntKind.i64 (tol))), (D.val (Go.Value.int Go.IntKind.i64 (w'))), (D.val (Go.Value.int Go.IntKind.i64 (lo))), (D.val (Go.Value.int Go.IntKind.i64 (hi))), (D.val (Go.Value.int Go.IntKind.i64 (due)))])] [(D.agg [(D.val (Go.Value.int Go.IntKind.i64 (n2))), (D.val (Go.Value.int Go.IntKind.i64 (n3)))]), (D.val (Go.Value.int Go.IntKind.i64 (n4)))]) ∧
 (∃ n5 : Int,
 ((Says C 9 [(D.agg [(D.val (Go.Value.string (s))), (D.val (Go.Value.int Go.IntKind.i64 (g))), (D.val (Go.Value.int Go.IntKind.i64 (t))), (D.val (Go.Value.int Go.IntKind.i64 (w))), (D.val (Go.Value.int Go.IntKind.i64 (l)))])] [(D.val (Go.Value.int Go.IntKind.i64 (n5)))]) ∧
 (bcase (n5 == 0)
 (∃ n6 : Int,
 ((Says C 10 [(D.agg [(D.val (Go.Value.string (s'))), (D.val (Go.Value.int Go.IntKind.i64 (g'))), (D.val (Go.Value.int Go.IntKind.i64 (t'))), (D.val (Go.Value.int Go.IntKind.i64 (tol))), (D.val (Go.Value.int Go.IntKind.i64 (w'))), (D.val (Go.Value.int Go.IntKind.i64 (lo))), (D.val (Go.Value.int Go.IntKind.i64 (hi))), (D.val (Go.Value.int Go.IntKind.i64 (due)))])] [(D.val (Go.Value.int Go.IntKind.i64 (n6)))]) ∧
 (bcase (n6 != 0)
 (bcase (n1 == n6)
 (bcase (n4 == n6)
 (bcase (if Bool.false = Bool.true then !(n2 == 0 && (n3 == 0 && Bool.true)) else n2 == 0 && (n3 == 0 && Bool.true))
 (k [(D.val (Go.Value.bool true))])
 (k [(D.val (Go.Value.bool false))]))
 (k [(D.val (Go.Value.bool false))]))
 (k [(D.val (Go.Value.bool false))]))
 (bcase (n1 != 0)
 (k [(D.val (Go.Value.bool false))])
 (((Says C 11 [(D.agg [(D.val (Go.Value.string (s))), (D.val (Go.Value.int Go.IntKind.i64 (g))), (D.val (Go.Value.int Go.IntKind.i64 (t))), (D.val (Go.Value.int Go.IntKind.i64 (w))), (D.val (Go.Value.int Go.IntKind.i64 (l)))]), (D.agg [(D.val (Go.Value.string (s'))), (D.val (Go.Value.int Go.IntKind.i64 (g'))), (D.val (Go.Value.int Go.IntKind.i64 (t'))), (D.val (Go.Value.int Go.IntKind.i64 (tol))), (D.val (Go.Value.int Go.IntKind.i64 (w'))), (D.val (Go.Value.int Go.IntKind.i64 (lo))), (D.val (Go.Value.int Go.IntKind.i64 (hi))), (D.val (Go.Value.int Go.IntKind.i64 (due)))])] [(D.val (Go.Value.bool true))]) ∧
 (k [(D.val (Go.Value.bool false))])) ∨
 ((Says C 11 [(D.agg [(D.val (Go.Value.string (s))), (D.val (Go.Value.int Go.IntKind.i64 (g))), (D.val (Go.Value.int Go.IntKind.i64 (t))), (D.val (Go.Value.int Go.IntKind.i64 (w))), (D.val (Go.Value.int Go.IntKind.i64 (l)))]), (D.agg [(D.val (Go.Value.string (s'))), (D.val (Go.Value.int Go.IntKind.i64 (g'))), (D.val (Go.Value.int Go.IntKind.i64 (t'))), (D.val (Go.Value.int Go.IntKind.i64 (tol))), (D.val (Go.Value.int Go.IntKind.i64 (w'))), (D.val (Go.Value.int Go.IntKind.i64 (lo))), (D.val (Go.Value.int Go.IntKind.i64 (hi))), (D.val (Go.Value.int Go.IntKind.i64 (due)))])] [(D.val (Go.Value.bool false))]) ∧
 (bcase (n4 == 13)
 (bcase (if Bool.false = Bool.true then !(n2 == 0 && (n3 == 0 && Bool.true)) else n2 == 0 && (n3 == 0 && Bool.true))
 (k [(D.val (Go.Value.bool true))])
 (k [(D.val (Go.Value.bool false))]))
 (k [(D.val (Go.Value.bool false))]))))))))
 (bcase (n5 != 0)
 (bcase (n1 == n5)
 (bcase (n4 == n5)
 (bcase (if Bool.false = Bool.true then !(n2 == 0 && (n3 == 0 && Bool.true)) else n2 == 0 && (n3 == 0 && Bool.true))
 (k [(D.val (Go.Value.bool true))])
 (k [(D.val (Go.Value.bool false))]))
 (k [(D.val (Go.Value.bool false))]))
 (k [(D.val (Go.Value.bool false))]))
 (bcase (n1 != 0)
 (k [(D.val (Go.Value.bool false))])
 (((Says C 11 [(D.agg [(D.val (Go.Value.string (s))), (D.val (Go.Value.int Go.IntKind.i64 (g))), (D.val (Go.Value.int Go.IntKind.i64 (t))), (D.val (Go.Value.int Go.IntKind.i64 (w))), (D.val (Go.Value.int Go.IntKind.i64 (l)))]), (D.agg [(D.val (Go.Value.string (s'))), (D.val (Go.Value.int Go.IntKind.i64 (g'))), (D.val (Go.Value.int Go.IntKind.i64 (t'))), (D.val (Go.Value.int Go.IntKind.i64 (tol))), (D.val (Go.Value.int Go.IntKind.i64 (w'))), (D.val (Go.Value.int Go.IntKind.i64 (lo))), (D.val (Go.Value.int Go.IntKind.i64 (hi))), (D.val (Go.Value.int Go.IntKind.i64 (due)))])] [(D.val (Go.Value.bool true))]) ∧
 (k [(D.val (Go.Value.bool false))])) ∨
 ((Says C 11 [(D.agg [(D.val (Go.Value.string (s))), (D.val (Go.Value.int Go.IntKind.i64 (g))), (D.val (Go.Value.int Go.IntKind.i64 (t))), (D.val (Go.Value.int Go.IntKind.i64 (w))), (D.val (Go.Value.int Go.IntKind.i64 (l)))]), (D.agg [(D.val (Go.Value.string (s'))), (D.val (Go.Value.int Go.IntKind.i64 (g'))), (D.val (Go.Value.int Go.IntKind.i64 (t'))), (D.val (Go.Value.int Go.IntKind.i64 (tol))), (D.val (Go.Value.int Go.IntKind.i64 (w'))), (D.val (Go.Value.int Go.IntKind.i64 (lo))), (D.val (Go.Value.int Go.IntKind.i64 (hi))), (D.val (Go.Value.int Go.IntKind.i64 (due)))])] [(D.val (Go.Value.bool false))]) ∧
 (bcase (n4 == 13)
 (bcase (if Bool.false = Bool.true then !(n2 == 0 && (n3 == 0 && Bool.true)) else n2 == 0 && (n3 == 0 && Bool.true))
 (k [(D.val (Go.Value.bool true))])
 (k [(D.val (Go.Value.bool false))]))
 (k [(D.val (Go.Value.bool false))]))))))))))))))))))) ∨
 ((Says C 6 [] [(D.val (Go.Value.bool false))]) ∧
 (k [(D.val (Go.Value.bool false))]))) := by kernel_rfl
def g4 (C : Ct) (L : AtLoop) (s : ByteArray) (g t w l : Int) (s' : ByteArray) (g' t' tol w' lo hi due more : Int) (k : List D → Prop) : Prop := wpFn Tryz.prog (hN C) L 0 4 #[vSlab s g t w l, vOrder s' g' t' tol w' lo hi due, .int .i64 more] (heapOf []) (dataK k)
theorem g4_text (C : Ct) (L : AtLoop) (s : ByteArray) (g : Int) (t : Int) (w : Int) (l : Int) (s' : ByteArray) (g' : Int) (t' : Int) (tol : Int) (w' : Int) (lo : Int) (hi : Int) (due : Int) (more : Int) (k : List D → Prop) : g4 C L s g t w l s' g' t' tol w' lo hi due more k =
 (((Says C 6 [] [(D.val (Go.Value.bool true))]) ∧
 (∃ n1 : Int,
 ((Says C 9 [(D.agg [(D.val (Go.Value.string (s))), (D.val (Go.Value.int Go.IntKind.i64 (g))), (D.val (Go.Value.int Go.IntKind.i64 (t))), (D.val (Go.Value.int Go.IntKind.i64 (w))), (D.val (Go.Value.int Go.IntKind.i64 (l)))])] [(D.val (Go.Value.int Go.IntKind.i64 (n1)))]) ∧
 (bcase (n1 != 0)
 (k [(D.val (Go.Value.bool true))])
 (∃ n2 : Int,
 ((Says C 10 [(D.agg [(D.val (Go.Value.string (s'))), (D.val (Go.Value.int Go.IntKind.i64 (g'))), (D.val (Go.Value.int Go.IntKind.i64 (t'))), (D.val (Go.Value.int Go.IntKind.i64 (tol))), (D.val (Go.Value.int Go.IntKind.i64 (w'))), (D.val (Go.Value.int Go.IntKind.i64 (lo))), (D.val (Go.Value.int Go.IntKind.i64 (hi))), (D.val (Go.Value.int Go.IntKind.i64 (due)))])] [(D.val (Go.Value.int Go.IntKind.i64 (n2)))]) ∧
 (bcase (n2 != 0)
 (k [(D.val (Go.Value.bool true))])
 (((Says C 11 [(D.agg [(D.val (Go.Value.string (s))), (D.val (Go.Value.int Go.IntKind.i64 (g))), (D.val (Go.Value.int Go.IntKind.i64 (t))), (D.val (Go.Value.int Go.IntKind.i64 (w))), (D.val (Go.Value.int Go.IntKind.i64 (l)))]), (D.agg [(D.val (Go.Value.string (s'))), (D.val (Go.Value.int Go.IntKind.i64 (g'))), (D.val (Go.Value.int Go.IntKind.i64 (t'))), (D.val (Go.Value.int Go.IntKind.i64 (tol))), (D.val (Go.Value.int Go.IntKind.i64 (w'))), (D.val (Go.Value.int Go.IntKind.i64 (lo))), (D.val (Go.Value.int Go.IntKind.i64 (hi))), (D.val (Go.Value.int Go.IntKind.i64 (due)))])] [(D.val (Go.Value.bool true))]) ∧
 (∃ n3 : Int,
 (∃ n4 : Int,
 (∃ n5 : Int,
 ((Says C 8 [(D.agg [(D.val (Go.Value.string (s))), (D.val (Go.Value.int Go.IntKind.i64 (g))), (D.val (Go.Value.int Go.IntKind.i64 (t))), (D.val (Go.Value.int Go.IntKind.i64 (w))), (D.val (Go.Value.int Go.IntKind.i64 (l)))]), (D.agg [(D.val (Go.Value.string (s'))), (D.val (Go.Value.int Go.IntKind.i64 (g'))), (D.val (Go.Value.int Go.IntKind.i64 (t'))), (D.val (Go.Value.int Go.IntKind.i64 (tol))), (D.val (Go.Value.int Go.IntKind.i64 (w'))), (D.val (Go.Value.int Go.IntKind.i64 (lo))), (D.val (Go.Value.int Go.IntKind.i64 (hi))), (D.val (Go.Value.int Go.IntKind.i64 (due)))])] [(D.agg [(D.val (Go.Value.int Go.IntKind.i64 (n3))), (D.val (Go.Value.int Go.IntKind.i64 (n4)))]), (D.val (Go.Value.int Go.IntKind.i64 (n5)))]) ∧
 (∃ n6 : Int,
 (∃ n7 : Int,
 (∃ n8 : Int,
 ((Says C 8 [(D.agg [(D.val (Go.Value.string (s))), (D.val (Go.Value.int Go.IntKind.i64 (g))), (D.val (Go.Value.int Go.IntKind.i64 (t))), (D.val (Go.Value.int Go.IntKind.i64 (w))), (D.val (Go.Value.int Go.IntKind.i64 (l)))]), (D.agg [(D.val (Go.Value.string (s'))), (D.val (Go.Value.int Go.IntKind.i64 (g'))), (D.val (Go.Value.int Go.IntKind.i64 (t'))), (D.val (Go.Value.int Go.IntKind.i64 (0 : Int))), (D.val (Go.Value.int Go.IntKind.i64 (w'))), (D.val (Go.Value.int Go.IntKind.i64 (lo))), (D.val (Go.Value.int Go.IntKind.i64 (hi))), (D.val (Go.Value.int Go.IntKind.i64 (due)))])] [(D.agg [(D.val (Go.Value.int Go.IntKind.i64 (n6))), (D.val (Go.Value.int Go.IntKind.i64 (n7)))]), (D.val (Go.Value.int Go.IntKind.i64 (n8)))]) ∧
 (bcase (n5 != 0)
 (k [(D.val (Go.Value.bool false))])
 (bcase (n8 != 0)
 (k [(D.val (Go.Value.bool false))])
 (bcase (decide (0 ≤ n3))
 (bcase (decide (n3 ≤ n6))
 (bcase (decide (n4 < n7))
 (k [(D.val (Go.Value.bool false))])
 (bcase (decide (0 ≤ n6))
 (bcase (decide (n6 ≤ Go.IntKind.wrap Go.IntKind.i64 (6000000000 * 5)))
 (bcase (decide (0 ≤ Go.IntKind.wrap Go.IntKind.i64 (n7 - n6)))
 (bcase (decide (Go.IntKind.wrap Go.IntKind.i64 (n7 - n6) ≤ 1))
 ((((Go.Value.int Go.IntKind.i64 (Go.IntKind.wrap Go.IntKind.i64 (t' * w'))) = (Go.Value.int Go.IntKind.i64 (Go.IntKind.wrap Go.IntKind.i64 (t' * w')))) ∧
 (((Go.Value.int Go.IntKind.i64 (w')) = (Go.Value.int Go.IntKind.i64 (w'))) ∧
 (((Go.Value.pointer (Option.some (Go.Addr.mk 1001 4 Option.none))) = (Go.Value.pointer (Option.some (Go.Addr.mk 1001 4 Option.none)))) ∧
 (((Go.Value.int Go.IntKind.i64 (t')) = (Go.Value.int Go.IntKind.i64 (t'))) ∧
 (((Go.Value.pointer (Option.some (Go.Addr.mk 1001 2 Option.none))) = (Go.Value.pointer (Option.some (Go.Addr.mk 1001 2 Option.none)))) ∧
 (((Go.Value.int Go.IntKind.i64 (Go.IntKind.wrap Go.IntKind.i64 (Go.IntKind.wrap Go.IntKind.i64 (t * w) * l))) = (Go.Value.int Go.IntKind.i64 (Go.IntKind.wrap Go.IntKind.i64 (Go.IntKind.wrap Go.IntKind.i64 (t * w) * l)))) ∧
 (((Go.Value.int Go.IntKind.i64 (l)) = (Go.Value.int Go.IntKind.i64 (l))) ∧
 (((Go.Value.pointer (Option.some (Go.Addr.mk 1000 4 Option.none))) = (Go.Value.pointer (Option.some (Go.Addr.mk 1000 4 Option.none)))) ∧
 (((Go.Value.int Go.IntKind.i64 (Go.IntKind.wrap Go.IntKind.i64 (t * w))) = (Go.Value.int Go.IntKind.i64 (Go.IntKind.wrap Go.IntKind.i64 (t * w)))) ∧
 (((Go.Value.int Go.IntKind.i64 (w)) = (Go.Value.int Go.IntKind.i64 (w))) ∧
 (((Go.Value.pointer (Option.some (Go.Addr.mk 1000 3 Option.none))) = (Go.Value.pointer (Option.some (Go.Addr.mk 1000 3 Option.none)))) ∧
 (((Go.Value.int Go.IntKind.i64 (t)) = (Go.Value.int Go.IntKind.i64 (t))) ∧
 (((Go.Value.pointer (Option.some (Go.Addr.mk 1000 2 Option.none))) = (Go.Value.pointer (Option.some (Go.Addr.mk 1000 2 Option.none)))) ∧
 True))))))))))))) ∧
 ((((Go.Value.int Go.IntKind.i64 (Go.IntKind.wrap Go.IntKind.i64 (t' * w'))) = (Go.Value.int Go.IntKind.i64 (Go.IntKind.wrap Go.IntKind.i64 (t' * w')))) ∧
 (((Go.Value.int Go.IntKind.i64 (w')) = (Go.Value.int Go.IntKind.i64 (w'))) ∧
 (((Go.Value.pointer (Option.some (Go.Addr.mk 1001 4 Option.none))) = (Go.Value.pointer (Option.some (Go.Addr.mk 1001 4 Option.none)))) ∧
 (((Go.Value.int Go.IntKind.i64 (t')) = (Go.Value.int Go.IntKind.i64 (t'))) ∧
 (((Go.Value.pointer (Option.some (Go.Addr.mk 1001 2 Option.none))) = (Go.Value.pointer (Option.some (Go.Addr.mk 1001 2 Option.none)))) ∧
 True))))) ∧
 (True ∧
 (bcase (decide (Go.IntKind.wrap Go.IntKind.i64 (n6 * Go.IntKind.wrap Go.IntKind.i64 (t' * w')) > Go.IntKind.wrap Go.IntKind.i64 (Go.IntKind.wrap Go.IntKind.i64 (t * w) * l)))
 (k [(D.val (Go.Value.bool false))])
 (bcase (decide (Go.IntKind.wrap Go.IntKind.i64 (n7 * Go.IntKind.wrap Go.IntKind.i64 (t' * w')) < Go.IntKind.wrap Go.IntKind.i64 (Go.IntKind.wrap Go.IntKind.i64 (t * w) * l)))
 (k [(D.val (Go.Value.bool false))])
 (bcase (decide (Go.IntKind.wrap Go.IntKind.i64 (Go.IntKind.wrap Go.IntKind.i64 (n6 + 1) * Go.IntKind.wrap Go.IntKind.i64 (t' * w')) ≤ Go.IntKind.wrap Go.IntKind.i64 (Go.IntKind.wrap Go.IntKind.i64 (t * w) * l)))
 (k [(D.val (Go.Value.bool false))])
 ((((Go.Value.int Go.IntKind.i64 (more)) = (Go.Value.int Go.IntKind.i64 (more))) ∧
 (((Go.Value.int Go.IntKind.i64 (l)) = (Go.Value.int Go.IntKind.i64 (l))) ∧
 (((Go.Value.pointer (Option.some (Go.Addr.mk 1000 4 Option.none))) = (Go.Value.pointer (Option.some (Go.Addr.mk 1000 4 Option.none)))) ∧
 True))) ∧
 (bcase (decide (Int.tmod more 100 < 0))
 ((((Go.Value.pointer (Option.some (Go.Addr.mk 1005 4 Option.none))) = (Go.Value.pointer (Option.some (Go.Addr.mk 1005 4 Option.none)))) ∧
 (((Go.Value.int Go.IntKind.i64 (Go.IntKind.wrap Go.IntKind.i64 (l + Go.IntKind.wrap Go.IntKind.i64 (Int.tmod more 100 + 100)))) = (Go.Value.int Go.IntKind.i64 (Go.IntKind.wrap Go.IntKind.i64 (l + Go.IntKind.wrap Go.IntKind.i64 (Int.tmod more 100 + 100))))) ∧
 (((Go.Value.int Go.IntKind.i64 (l)) = (Go.Value.int Go.IntKind.i64 (l))) ∧
 (((Go.Value.pointer (Option.some (Go.Addr.mk 1000 4 Option.none))) = (Go.Value.pointer (Option.some (Go.Addr.mk 1000 4 Option.none)))) ∧
 True)))) ∧
 (True ∧
 (∃ n9 : Int,
 ((Says C 9 [(D.agg [(D.val (Go.Value.string (s))), (D.val (Go.Value.int Go.IntKind.i64 (g))), (D.val (Go.Value.int Go.IntKind.i64 (t))), (D.val (Go.Value.int Go.IntKind.i64 (w))), (D.val (Go.Value.int Go.IntKind.i64 (Go.IntKind.wrap Go.IntKind.i64 (l + Go.IntKind.wrap Go.IntKind.i64 (Int.tmod more 100 + 100)))))])] [(D.val (Go.Value.int Go.IntKind.i64 (n9)))]) ∧
 (bcase (n9 != 0)
 (k [(D.val (Go.Value.bool true))])
 (∃ n10 : Int,
 (∃ n11 : Int,
 (∃ n12 : Int,
 ((Says C 8 [(D.agg [(D.val (Go.Value.string (s))), (D.val (Go.Value.int Go.IntKind.i64 (g))), (D.val (Go.Value.int Go.IntKind.i64 (t))), (D.val (Go.Value.int Go.IntKind.i64 (w))), (D.val (Go.Value.int Go.IntKind.i64 (Go.IntKind.wrap Go.IntKind.i64 (l + Go.IntKind.wrap Go.IntKind.i64 (Int.tmod more 100 + 100)))))]), (D.agg [(D.val (Go.Value.string (s'))), (D.val (Go.Value.int Go.IntKind.i64 (g'))), (D.val (Go.Value.int Go.IntKind.i64 (t'))), (D.val (Go.Value.int Go.IntKind.i64 (tol))), (D.val (Go.Value.int Go.IntKind.i64 (w'))), (D.val (Go.Value.int Go.IntKind.i64 (lo))), (D.val (Go.Value.int Go.IntKind.i64 (hi))), (D.val (Go.Value.int Go.IntKind.i64 (due)))])] [(D.agg [(D.val (Go.Value.int Go.IntKind.i64 (n10))), (D.val (Go.Value.int Go.IntKind.i64 (n11)))]), (D.val (Go.Value.int Go.IntKind.i64 (n12)))]) ∧
 (bcase (n12 == 0)
 (bcase (decide (n10 ≥ n3))
 (bcase (decide (n11 ≥ n4))
 (k [(D.val (Go.Value.bool true))])
 (k [(D.val (Go.Value.bool false))]))
 (k [(D.val (Go.Value.bool false))]))
 (k [(D.val (Go.Value.bool false))])))))))))))
 ((((Go.Value.pointer (Option.some (Go.Addr.mk 1005 4 Option.none))) = (Go.Value.pointer (Option.some (Go.Addr.mk 1005 4 Option.none)))) ∧
 (((Go.Value.int Go.IntKind.i64 (Go.IntKind.wrap Go.IntKind.i64 (l + Int.tmod more 100))) = (Go.Value.int Go.IntKind.i64 (Go.IntKind.wrap Go.IntKind.i64 (l + Int.tmod more 100)))) ∧
 (((Go.Value.int Go.IntKind.i64 (l)) = (Go.Value.int Go.IntKind.i64 (l))) ∧
 (((Go.Value.pointer (Option.some (Go.Addr.mk 1000 4 Option.none))) = (Go.Value.pointer (Option.some (Go.Addr.mk 1000 4 Option.none)))) ∧
 True)))) ∧
 (True ∧
 (∃ n9 : Int,
 ((Says C 9 [(D.agg [(D.val (Go.Value.string (s))), (D.val (Go.Value.int Go.IntKind.i64 (g))), (D.val (Go.Value.int Go.IntKind.i64 (t))), (D.val (Go.Value.int Go.IntKind.i64 (w))), (D.val (Go.Value.int Go.IntKind.i64 (Go.IntKind.wrap Go.IntKind.i64 (l + Int.tmod more 100))))])] [(D.val (Go.Value.int Go.IntKind.i64 (n9)))]) ∧
 (bcase (n9 != 0)
 (k [(D.val (Go.Value.bool true))])
 (∃ n10 : Int,
 (∃ n11 : Int,
 (∃ n12 : Int,
 ((Says C 8 [(D.agg [(D.val (Go.Value.string (s))), (D.val (Go.Value.int Go.IntKind.i64 (g))), (D.val (Go.Value.int Go.IntKind.i64 (t))), (D.val (Go.Value.int Go.IntKind.i64 (w))), (D.val (Go.Value.int Go.IntKind.i64 (Go.IntKind.wrap Go.IntKind.i64 (l + Int.tmod more 100))))]), (D.agg [(D.val (Go.Value.string (s'))), (D.val (Go.Value.int Go.IntKind.i64 (g'))), (D.val (Go.Value.int Go.IntKind.i64 (t'))), (D.val (Go.Value.int Go.IntKind.i64 (tol))), (D.val (Go.Value.int Go.IntKind.i64 (w'))), (D.val (Go.Value.int Go.IntKind.i64 (lo))), (D.val (Go.Value.int Go.IntKind.i64 (hi))), (D.val (Go.Value.int Go.IntKind.i64 (due)))])] [(D.agg [(D.val (Go.Value.int Go.IntKind.i64 (n10))), (D.val (Go.Value.int Go.IntKind.i64 (n11)))]), (D.val (Go.Value.int Go.IntKind.i64 (n12)))]) ∧
 (bcase (n12 == 0)
 (bcase (decide (n10 ≥ n3))
 (bcase (decide (n11 ≥ n4))
 (k [(D.val (Go.Value.bool true))])
 (k [(D.val (Go.Value.bool false))]))
 (k [(D.val (Go.Value.bool false))]))
 (k [(D.val (Go.Value.bool false))])))))))))))))))))))
 (k [(D.val (Go.Value.bool false))]))
 (k [(D.val (Go.Value.bool false))]))
 (k [(D.val (Go.Value.bool false))]))
 (k [(D.val (Go.Value.bool false))])))
 (k [(D.val (Go.Value.bool false))]))
 (k [(D.val (Go.Value.bool false))]))))))))))))) ∨
 ((Says C 11 [(D.agg [(D.val (Go.Value.string (s))), (D.val (Go.Value.int Go.IntKind.i64 (g))), (D.val (Go.Value.int Go.IntKind.i64 (t))), (D.val (Go.Value.int Go.IntKind.i64 (w))), (D.val (Go.Value.int Go.IntKind.i64 (l)))]), (D.agg [(D.val (Go.Value.string (s'))), (D.val (Go.Value.int Go.IntKind.i64 (g'))), (D.val (Go.Value.int Go.IntKind.i64 (t'))), (D.val (Go.Value.int Go.IntKind.i64 (tol))), (D.val (Go.Value.int Go.IntKind.i64 (w'))), (D.val (Go.Value.int Go.IntKind.i64 (lo))), (D.val (Go.Value.int Go.IntKind.i64 (hi))), (D.val (Go.Value.int Go.IntKind.i64 (due)))])] [(D.val (Go.Value.bool false))]) ∧
 (k [(D.val (Go.Value.bool true))])))))))))) ∨
 ((Says C 6 [] [(D.val (Go.Value.bool false))]) ∧
 (k [(D.val (Go.Value.bool false))]))) := by kernel_rfl
end Go.Proofs.C1
