/- What is left to show of each function, written out; the kernel reckons it. -/
import Derived.Test.YtiahlinolhpecaaF2Bt
namespace Go.Proofs.B
open Go Go.Abs Go.Proofs
set_option maxRecDepth 100000
set_option linter.unusedVariables false
def g37n (C : Ct) (L : AtLoop) (k : List D → Prop) : Prop := wpFn Try.prog (hN C) L 0 37 #[.slice none 0 0] (heapOf []) (dataK k)
theorem g37n_text (C : Ct) (L : AtLoop) (k : List D → Prop) : g37n C L k =
 (((0 = 0) ∧
 (0 = 0)) ∧
 (k [(D.sl 0 1 [])])) := by kernel_rfl
def g62n (C : Ct) (L : AtLoop) (beat : Int) (k : List D → Prop) : Prop := wpFn Try.prog (hF C) L 0 62 #[.agg #[.slice none 0 0, i6 beat]] (heapOf []) (dataK k)
theorem g62n_text (C : Ct) (L : AtLoop) (beat : Int) (k : List D → Prop) : g62n C L beat k =
 ((((Go.Value.int Go.IntKind.i64 (beat)) = (Go.Value.int Go.IntKind.i64 (beat))) ∧
 (((Go.Value.pointer (Option.some (Go.Addr.mk 1000 1 Option.none))) = (Go.Value.pointer (Option.some (Go.Addr.mk 1000 1 Option.none)))) ∧
 (((Go.Value.slice Option.none 0 0) = (Go.Value.slice Option.none 0 0)) ∧
 (((Go.Value.pointer (Option.some (Go.Addr.mk 1000 0 Option.none))) = (Go.Value.pointer (Option.some (Go.Addr.mk 1000 0 Option.none)))) ∧
 True)))) ∧
 ((Says C 37 [D.nil] [(D.sl 0 1 [])]) ∧
 ((((Go.Value.agg [(Go.Value.slice (Option.some (Go.Addr.mk 1002 0 Option.none)) 0 0), (Go.Value.int Go.IntKind.i64 (beat))].toArray) = (Go.Value.agg [(Go.Value.slice (Option.some (Go.Addr.mk 1002 0 Option.none)) 0 0), (Go.Value.int Go.IntKind.i64 (beat))].toArray)) ∧
 (((Go.Value.int Go.IntKind.i64 (beat)) = (Go.Value.int Go.IntKind.i64 (beat))) ∧
 (((Go.Value.pointer (Option.some (Go.Addr.mk 1000 1 Option.none))) = (Go.Value.pointer (Option.some (Go.Addr.mk 1000 1 Option.none)))) ∧
 (((Go.Value.pointer (Option.some (Go.Addr.mk 1000 0 Option.none))) = (Go.Value.pointer (Option.some (Go.Addr.mk 1000 0 Option.none)))) ∧
 True)))) ∧
 (True ∧
 (((0 = 0) ∧
 (0 = 0)) ∧
 (k [(D.agg [(D.sl 0 1 []), (D.val (Go.Value.int Go.IntKind.i64 (beat)))])])))))) := by kernel_rfl
def g67z (C : Ct) (L : AtLoop) (n cap : Nat) (ps : List Value) (beat : Int) (k : List D → Prop) : Prop := wpFn Try.prog (hN C) L 0 67 #[.agg #[S500 n cap, .int .i64 beat], .slice none 0 0] (heapOf [A500 ps]) (dataK k)
theorem g67z_text (C : Ct) (L : AtLoop) (n : Nat) (cap : Nat) (ps : List Go.Value) (beat : Int) (k : List D → Prop) : g67z C L n cap ps beat k =
 (bcase ((↑0 : Int) != (↑n : Int))
 (k [D.nil, (D.val (Go.Value.int Go.IntKind.i64 (10 : Int)))])
 (L 0 [(Prod.mk 1 (Go.Value.slice Option.none 0 0)), (Prod.mk 2 (Go.Value.pointer (Option.some (Go.Addr.mk 1000 0 Option.none)))), (Prod.mk 6 (Go.Value.int Go.IntKind.i64 (0 : Int)))] [(Prod.mk 1000 (AObj.cells [(Go.Value.slice (Option.some (Go.Addr.mk 500 0 Option.none)) (n) (cap)), (Go.Value.int Go.IntKind.i64 (beat))] 107 false 1)), (Prod.mk 500 (AObj.sym (ps) false 1))])) := by kernel_rfl
end Go.Proofs.B
