/- Texts of the proof, put together: AbsPasD, AbsListD, AbsShort2, GoPOT, AbsList, GoO22, AbsGood, GoOK0, GoPAT, GoO23, GoO24, GoOGK. -/
import Derived.Test.YteadiejdhplokaaGreatP3
import Derived.Test.YteadiejdhplokaaGreatP4
import Derived.Test.YteadiejdhplokaaGreatP5
import Derived.Test.YteadiejdhplokaaGreatP7
import Derived.Test.YteadiejdhplokaaGreatGoOA
import Derived.Lib.LaidTab
import Derived.Lib.ItoaNum
import Derived.Test.YteadiejdhplokaaGreatRows
import Derived.Handed
import Derived.JoinedCond
/- Chapter 3: copies, by the shape of what is copied. -/
namespace Go.Abs
def copyPR : List D → Option (List D)
  | [.agg [a, b, c, d, e, f, .nil, g, h, i, j]] => some [.agg [a, b, c, d, e, f, .sl 0 5 [], g, h, i, j]]
  | [.agg [a, b, c, d, e, f, .sl n es cs, g, h, i, j]] => some [.agg [a, b, c, d, e, f, .sl n es cs, g, h, i, j]]
  | _ => none
def copyPS : List D → Option (List D)
  | [.agg [a, .nil]] => some [.agg [a, .sl 0 1 []]]
  | [.agg [a, .sl n es cs]] => some [.agg [a, .sl n es cs]]
  | _ => none
end Go.Abs

/- Calls whose lists are never nil, and whose bools stay open: met by one shape. -/
namespace Go.Abs
def someScalL : List Sc → Heap → (List D → List Value → Heap → Prop) → Prop
  | [], H, k => k [] [] H
  | .int kd :: r, H, k => ∃ n : Int, someScalL r H fun ds vs H' => k (.val (.int kd n) :: ds) (.int kd n :: vs) H'
  | .bool :: r, H, k => ∃ b : Bool, someScalL r H fun ds vs H' => k (.val (.bool b) :: ds) (.bool b :: vs) H'
  | .str :: r, H, k => ∃ s : ByteArray, someScalL r H fun ds vs H' => k (.val (.string s) :: ds) (.string s :: vs) H'
  | .sl es :: r, H, k => ∃ (n : Nat) (cs : List Value), someScalL r (H.new (.sym cs true es)) fun ds vs H' => k (.sl n es cs :: ds) (.slice (some ⟨H.next, 0, none⟩) n n :: vs) H'
def someValL (P : Program) (t : TypeId) (H : Heap) (k : D → Value → Heap → Prop) : Prop :=
  match scal P 8 t with
  | none => False
  | some l =>
    match isAggP P t with
    | some true => someScalL l H fun ds vs H' => k (.agg ds) (.agg vs.toArray) H'
    | _ => someScalL l H fun ds vs H' => match ds, vs with | [d], [v] => k d v H' | _, _ => False
def someValsL (P : Program) : List TypeId → Heap → (List D → List Value → Heap → Prop) → Prop
  | [], H, k => k [] [] H
  | t :: r, H, k => someValL P t H fun d v H' => someValsL P r H' fun ds vs H'' => k (d :: ds) (v :: vs) H''
def saidL (P : Program) (C : FuncId → List D → List D → Prop) : Handler := fun g args _ H k =>
  match P.funcs[g]? with | some fn => readVals H args.toList fun ds => someValsL P fn.resultTypes.toList H fun rs vs H' => Says C g ds rs ∧ k (tupleOf vs) H' | none => False
/-! the same for calls whose lists are nil -/
def someScalN : List Sc → Heap → (List D → List Value → Heap → Prop) → Prop
  | [], H, k => k [] [] H
  | .int kd :: r, H, k => ∃ n : Int, someScalN r H fun ds vs H' => k (.val (.int kd n) :: ds) (.int kd n :: vs) H'
  | .bool :: r, H, k => ∃ b : Bool, someScalN r H fun ds vs H' => k (.val (.bool b) :: ds) (.bool b :: vs) H'
  | .str :: r, H, k => ∃ s : ByteArray, someScalN r H fun ds vs H' => k (.val (.string s) :: ds) (.string s :: vs) H'
  | .sl _ :: r, H, k => someScalN r H fun ds vs H' => k (.nil :: ds) (.slice none 0 0 :: vs) H'
def someValN (P : Program) (t : TypeId) (H : Heap) (k : D → Value → Heap → Prop) : Prop :=
  match scal P 8 t with
  | none => False
  | some l =>
    match isAggP P t with
    | some true => someScalN l H fun ds vs H' => k (.agg ds) (.agg vs.toArray) H'
    | _ => someScalN l H fun ds vs H' => match ds, vs with | [d], [v] => k d v H' | _, _ => False
def someValsN (P : Program) : List TypeId → Heap → (List D → List Value → Heap → Prop) → Prop
  | [], H, k => k [] [] H
  | t :: r, H, k => someValN P t H fun d v H' => someValsN P r H' fun ds vs H'' => k (d :: ds) (v :: vs) H''
def saidN (P : Program) (C : FuncId → List D → List D → Prop) : Handler := fun g args _ H k =>
  match P.funcs[g]? with | some fn => readVals H args.toList fun ds => someValsN P fn.resultTypes.toList H fun rs vs H' => Says C g ds rs ∧ k (tupleOf vs) H' | none => False
/-- what is never called -/
def deadH : Handler := fun _ _ _ _ _ => False
end Go.Abs

/- Short names for what stands often in printed texts of laws. -/
namespace Go.Abs
abbrev Tk (n k : Nat) (l : List Value) : List Value := List.take (n * k) (List.drop 0 l)
abbrev Dw (n k : Nat) (l : List Value) : D := .sl n k (Tk n k l)
abbrev dL (n k : Nat) (l : List Value) : Bool := decide (0 + n * k ≤ List.length l)
abbrev kT : List D := [.val (.bool true)]
abbrev kF : List D := [.val (.bool false)]
abbrev Qf : Prop := Value.bool false = Value.bool false
abbrev Qb : Prop := Value.bool true = Value.bool true
abbrev Qft : Prop := Value.bool false = Value.bool true
abbrev Qtf : Prop := Value.bool true = Value.bool false
end Go.Abs

/- What is left to show of each function, written out; the kernel reckons it. -/
namespace Go.Proofs.G5o
open Go Go.Abs Go.Proofs
set_option maxRecDepth 100000
set_option linter.unusedVariables false
def preB (C : Ct) : FuncId → Option Handler := fun g => if [21, 22, 23, 29, 31].contains g then some (saidN Tryz.prog C) else if [25, 33].contains g then some deadH else if g == 11 then some (fixH C copyPR) else if g == 12 then some (fixH C copyPS) else if [6, 48, 49, 137, 138, 139, 126, 119, 114, 142, 143, 125, 95, 90, 52, 104, 65, 66, 106, 69, 76, 105, 91, 77, 13, 10, 23, 30, 40, 93, 45, 94, 46, 8, 70, 999999, 999999, 71, 72, 110, 74, 999999, 999999, 999999, 42, 9, 124, 44, 57, 96, 15, 16, 999999, 80, 73, 82, 25, 26, 28, 35, 33, 34, 27, 24, 81, 21, 22, 29, 31].contains g then some (saidH Tryz.prog C) else none
def preC (C : Ct) : FuncId → Option Handler := fun g => if [31, 34, 35].contains g then some (saidL Tryz.prog C) else if g == 11 then some (fixH C copyPR) else if g == 12 then some (fixH C copyPS) else if [6, 48, 49, 137, 138, 139, 126, 119, 114, 142, 143, 125, 95, 90, 52, 104, 65, 66, 106, 69, 76, 105, 91, 77, 13, 10, 23, 30, 40, 93, 45, 94, 46, 8, 70, 999999, 999999, 71, 72, 110, 74, 999999, 999999, 999999, 42, 9, 124, 44, 57, 96, 15, 16, 999999, 80, 73, 82, 25, 26, 28, 35, 33, 34, 27, 24, 81, 21, 22, 29, 31].contains g then some (saidH Tryz.prog C) else none
def preD (C : Ct) : FuncId → Option Handler := fun g => if [35].contains g then some (saidL Tryz.prog C) else if [31, 34].contains g then some (saidN Tryz.prog C) else if g == 11 then some (fixH C copyPR) else if g == 12 then some (fixH C copyPS) else if [6, 48, 49, 137, 138, 139, 126, 119, 114, 142, 143, 125, 95, 90, 52, 104, 65, 66, 106, 69, 76, 105, 91, 77, 13, 10, 23, 30, 40, 93, 45, 94, 46, 8, 70, 999999, 999999, 71, 72, 110, 74, 999999, 999999, 999999, 42, 9, 124, 44, 57, 96, 15, 16, 999999, 80, 73, 82, 25, 26, 28, 35, 33, 34, 27, 24, 81, 21, 22, 29, 31].contains g then some (saidH Tryz.prog C) else none
abbrev hB2 (C : Ct) : Handler := handlerX Tryz.prog (preB C) 12 6
abbrev hC2 (C : Ct) : Handler := handlerX Tryz.prog (preC C) 12 6
abbrev hD2 (C : Ct) : Handler := handlerX Tryz.prog (preD C) 12 6
def gGa (C : Ct) (L : AtLoop) (x0 : Int) (x1 : Int) (x2 : Int) (x3 : Int) (x4 : Int) (x5 : Int) (n6 : Nat) (c6 : Nat) (l6 : List Value) (x7 : Int) (x8 : Int) (x9 : Int) (x10 : Int) (s11 : ByteArray) (n12 : Nat) (c12 : Nat) (l12 : List Value) (x13 : Int) (k : List D → Prop) : Prop := wpFn Tryz.prog (hC2 C) L 0 5 #[.agg #[.int .i64 x0, .int .i64 x1, .int .i64 x2, .int .i64 x3, .int .i64 x4, .int .i64 x5, .slice (some ⟨500, 0, none⟩) n6 c6, .int .i64 x7, .int .i64 x8, .int .i64 x9, .int .i64 x10], .agg #[.string s11, .slice (some ⟨501, 0, none⟩) n12 c12], .int .i64 x13] (heapOf [(500, .sym l6 false 5), (501, .sym l12 false 1)]) (dataK k)
theorem gGa_text (C : Ct) (L : AtLoop) (x0 : Int) (x1 : Int) (x2 : Int) (x3 : Int) (x4 : Int) (x5 : Int) (n6 : Nat) (c6 : Nat) (l6 : List Go.Value) (x7 : Int) (x8 : Int) (x9 : Int) (x10 : Int) (s11 : ByteArray) (n12 : Nat) (c12 : Nat) (l12 : List Go.Value) (x13 : Int) (k : List D → Prop) : gGa C L x0 x1 x2 x3 x4 x5 n6 c6 l6 x7 x8 x9 x10 s11 n12 c12 l12 x13 k =
 (((Says C 6 [] kT) ∧
 (bcase (decide ((↑n6 : Int) ≤ 8))
 (bcase (decide ((↑n12 : Int) ≤ 8))
 (bcase (decide ((↑(ByteArray.size s11) : Int) ≤ 30))
 (((Qv (vI x13)) ∧
 ((Qv (Value.agg [(Value.string (s11)), (Sl 501 (n12) (c12))].toArray)) ∧
 ((Qv (Value.agg [(vI x0), (vI x1), (vI x2), (vI x3), (vI x4), (vI x5), (Sl 500 (n6) (c6)), (vI x7), (vI x8), (vI x9), (vI x10)].toArray)) ∧
 True))) ∧
 (bcase (dL n6 5 l6)
 ((Says C 11 [(D.agg [(dI x0), (dI x1), (dI x2), (dI x3), (dI x4), (dI x5), (Dw n6 5 l6), (dI x7), (dI x8), (dI x9), (dI x10)])] [(D.agg [(dI x0), (dI x1), (dI x2), (dI x3), (dI x4), (dI x5), (Dw n6 5 l6), (dI x7), (dI x8), (dI x9), (dI x10)])]) ∧
 (((Qv (vI x13)) ∧
 ((Qv (Value.agg [(Value.string (s11)), (Sl 501 (n12) (c12))].toArray)) ∧
 True)) ∧
 (bcase (dL n12 1 l12)
 ((Says C 12 [(D.agg [(D.val (Value.string (s11))), (Dw n12 1 l12)])] [(D.agg [(D.val (Value.string (s11))), (Dw n12 1 l12)])]) ∧
 (((Qv (vI x13)) ∧
 True) ∧
 (bcase (dL n6 5 (Tk n6 5 l6))
 (bcase (dL n12 1 (Tk n12 1 l12))
 ((∃ n1 : Int,
 ((Says C 29 [(D.agg [(dI x0), (dI x1), (dI x2), (dI x3), (dI x4), (dI x5), (Dw n6 5 (Tk n6 5 l6)), (dI x7), (dI x8), (dI x9), (dI x10)]), (D.agg [(D.val (Value.string (s11))), (Dw n12 1 (Tk n12 1 l12))]), (dI x13)] [D.nil, (dI n1)]) ∧
 (((Qv (vI n1)) ∧
 ((Qv (Value.slice none 0 0)) ∧
 ((Qv (Value.tuple [(Value.slice none 0 0), (vI n1)].toArray)) ∧
 True))) ∧
 (((Qv (vI n1)) ∧
 True) ∧
 (True ∧
 (((Qv (Value.agg [(Value.string (s11)), (Sl 501 (n12) (c12))].toArray)) ∧
 ((Qv (Value.agg [(vI x0), (vI x1), (vI x2), (vI x3), (vI x4), (vI x5), (Sl 500 (n6) (c6)), (vI x7), (vI x8), (vI x9), (vI x10)].toArray)) ∧
 True)) ∧
 (bcase (dL n6 5 l6)
 ((Says C 11 [(D.agg [(dI x0), (dI x1), (dI x2), (dI x3), (dI x4), (dI x5), (Dw n6 5 l6), (dI x7), (dI x8), (dI x9), (dI x10)])] [(D.agg [(dI x0), (dI x1), (dI x2), (dI x3), (dI x4), (dI x5), (Dw n6 5 l6), (dI x7), (dI x8), (dI x9), (dI x10)])]) ∧
 (((Qv (Value.agg [(Value.string (s11)), (Sl 501 (n12) (c12))].toArray)) ∧
 True) ∧
 (bcase (dL n12 1 l12)
 ((Says C 12 [(D.agg [(D.val (Value.string (s11))), (Dw n12 1 l12)])] [(D.agg [(D.val (Value.string (s11))), (Dw n12 1 l12)])]) ∧
 (True ∧
 (bcase (dL n6 5 (Tk n6 5 l6))
 (bcase (dL n12 1 (Tk n12 1 l12))
 (∃ n2 : Int,
 (∃ n3 : Int,
 ((Says C 30 [(D.agg [(dI x0), (dI x1), (dI x2), (dI x3), (dI x4), (dI x5), (Dw n6 5 (Tk n6 5 l6)), (dI x7), (dI x8), (dI x9), (dI x10)]), (D.agg [(D.val (Value.string (s11))), (Dw n12 1 (Tk n12 1 l12))])] [(dI n2), (dI n3)]) ∧
 (((Qv (vI n3)) ∧
 ((Qv (vI n2)) ∧
 ((Qv (Value.tuple [(vI n2), (vI n3)].toArray)) ∧
 True))) ∧
 (((Qv (vI n3)) ∧
 True) ∧
 (True ∧
 ((((Qv (Pt 1008 0)) ∧
 (Qv (some (AObj.cells [(vI 0), (Value.slice none 0 0)] 67 false 2)))) ∧
 ((Qv (Value.agg [(Value.string (s11)), (Sl 501 (n12) (c12))].toArray)) ∧
 ((Qv (Value.agg [(vI x0), (vI x1), (vI x2), (vI x3), (vI x4), (vI x5), (Sl 500 (n6) (c6)), (vI x7), (vI x8), (vI x9), (vI x10)].toArray)) ∧
 True))) ∧
 (bcase (dL n6 5 l6)
 ((Says C 11 [(D.agg [(dI x0), (dI x1), (dI x2), (dI x3), (dI x4), (dI x5), (Dw n6 5 l6), (dI x7), (dI x8), (dI x9), (dI x10)])] [(D.agg [(dI x0), (dI x1), (dI x2), (dI x3), (dI x4), (dI x5), (Dw n6 5 l6), (dI x7), (dI x8), (dI x9), (dI x10)])]) ∧
 ((((Qv (Pt 1008 0)) ∧
 (Qv (some (AObj.cells [(vI 0), (Value.slice none 0 0)] 67 false 2)))) ∧
 ((Qv (Value.agg [(Value.string (s11)), (Sl 501 (n12) (c12))].toArray)) ∧
 True)) ∧
 (bcase (dL n12 1 l12)
 ((Says C 12 [(D.agg [(D.val (Value.string (s11))), (Dw n12 1 l12)])] [(D.agg [(D.val (Value.string (s11))), (Dw n12 1 l12)])]) ∧
 ((((Qv (Pt 1008 0)) ∧
 (Qv (some (AObj.cells [(vI 0), (Value.slice none 0 0)] 67 false 2)))) ∧
 True) ∧
 (bcase (dL n6 5 (Tk n6 5 l6))
 (bcase (dL n12 1 (Tk n12 1 l12))
 (∃ n4 : Int,
 (∃ n5 : Nat,
 (∃ cs1 : List Go.Value,
 (∃ n7 : Int,
 ((Says C 31 [(D.agg [(dI x0), (dI x1), (dI x2), (dI x3), (dI x4), (dI x5), (Dw n6 5 (Tk n6 5 l6)), (dI x7), (dI x8), (dI x9), (dI x10)]), (D.agg [(D.val (Value.string (s11))), (Dw n12 1 (Tk n12 1 l12))])] [(D.agg [(dI n4), (D.sl (n5) 1 (cs1))]), (dI n7)]) ∧
 (((Qv (vI n7)) ∧
 ((Qv (Value.agg [(vI n4), (Sl 1011 (n5) (n5))].toArray)) ∧
 ((Qv (Value.tuple [(Value.agg [(vI n4), (Sl 1011 (n5) (n5))].toArray), (vI n7)].toArray)) ∧
 (((Qv (Pt 1008 0)) ∧
 (Qv (some (AObj.cells [(vI 0), (Value.slice none 0 0)] 67 false 2)))) ∧
 True)))) ∧
 (((Qv (vI n7)) ∧
 True) ∧
 (True ∧
 (bcase (dL n6 5 l6)
 (bcase (dL n12 1 l12)
 (∃ n8 : Int,
 ((Says C 8 [(D.agg [(dI x0), (dI x1), (dI x2), (dI x3), (dI x4), (dI x5), (Dw n6 5 l6), (dI x7), (dI x8), (dI x9), (dI x10)]), (D.agg [(D.val (Value.string (s11))), (Dw n12 1 l12)])] [(dI n8)]) ∧
 (bcase (n8 != 0)
 (bcase (n1 == n8)
 (bcase (n3 == n8)
 (bcase (n7 == n8)
 (bcase (n2 == 0)
 (bcase (n4 == 0)
 (bcase (dL n5 1 cs1)
 (((Says C 81 [(Dw n5 1 cs1), D.nil] kT) ∧
 (k kT)) ∨
 ((Says C 81 [(Dw n5 1 cs1), D.nil] kF) ∧
 (k kF)))
 False)
 (k kF))
 (k kF))
 (k kF))
 (k kF))
 (k kF))
 (bcase (n3 != 0)
 (k kF)
 (bcase (dL n6 5 l6)
 (bcase (dL n12 1 l12)
 (∃ n9 : Int,
 ((Says C 33 [(D.agg [(dI x0), (dI x1), (dI x2), (dI x3), (dI x4), (dI x5), (Dw n6 5 l6), (dI x7), (dI x8), (dI x9), (dI x10)]), (D.agg [(D.val (Value.string (s11))), (Dw n12 1 l12)])] [(dI n9)]) ∧
 (bcase (n2 != n9)
 (k kF)
 (bcase (dL n6 5 l6)
 (bcase (dL n12 1 l12)
 (∃ n10 : Int,
 (∃ n11 : Nat,
 (∃ cs2 : List Go.Value,
 (∃ b1 : Bool,
 ((Says C 34 [(D.agg [(dI x0), (dI x1), (dI x2), (dI x3), (dI x4), (dI x5), (Dw n6 5 l6), (dI x7), (dI x8), (dI x9), (dI x10)]), (D.agg [(D.val (Value.string (s11))), (Dw n12 1 l12)])] [(D.agg [(dI n10), (D.sl (n11) 1 (cs2))]), (D.val (Value.bool (b1)))]) ∧
 (bcase (b1)
 (bcase (n7 != 0)
 (k kF)
 (bcase (n4 == n10)
 (bcase (dL n5 1 cs1)
 (bcase (dL n11 1 cs2)
 (((Says C 81 [(Dw n5 1 cs1), (Dw n11 1 cs2)] kT) ∧
 (((Says C 9 [(dI x13), (dI 0), (D.val (vI 3))] kT) ∧
 (bcase (n1 == 0)
 (bcase (dL n6 5 l6)
 (bcase (dL n12 1 l12)
 (∃ n13 : Nat,
 (∃ cs3 : List Go.Value,
 ((Says C 35 [(D.agg [(dI x0), (dI x1), (dI x2), (dI x3), (dI x4), (dI x5), (Dw n6 5 l6), (dI x7), (dI x8), (dI x9), (dI x10)]), (D.agg [(D.val (Value.string (s11))), (Dw n12 1 l12)]), (dI x13)] [(D.sl (n13) 2 (cs3))]) ∧
 (bcase (dL n13 2 cs3)
 (((Says C 24 [D.nil, (Dw n13 2 cs3)] kT) ∧
 (k kT)) ∨
 ((Says C 24 [D.nil, (Dw n13 2 cs3)] kF) ∧
 (k kF)))
 False))))
 False)
 False)
 (k kF))) ∨
 ((Says C 9 [(dI x13), (dI 0), (D.val (vI 3))] kF) ∧
 (bcase (n1 == 15)
 (k kT)
 (k kF))))) ∨
 ((Says C 81 [(Dw n5 1 cs1), (Dw n11 1 cs2)] kF) ∧
 (k kF)))
 False)
 False)
 (k kF)))
 (bcase (n7 != 12)
 (k kF)
 (bcase (n4 == 0)
 (bcase (dL n5 1 cs1)
 (((Says C 81 [(Dw n5 1 cs1), D.nil] kT) ∧
 (((Says C 9 [(dI x13), (dI 0), (D.val (vI 3))] kT) ∧
 (bcase (n1 == 0)
 (bcase (dL n6 5 l6)
 (bcase (dL n12 1 l12)
 (∃ n13 : Nat,
 (∃ cs3 : List Go.Value,
 ((Says C 35 [(D.agg [(dI x0), (dI x1), (dI x2), (dI x3), (dI x4), (dI x5), (Dw n6 5 l6), (dI x7), (dI x8), (dI x9), (dI x10)]), (D.agg [(D.val (Value.string (s11))), (Dw n12 1 l12)]), (dI x13)] [(D.sl (n13) 2 (cs3))]) ∧
 (bcase (dL n13 2 cs3)
 (((Says C 24 [D.nil, (Dw n13 2 cs3)] kT) ∧
 (k kT)) ∨
 ((Says C 24 [D.nil, (Dw n13 2 cs3)] kF) ∧
 (k kF)))
 False))))
 False)
 False)
 (k kF))) ∨
 ((Says C 9 [(dI x13), (dI 0), (D.val (vI 3))] kF) ∧
 (bcase (n1 == 15)
 (k kT)
 (k kF))))) ∨
 ((Says C 81 [(Dw n5 1 cs1), D.nil] kF) ∧
 (k kF)))
 False)
 (k kF)))))))))
 False)
 False))))
 False)
 False)))))
 False)
 False)))))))))
 False)
 False)))
 False)))
 False))))))))
 False)
 False)))
 False)))
 False))))))) ∨
 (∃ n1 : Nat,
 (∃ cs1 : List Go.Value,
 (∃ n2 : Int,
 ((Says C 29 [(D.agg [(dI x0), (dI x1), (dI x2), (dI x3), (dI x4), (dI x5), (Dw n6 5 (Tk n6 5 l6)), (dI x7), (dI x8), (dI x9), (dI x10)]), (D.agg [(D.val (Value.string (s11))), (Dw n12 1 (Tk n12 1 l12))]), (dI x13)] [(D.sl (n1) 2 (cs1)), (dI n2)]) ∧
 (((Qv (vI n2)) ∧
 ((Qv (Sl 1006 (n1) (n1))) ∧
 ((Qv (Value.tuple [(Sl 1006 (n1) (n1)), (vI n2)].toArray)) ∧
 True))) ∧
 (((Qv (vI n2)) ∧
 True) ∧
 (True ∧
 (((Qv (Value.agg [(Value.string (s11)), (Sl 501 (n12) (c12))].toArray)) ∧
 ((Qv (Value.agg [(vI x0), (vI x1), (vI x2), (vI x3), (vI x4), (vI x5), (Sl 500 (n6) (c6)), (vI x7), (vI x8), (vI x9), (vI x10)].toArray)) ∧
 True)) ∧
 (bcase (dL n6 5 l6)
 ((Says C 11 [(D.agg [(dI x0), (dI x1), (dI x2), (dI x3), (dI x4), (dI x5), (Dw n6 5 l6), (dI x7), (dI x8), (dI x9), (dI x10)])] [(D.agg [(dI x0), (dI x1), (dI x2), (dI x3), (dI x4), (dI x5), (Dw n6 5 l6), (dI x7), (dI x8), (dI x9), (dI x10)])]) ∧
 (((Qv (Value.agg [(Value.string (s11)), (Sl 501 (n12) (c12))].toArray)) ∧
 True) ∧
 (bcase (dL n12 1 l12)
 ((Says C 12 [(D.agg [(D.val (Value.string (s11))), (Dw n12 1 l12)])] [(D.agg [(D.val (Value.string (s11))), (Dw n12 1 l12)])]) ∧
 (True ∧
 (bcase (dL n6 5 (Tk n6 5 l6))
 (bcase (dL n12 1 (Tk n12 1 l12))
 (∃ n3 : Int,
 (∃ n4 : Int,
 ((Says C 30 [(D.agg [(dI x0), (dI x1), (dI x2), (dI x3), (dI x4), (dI x5), (Dw n6 5 (Tk n6 5 l6)), (dI x7), (dI x8), (dI x9), (dI x10)]), (D.agg [(D.val (Value.string (s11))), (Dw n12 1 (Tk n12 1 l12))])] [(dI n3), (dI n4)]) ∧
 (((Qv (vI n4)) ∧
 ((Qv (vI n3)) ∧
 ((Qv (Value.tuple [(vI n3), (vI n4)].toArray)) ∧
 True))) ∧
 (((Qv (vI n4)) ∧
 True) ∧
 (True ∧
 ((((Qv (Pt 1009 0)) ∧
 (Qv (some (AObj.cells [(vI 0), (Value.slice none 0 0)] 67 false 2)))) ∧
 ((Qv (Value.agg [(Value.string (s11)), (Sl 501 (n12) (c12))].toArray)) ∧
 ((Qv (Value.agg [(vI x0), (vI x1), (vI x2), (vI x3), (vI x4), (vI x5), (Sl 500 (n6) (c6)), (vI x7), (vI x8), (vI x9), (vI x10)].toArray)) ∧
 True))) ∧
 (bcase (dL n6 5 l6)
 ((Says C 11 [(D.agg [(dI x0), (dI x1), (dI x2), (dI x3), (dI x4), (dI x5), (Dw n6 5 l6), (dI x7), (dI x8), (dI x9), (dI x10)])] [(D.agg [(dI x0), (dI x1), (dI x2), (dI x3), (dI x4), (dI x5), (Dw n6 5 l6), (dI x7), (dI x8), (dI x9), (dI x10)])]) ∧
 ((((Qv (Pt 1009 0)) ∧
 (Qv (some (AObj.cells [(vI 0), (Value.slice none 0 0)] 67 false 2)))) ∧
 ((Qv (Value.agg [(Value.string (s11)), (Sl 501 (n12) (c12))].toArray)) ∧
 True)) ∧
 (bcase (dL n12 1 l12)
 ((Says C 12 [(D.agg [(D.val (Value.string (s11))), (Dw n12 1 l12)])] [(D.agg [(D.val (Value.string (s11))), (Dw n12 1 l12)])]) ∧
 ((((Qv (Pt 1009 0)) ∧
 (Qv (some (AObj.cells [(vI 0), (Value.slice none 0 0)] 67 false 2)))) ∧
 True) ∧
 (bcase (dL n6 5 (Tk n6 5 l6))
 (bcase (dL n12 1 (Tk n12 1 l12))
 (∃ n5 : Int,
 (∃ n7 : Nat,
 (∃ cs2 : List Go.Value,
 (∃ n8 : Int,
 ((Says C 31 [(D.agg [(dI x0), (dI x1), (dI x2), (dI x3), (dI x4), (dI x5), (Dw n6 5 (Tk n6 5 l6)), (dI x7), (dI x8), (dI x9), (dI x10)]), (D.agg [(D.val (Value.string (s11))), (Dw n12 1 (Tk n12 1 l12))])] [(D.agg [(dI n5), (D.sl (n7) 1 (cs2))]), (dI n8)]) ∧
 (((Qv (vI n8)) ∧
 ((Qv (Value.agg [(vI n5), (Sl 1012 (n7) (n7))].toArray)) ∧
 ((Qv (Value.tuple [(Value.agg [(vI n5), (Sl 1012 (n7) (n7))].toArray), (vI n8)].toArray)) ∧
 (((Qv (Pt 1009 0)) ∧
 (Qv (some (AObj.cells [(vI 0), (Value.slice none 0 0)] 67 false 2)))) ∧
 True)))) ∧
 (((Qv (vI n8)) ∧
 True) ∧
 (True ∧
 (bcase (dL n6 5 l6)
 (bcase (dL n12 1 l12)
 (∃ n9 : Int,
 ((Says C 8 [(D.agg [(dI x0), (dI x1), (dI x2), (dI x3), (dI x4), (dI x5), (Dw n6 5 l6), (dI x7), (dI x8), (dI x9), (dI x10)]), (D.agg [(D.val (Value.string (s11))), (Dw n12 1 l12)])] [(dI n9)]) ∧
 (bcase (n9 != 0)
 (bcase (n2 == n9)
 (bcase (n4 == n9)
 (bcase (n8 == n9)
 (bcase ((↑n1 : Int) == 0)
 (bcase (n3 == 0)
 (bcase (n5 == 0)
 (bcase (dL n7 1 cs2)
 (((Says C 81 [(Dw n7 1 cs2), D.nil] kT) ∧
 (k kT)) ∨
 ((Says C 81 [(Dw n7 1 cs2), D.nil] kF) ∧
 (k kF)))
 False)
 (k kF))
 (k kF))
 (k kF))
 (k kF))
 (k kF))
 (k kF))
 (bcase (n4 != 0)
 (k kF)
 (bcase (dL n6 5 l6)
 (bcase (dL n12 1 l12)
 (∃ n10 : Int,
 ((Says C 33 [(D.agg [(dI x0), (dI x1), (dI x2), (dI x3), (dI x4), (dI x5), (Dw n6 5 l6), (dI x7), (dI x8), (dI x9), (dI x10)]), (D.agg [(D.val (Value.string (s11))), (Dw n12 1 l12)])] [(dI n10)]) ∧
 (bcase (n3 != n10)
 (k kF)
 (bcase (dL n6 5 l6)
 (bcase (dL n12 1 l12)
 (∃ n11 : Int,
 (∃ n13 : Nat,
 (∃ cs3 : List Go.Value,
 (∃ b1 : Bool,
 ((Says C 34 [(D.agg [(dI x0), (dI x1), (dI x2), (dI x3), (dI x4), (dI x5), (Dw n6 5 l6), (dI x7), (dI x8), (dI x9), (dI x10)]), (D.agg [(D.val (Value.string (s11))), (Dw n12 1 l12)])] [(D.agg [(dI n11), (D.sl (n13) 1 (cs3))]), (D.val (Value.bool (b1)))]) ∧
 (bcase (b1)
 (bcase (n8 != 0)
 (k kF)
 (bcase (n5 == n11)
 (bcase (dL n7 1 cs2)
 (bcase (dL n13 1 cs3)
 (((Says C 81 [(Dw n7 1 cs2), (Dw n13 1 cs3)] kT) ∧
 (((Says C 9 [(dI x13), (dI 0), (D.val (vI 3))] kT) ∧
 (bcase (n2 == 0)
 (bcase (dL n6 5 l6)
 (bcase (dL n12 1 l12)
 (∃ n14 : Nat,
 (∃ cs4 : List Go.Value,
 ((Says C 35 [(D.agg [(dI x0), (dI x1), (dI x2), (dI x3), (dI x4), (dI x5), (Dw n6 5 l6), (dI x7), (dI x8), (dI x9), (dI x10)]), (D.agg [(D.val (Value.string (s11))), (Dw n12 1 l12)]), (dI x13)] [(D.sl (n14) 2 (cs4))]) ∧
 (bcase (dL n1 2 cs1)
 (bcase (dL n14 2 cs4)
 (((Says C 24 [(Dw n1 2 cs1), (Dw n14 2 cs4)] kT) ∧
 (k kT)) ∨
 ((Says C 24 [(Dw n1 2 cs1), (Dw n14 2 cs4)] kF) ∧
 (k kF)))
 False)
 False))))
 False)
 False)
 (k kF))) ∨
 ((Says C 9 [(dI x13), (dI 0), (D.val (vI 3))] kF) ∧
 (bcase (n2 == 15)
 (bcase ((↑n1 : Int) == 0)
 (k kT)
 (k kF))
 (k kF))))) ∨
 ((Says C 81 [(Dw n7 1 cs2), (Dw n13 1 cs3)] kF) ∧
 (k kF)))
 False)
 False)
 (k kF)))
 (bcase (n8 != 12)
 (k kF)
 (bcase (n5 == 0)
 (bcase (dL n7 1 cs2)
 (((Says C 81 [(Dw n7 1 cs2), D.nil] kT) ∧
 (((Says C 9 [(dI x13), (dI 0), (D.val (vI 3))] kT) ∧
 (bcase (n2 == 0)
 (bcase (dL n6 5 l6)
 (bcase (dL n12 1 l12)
 (∃ n14 : Nat,
 (∃ cs4 : List Go.Value,
 ((Says C 35 [(D.agg [(dI x0), (dI x1), (dI x2), (dI x3), (dI x4), (dI x5), (Dw n6 5 l6), (dI x7), (dI x8), (dI x9), (dI x10)]), (D.agg [(D.val (Value.string (s11))), (Dw n12 1 l12)]), (dI x13)] [(D.sl (n14) 2 (cs4))]) ∧
 (bcase (dL n1 2 cs1)
 (bcase (dL n14 2 cs4)
 (((Says C 24 [(Dw n1 2 cs1), (Dw n14 2 cs4)] kT) ∧
 (k kT)) ∨
 ((Says C 24 [(Dw n1 2 cs1), (Dw n14 2 cs4)] kF) ∧
 (k kF)))
 False)
 False))))
 False)
 False)
 (k kF))) ∨
 ((Says C 9 [(dI x13), (dI 0), (D.val (vI 3))] kF) ∧
 (bcase (n2 == 15)
 (bcase ((↑n1 : Int) == 0)
 (k kT)
 (k kF))
 (k kF))))) ∨
 ((Says C 81 [(Dw n7 1 cs2), D.nil] kF) ∧
 (k kF)))
 False)
 (k kF)))))))))
 False)
 False))))
 False)
 False)))))
 False)
 False)))))))))
 False)
 False)))
 False)))
 False))))))))
 False)
 False)))
 False)))
 False))))))))))
 False)
 False)))
 False)))
 False))
 (k kT))
 (k kT))
 (k kT))) ∨
 ((Says C 6 [] kF) ∧
 (k kF))) := by kernel_rfl
def gGf (C : Ct) (L : AtLoop) (x0 : Int) (x1 : Int) (x2 : Int) (x3 : Int) (x4 : Int) (x5 : Int) (n6 : Nat) (c6 : Nat) (l6 : List Value) (x7 : Int) (x8 : Int) (x9 : Int) (x10 : Int) (s11 : ByteArray) (n12 : Nat) (c12 : Nat) (l12 : List Value) (x13 : Int) (k : List D → Prop) : Prop := wpFn Tryz.prog (hD2 C) L 0 5 #[.agg #[.int .i64 x0, .int .i64 x1, .int .i64 x2, .int .i64 x3, .int .i64 x4, .int .i64 x5, .slice (some ⟨500, 0, none⟩) n6 c6, .int .i64 x7, .int .i64 x8, .int .i64 x9, .int .i64 x10], .agg #[.string s11, .slice (some ⟨501, 0, none⟩) n12 c12], .int .i64 x13] (heapOf [(500, .sym l6 false 5), (501, .sym l12 false 1)]) (dataK k)
theorem gGf_text (C : Ct) (L : AtLoop) (x0 : Int) (x1 : Int) (x2 : Int) (x3 : Int) (x4 : Int) (x5 : Int) (n6 : Nat) (c6 : Nat) (l6 : List Go.Value) (x7 : Int) (x8 : Int) (x9 : Int) (x10 : Int) (s11 : ByteArray) (n12 : Nat) (c12 : Nat) (l12 : List Go.Value) (x13 : Int) (k : List D → Prop) : gGf C L x0 x1 x2 x3 x4 x5 n6 c6 l6 x7 x8 x9 x10 s11 n12 c12 l12 x13 k =
 (((Says C 6 [] kT) ∧
 (bcase (decide ((↑n6 : Int) ≤ 8))
 (bcase (decide ((↑n12 : Int) ≤ 8))
 (bcase (decide ((↑(ByteArray.size s11) : Int) ≤ 30))
 (((Qv (vI x13)) ∧
 ((Qv (Value.agg [(Value.string (s11)), (Sl 501 (n12) (c12))].toArray)) ∧
 ((Qv (Value.agg [(vI x0), (vI x1), (vI x2), (vI x3), (vI x4), (vI x5), (Sl 500 (n6) (c6)), (vI x7), (vI x8), (vI x9), (vI x10)].toArray)) ∧
 True))) ∧
 (bcase (dL n6 5 l6)
 ((Says C 11 [(D.agg [(dI x0), (dI x1), (dI x2), (dI x3), (dI x4), (dI x5), (Dw n6 5 l6), (dI x7), (dI x8), (dI x9), (dI x10)])] [(D.agg [(dI x0), (dI x1), (dI x2), (dI x3), (dI x4), (dI x5), (Dw n6 5 l6), (dI x7), (dI x8), (dI x9), (dI x10)])]) ∧
 (((Qv (vI x13)) ∧
 ((Qv (Value.agg [(Value.string (s11)), (Sl 501 (n12) (c12))].toArray)) ∧
 True)) ∧
 (bcase (dL n12 1 l12)
 ((Says C 12 [(D.agg [(D.val (Value.string (s11))), (Dw n12 1 l12)])] [(D.agg [(D.val (Value.string (s11))), (Dw n12 1 l12)])]) ∧
 (((Qv (vI x13)) ∧
 True) ∧
 (bcase (dL n6 5 (Tk n6 5 l6))
 (bcase (dL n12 1 (Tk n12 1 l12))
 ((∃ n1 : Int,
 ((Says C 29 [(D.agg [(dI x0), (dI x1), (dI x2), (dI x3), (dI x4), (dI x5), (Dw n6 5 (Tk n6 5 l6)), (dI x7), (dI x8), (dI x9), (dI x10)]), (D.agg [(D.val (Value.string (s11))), (Dw n12 1 (Tk n12 1 l12))]), (dI x13)] [D.nil, (dI n1)]) ∧
 (((Qv (vI n1)) ∧
 ((Qv (Value.slice none 0 0)) ∧
 ((Qv (Value.tuple [(Value.slice none 0 0), (vI n1)].toArray)) ∧
 True))) ∧
 (((Qv (vI n1)) ∧
 True) ∧
 (True ∧
 (((Qv (Value.agg [(Value.string (s11)), (Sl 501 (n12) (c12))].toArray)) ∧
 ((Qv (Value.agg [(vI x0), (vI x1), (vI x2), (vI x3), (vI x4), (vI x5), (Sl 500 (n6) (c6)), (vI x7), (vI x8), (vI x9), (vI x10)].toArray)) ∧
 True)) ∧
 (bcase (dL n6 5 l6)
 ((Says C 11 [(D.agg [(dI x0), (dI x1), (dI x2), (dI x3), (dI x4), (dI x5), (Dw n6 5 l6), (dI x7), (dI x8), (dI x9), (dI x10)])] [(D.agg [(dI x0), (dI x1), (dI x2), (dI x3), (dI x4), (dI x5), (Dw n6 5 l6), (dI x7), (dI x8), (dI x9), (dI x10)])]) ∧
 (((Qv (Value.agg [(Value.string (s11)), (Sl 501 (n12) (c12))].toArray)) ∧
 True) ∧
 (bcase (dL n12 1 l12)
 ((Says C 12 [(D.agg [(D.val (Value.string (s11))), (Dw n12 1 l12)])] [(D.agg [(D.val (Value.string (s11))), (Dw n12 1 l12)])]) ∧
 (True ∧
 (bcase (dL n6 5 (Tk n6 5 l6))
 (bcase (dL n12 1 (Tk n12 1 l12))
 (∃ n2 : Int,
 (∃ n3 : Int,
 ((Says C 30 [(D.agg [(dI x0), (dI x1), (dI x2), (dI x3), (dI x4), (dI x5), (Dw n6 5 (Tk n6 5 l6)), (dI x7), (dI x8), (dI x9), (dI x10)]), (D.agg [(D.val (Value.string (s11))), (Dw n12 1 (Tk n12 1 l12))])] [(dI n2), (dI n3)]) ∧
 (((Qv (vI n3)) ∧
 ((Qv (vI n2)) ∧
 ((Qv (Value.tuple [(vI n2), (vI n3)].toArray)) ∧
 True))) ∧
 (((Qv (vI n3)) ∧
 True) ∧
 (True ∧
 ((((Qv (Pt 1008 0)) ∧
 (Qv (some (AObj.cells [(vI 0), (Value.slice none 0 0)] 67 false 2)))) ∧
 ((Qv (Value.agg [(Value.string (s11)), (Sl 501 (n12) (c12))].toArray)) ∧
 ((Qv (Value.agg [(vI x0), (vI x1), (vI x2), (vI x3), (vI x4), (vI x5), (Sl 500 (n6) (c6)), (vI x7), (vI x8), (vI x9), (vI x10)].toArray)) ∧
 True))) ∧
 (bcase (dL n6 5 l6)
 ((Says C 11 [(D.agg [(dI x0), (dI x1), (dI x2), (dI x3), (dI x4), (dI x5), (Dw n6 5 l6), (dI x7), (dI x8), (dI x9), (dI x10)])] [(D.agg [(dI x0), (dI x1), (dI x2), (dI x3), (dI x4), (dI x5), (Dw n6 5 l6), (dI x7), (dI x8), (dI x9), (dI x10)])]) ∧
 ((((Qv (Pt 1008 0)) ∧
 (Qv (some (AObj.cells [(vI 0), (Value.slice none 0 0)] 67 false 2)))) ∧
 ((Qv (Value.agg [(Value.string (s11)), (Sl 501 (n12) (c12))].toArray)) ∧
 True)) ∧
 (bcase (dL n12 1 l12)
 ((Says C 12 [(D.agg [(D.val (Value.string (s11))), (Dw n12 1 l12)])] [(D.agg [(D.val (Value.string (s11))), (Dw n12 1 l12)])]) ∧
 ((((Qv (Pt 1008 0)) ∧
 (Qv (some (AObj.cells [(vI 0), (Value.slice none 0 0)] 67 false 2)))) ∧
 True) ∧
 (bcase (dL n6 5 (Tk n6 5 l6))
 (bcase (dL n12 1 (Tk n12 1 l12))
 (∃ n4 : Int,
 (∃ n5 : Int,
 ((Says C 31 [(D.agg [(dI x0), (dI x1), (dI x2), (dI x3), (dI x4), (dI x5), (Dw n6 5 (Tk n6 5 l6)), (dI x7), (dI x8), (dI x9), (dI x10)]), (D.agg [(D.val (Value.string (s11))), (Dw n12 1 (Tk n12 1 l12))])] [(D.agg [(dI n4), D.nil]), (dI n5)]) ∧
 (((Qv (vI n5)) ∧
 ((Qv (Value.agg [(vI n4), (Value.slice none 0 0)].toArray)) ∧
 ((Qv (Value.tuple [(Value.agg [(vI n4), (Value.slice none 0 0)].toArray), (vI n5)].toArray)) ∧
 (((Qv (Pt 1008 0)) ∧
 (Qv (some (AObj.cells [(vI 0), (Value.slice none 0 0)] 67 false 2)))) ∧
 True)))) ∧
 (((Qv (vI n5)) ∧
 True) ∧
 (True ∧
 (bcase (dL n6 5 l6)
 (bcase (dL n12 1 l12)
 (∃ n7 : Int,
 ((Says C 8 [(D.agg [(dI x0), (dI x1), (dI x2), (dI x3), (dI x4), (dI x5), (Dw n6 5 l6), (dI x7), (dI x8), (dI x9), (dI x10)]), (D.agg [(D.val (Value.string (s11))), (Dw n12 1 l12)])] [(dI n7)]) ∧
 (bcase (n7 != 0)
 (bcase (n1 == n7)
 (bcase (n3 == n7)
 (bcase (n5 == n7)
 (bcase (n2 == 0)
 (bcase (n4 == 0)
 (((Says C 81 [D.nil, D.nil] kT) ∧
 (k kT)) ∨
 ((Says C 81 [D.nil, D.nil] kF) ∧
 (k kF)))
 (k kF))
 (k kF))
 (k kF))
 (k kF))
 (k kF))
 (bcase (n3 != 0)
 (k kF)
 (bcase (dL n6 5 l6)
 (bcase (dL n12 1 l12)
 (∃ n8 : Int,
 ((Says C 33 [(D.agg [(dI x0), (dI x1), (dI x2), (dI x3), (dI x4), (dI x5), (Dw n6 5 l6), (dI x7), (dI x8), (dI x9), (dI x10)]), (D.agg [(D.val (Value.string (s11))), (Dw n12 1 l12)])] [(dI n8)]) ∧
 (bcase (n2 != n8)
 (k kF)
 (bcase (dL n6 5 l6)
 (bcase (dL n12 1 l12)
 (∃ n9 : Int,
 (∃ b1 : Bool,
 ((Says C 34 [(D.agg [(dI x0), (dI x1), (dI x2), (dI x3), (dI x4), (dI x5), (Dw n6 5 l6), (dI x7), (dI x8), (dI x9), (dI x10)]), (D.agg [(D.val (Value.string (s11))), (Dw n12 1 l12)])] [(D.agg [(dI n9), D.nil]), (D.val (Value.bool (b1)))]) ∧
 (bcase (b1)
 (bcase (n5 != 0)
 (k kF)
 (bcase (n4 == n9)
 (((Says C 81 [D.nil, D.nil] kT) ∧
 (((Says C 9 [(dI x13), (dI 0), (D.val (vI 3))] kT) ∧
 (bcase (n1 == 0)
 (bcase (dL n6 5 l6)
 (bcase (dL n12 1 l12)
 (∃ n10 : Nat,
 (∃ cs1 : List Go.Value,
 ((Says C 35 [(D.agg [(dI x0), (dI x1), (dI x2), (dI x3), (dI x4), (dI x5), (Dw n6 5 l6), (dI x7), (dI x8), (dI x9), (dI x10)]), (D.agg [(D.val (Value.string (s11))), (Dw n12 1 l12)]), (dI x13)] [(D.sl (n10) 2 (cs1))]) ∧
 (bcase (dL n10 2 cs1)
 (((Says C 24 [D.nil, (Dw n10 2 cs1)] kT) ∧
 (k kT)) ∨
 ((Says C 24 [D.nil, (Dw n10 2 cs1)] kF) ∧
 (k kF)))
 False))))
 False)
 False)
 (k kF))) ∨
 ((Says C 9 [(dI x13), (dI 0), (D.val (vI 3))] kF) ∧
 (bcase (n1 == 15)
 (k kT)
 (k kF))))) ∨
 ((Says C 81 [D.nil, D.nil] kF) ∧
 (k kF)))
 (k kF)))
 (bcase (n5 != 12)
 (k kF)
 (bcase (n4 == 0)
 (((Says C 81 [D.nil, D.nil] kT) ∧
 (((Says C 9 [(dI x13), (dI 0), (D.val (vI 3))] kT) ∧
 (bcase (n1 == 0)
 (bcase (dL n6 5 l6)
 (bcase (dL n12 1 l12)
 (∃ n10 : Nat,
 (∃ cs1 : List Go.Value,
 ((Says C 35 [(D.agg [(dI x0), (dI x1), (dI x2), (dI x3), (dI x4), (dI x5), (Dw n6 5 l6), (dI x7), (dI x8), (dI x9), (dI x10)]), (D.agg [(D.val (Value.string (s11))), (Dw n12 1 l12)]), (dI x13)] [(D.sl (n10) 2 (cs1))]) ∧
 (bcase (dL n10 2 cs1)
 (((Says C 24 [D.nil, (Dw n10 2 cs1)] kT) ∧
 (k kT)) ∨
 ((Says C 24 [D.nil, (Dw n10 2 cs1)] kF) ∧
 (k kF)))
 False))))
 False)
 False)
 (k kF))) ∨
 ((Says C 9 [(dI x13), (dI 0), (D.val (vI 3))] kF) ∧
 (bcase (n1 == 15)
 (k kT)
 (k kF))))) ∨
 ((Says C 81 [D.nil, D.nil] kF) ∧
 (k kF)))
 (k kF)))))))
 False)
 False))))
 False)
 False)))))
 False)
 False)))))))
 False)
 False)))
 False)))
 False))))))))
 False)
 False)))
 False)))
 False))))))) ∨
 (∃ n1 : Nat,
 (∃ cs1 : List Go.Value,
 (∃ n2 : Int,
 ((Says C 29 [(D.agg [(dI x0), (dI x1), (dI x2), (dI x3), (dI x4), (dI x5), (Dw n6 5 (Tk n6 5 l6)), (dI x7), (dI x8), (dI x9), (dI x10)]), (D.agg [(D.val (Value.string (s11))), (Dw n12 1 (Tk n12 1 l12))]), (dI x13)] [(D.sl (n1) 2 (cs1)), (dI n2)]) ∧
 (((Qv (vI n2)) ∧
 ((Qv (Sl 1006 (n1) (n1))) ∧
 ((Qv (Value.tuple [(Sl 1006 (n1) (n1)), (vI n2)].toArray)) ∧
 True))) ∧
 (((Qv (vI n2)) ∧
 True) ∧
 (True ∧
 (((Qv (Value.agg [(Value.string (s11)), (Sl 501 (n12) (c12))].toArray)) ∧
 ((Qv (Value.agg [(vI x0), (vI x1), (vI x2), (vI x3), (vI x4), (vI x5), (Sl 500 (n6) (c6)), (vI x7), (vI x8), (vI x9), (vI x10)].toArray)) ∧
 True)) ∧
 (bcase (dL n6 5 l6)
 ((Says C 11 [(D.agg [(dI x0), (dI x1), (dI x2), (dI x3), (dI x4), (dI x5), (Dw n6 5 l6), (dI x7), (dI x8), (dI x9), (dI x10)])] [(D.agg [(dI x0), (dI x1), (dI x2), (dI x3), (dI x4), (dI x5), (Dw n6 5 l6), (dI x7), (dI x8), (dI x9), (dI x10)])]) ∧
 (((Qv (Value.agg [(Value.string (s11)), (Sl 501 (n12) (c12))].toArray)) ∧
 True) ∧
 (bcase (dL n12 1 l12)
 ((Says C 12 [(D.agg [(D.val (Value.string (s11))), (Dw n12 1 l12)])] [(D.agg [(D.val (Value.string (s11))), (Dw n12 1 l12)])]) ∧
 (True ∧
 (bcase (dL n6 5 (Tk n6 5 l6))
 (bcase (dL n12 1 (Tk n12 1 l12))
 (∃ n3 : Int,
 (∃ n4 : Int,
 ((Says C 30 [(D.agg [(dI x0), (dI x1), (dI x2), (dI x3), (dI x4), (dI x5), (Dw n6 5 (Tk n6 5 l6)), (dI x7), (dI x8), (dI x9), (dI x10)]), (D.agg [(D.val (Value.string (s11))), (Dw n12 1 (Tk n12 1 l12))])] [(dI n3), (dI n4)]) ∧
 (((Qv (vI n4)) ∧
 ((Qv (vI n3)) ∧
 ((Qv (Value.tuple [(vI n3), (vI n4)].toArray)) ∧
 True))) ∧
 (((Qv (vI n4)) ∧
 True) ∧
 (True ∧
 ((((Qv (Pt 1009 0)) ∧
 (Qv (some (AObj.cells [(vI 0), (Value.slice none 0 0)] 67 false 2)))) ∧
 ((Qv (Value.agg [(Value.string (s11)), (Sl 501 (n12) (c12))].toArray)) ∧
 ((Qv (Value.agg [(vI x0), (vI x1), (vI x2), (vI x3), (vI x4), (vI x5), (Sl 500 (n6) (c6)), (vI x7), (vI x8), (vI x9), (vI x10)].toArray)) ∧
 True))) ∧
 (bcase (dL n6 5 l6)
 ((Says C 11 [(D.agg [(dI x0), (dI x1), (dI x2), (dI x3), (dI x4), (dI x5), (Dw n6 5 l6), (dI x7), (dI x8), (dI x9), (dI x10)])] [(D.agg [(dI x0), (dI x1), (dI x2), (dI x3), (dI x4), (dI x5), (Dw n6 5 l6), (dI x7), (dI x8), (dI x9), (dI x10)])]) ∧
 ((((Qv (Pt 1009 0)) ∧
 (Qv (some (AObj.cells [(vI 0), (Value.slice none 0 0)] 67 false 2)))) ∧
 ((Qv (Value.agg [(Value.string (s11)), (Sl 501 (n12) (c12))].toArray)) ∧
 True)) ∧
 (bcase (dL n12 1 l12)
 ((Says C 12 [(D.agg [(D.val (Value.string (s11))), (Dw n12 1 l12)])] [(D.agg [(D.val (Value.string (s11))), (Dw n12 1 l12)])]) ∧
 ((((Qv (Pt 1009 0)) ∧
 (Qv (some (AObj.cells [(vI 0), (Value.slice none 0 0)] 67 false 2)))) ∧
 True) ∧
 (bcase (dL n6 5 (Tk n6 5 l6))
 (bcase (dL n12 1 (Tk n12 1 l12))
 (∃ n5 : Int,
 (∃ n7 : Int,
 ((Says C 31 [(D.agg [(dI x0), (dI x1), (dI x2), (dI x3), (dI x4), (dI x5), (Dw n6 5 (Tk n6 5 l6)), (dI x7), (dI x8), (dI x9), (dI x10)]), (D.agg [(D.val (Value.string (s11))), (Dw n12 1 (Tk n12 1 l12))])] [(D.agg [(dI n5), D.nil]), (dI n7)]) ∧
 (((Qv (vI n7)) ∧
 ((Qv (Value.agg [(vI n5), (Value.slice none 0 0)].toArray)) ∧
 ((Qv (Value.tuple [(Value.agg [(vI n5), (Value.slice none 0 0)].toArray), (vI n7)].toArray)) ∧
 (((Qv (Pt 1009 0)) ∧
 (Qv (some (AObj.cells [(vI 0), (Value.slice none 0 0)] 67 false 2)))) ∧
 True)))) ∧
 (((Qv (vI n7)) ∧
 True) ∧
 (True ∧
 (bcase (dL n6 5 l6)
 (bcase (dL n12 1 l12)
 (∃ n8 : Int,
 ((Says C 8 [(D.agg [(dI x0), (dI x1), (dI x2), (dI x3), (dI x4), (dI x5), (Dw n6 5 l6), (dI x7), (dI x8), (dI x9), (dI x10)]), (D.agg [(D.val (Value.string (s11))), (Dw n12 1 l12)])] [(dI n8)]) ∧
 (bcase (n8 != 0)
 (bcase (n2 == n8)
 (bcase (n4 == n8)
 (bcase (n7 == n8)
 (bcase ((↑n1 : Int) == 0)
 (bcase (n3 == 0)
 (bcase (n5 == 0)
 (((Says C 81 [D.nil, D.nil] kT) ∧
 (k kT)) ∨
 ((Says C 81 [D.nil, D.nil] kF) ∧
 (k kF)))
 (k kF))
 (k kF))
 (k kF))
 (k kF))
 (k kF))
 (k kF))
 (bcase (n4 != 0)
 (k kF)
 (bcase (dL n6 5 l6)
 (bcase (dL n12 1 l12)
 (∃ n9 : Int,
 ((Says C 33 [(D.agg [(dI x0), (dI x1), (dI x2), (dI x3), (dI x4), (dI x5), (Dw n6 5 l6), (dI x7), (dI x8), (dI x9), (dI x10)]), (D.agg [(D.val (Value.string (s11))), (Dw n12 1 l12)])] [(dI n9)]) ∧
 (bcase (n3 != n9)
 (k kF)
 (bcase (dL n6 5 l6)
 (bcase (dL n12 1 l12)
 (∃ n10 : Int,
 (∃ b1 : Bool,
 ((Says C 34 [(D.agg [(dI x0), (dI x1), (dI x2), (dI x3), (dI x4), (dI x5), (Dw n6 5 l6), (dI x7), (dI x8), (dI x9), (dI x10)]), (D.agg [(D.val (Value.string (s11))), (Dw n12 1 l12)])] [(D.agg [(dI n10), D.nil]), (D.val (Value.bool (b1)))]) ∧
 (bcase (b1)
 (bcase (n7 != 0)
 (k kF)
 (bcase (n5 == n10)
 (((Says C 81 [D.nil, D.nil] kT) ∧
 (((Says C 9 [(dI x13), (dI 0), (D.val (vI 3))] kT) ∧
 (bcase (n2 == 0)
 (bcase (dL n6 5 l6)
 (bcase (dL n12 1 l12)
 (∃ n11 : Nat,
 (∃ cs2 : List Go.Value,
 ((Says C 35 [(D.agg [(dI x0), (dI x1), (dI x2), (dI x3), (dI x4), (dI x5), (Dw n6 5 l6), (dI x7), (dI x8), (dI x9), (dI x10)]), (D.agg [(D.val (Value.string (s11))), (Dw n12 1 l12)]), (dI x13)] [(D.sl (n11) 2 (cs2))]) ∧
 (bcase (dL n1 2 cs1)
 (bcase (dL n11 2 cs2)
 (((Says C 24 [(Dw n1 2 cs1), (Dw n11 2 cs2)] kT) ∧
 (k kT)) ∨
 ((Says C 24 [(Dw n1 2 cs1), (Dw n11 2 cs2)] kF) ∧
 (k kF)))
 False)
 False))))
 False)
 False)
 (k kF))) ∨
 ((Says C 9 [(dI x13), (dI 0), (D.val (vI 3))] kF) ∧
 (bcase (n2 == 15)
 (bcase ((↑n1 : Int) == 0)
 (k kT)
 (k kF))
 (k kF))))) ∨
 ((Says C 81 [D.nil, D.nil] kF) ∧
 (k kF)))
 (k kF)))
 (bcase (n7 != 12)
 (k kF)
 (bcase (n5 == 0)
 (((Says C 81 [D.nil, D.nil] kT) ∧
 (((Says C 9 [(dI x13), (dI 0), (D.val (vI 3))] kT) ∧
 (bcase (n2 == 0)
 (bcase (dL n6 5 l6)
 (bcase (dL n12 1 l12)
 (∃ n11 : Nat,
 (∃ cs2 : List Go.Value,
 ((Says C 35 [(D.agg [(dI x0), (dI x1), (dI x2), (dI x3), (dI x4), (dI x5), (Dw n6 5 l6), (dI x7), (dI x8), (dI x9), (dI x10)]), (D.agg [(D.val (Value.string (s11))), (Dw n12 1 l12)]), (dI x13)] [(D.sl (n11) 2 (cs2))]) ∧
 (bcase (dL n1 2 cs1)
 (bcase (dL n11 2 cs2)
 (((Says C 24 [(Dw n1 2 cs1), (Dw n11 2 cs2)] kT) ∧
 (k kT)) ∨
 ((Says C 24 [(Dw n1 2 cs1), (Dw n11 2 cs2)] kF) ∧
 (k kF)))
 False)
 False))))
 False)
 False)
 (k kF))) ∨
 ((Says C 9 [(dI x13), (dI 0), (D.val (vI 3))] kF) ∧
 (bcase (n2 == 15)
 (bcase ((↑n1 : Int) == 0)
 (k kT)
 (k kF))
 (k kF))))) ∨
 ((Says C 81 [D.nil, D.nil] kF) ∧
 (k kF)))
 (k kF)))))))
 False)
 False))))
 False)
 False)))))
 False)
 False)))))))
 False)
 False)))
 False)))
 False))))))))
 False)
 False)))
 False)))
 False))))))))))
 False)
 False)))
 False)))
 False))
 (k kT))
 (k kT))
 (k kT))) ∨
 ((Says C 6 [] kF) ∧
 (k kF))) := by kernel_rfl
def gGb (C : Ct) (L : AtLoop) (x0 : Int) (x1 : Int) (x2 : Int) (x3 : Int) (x4 : Int) (x5 : Int) (n6 : Nat) (c6 : Nat) (l6 : List Value) (x7 : Int) (x8 : Int) (x9 : Int) (x10 : Int) (s11 : ByteArray) (n12 : Nat) (c12 : Nat) (l12 : List Value) (x13 : Int) (k : List D → Prop) : Prop := wpFn Tryz.prog (hB2 C) L 0 5 #[.agg #[.int .i64 x0, .int .i64 x1, .int .i64 x2, .int .i64 x3, .int .i64 x4, .int .i64 x5, .slice (some ⟨500, 0, none⟩) n6 c6, .int .i64 x7, .int .i64 x8, .int .i64 x9, .int .i64 x10], .agg #[.string s11, .slice (some ⟨501, 0, none⟩) n12 c12], .int .i64 x13] (heapOf [(500, .sym l6 false 5), (501, .sym l12 false 1)]) (dataK k)
theorem gGb_text (C : Ct) (L : AtLoop) (x0 : Int) (x1 : Int) (x2 : Int) (x3 : Int) (x4 : Int) (x5 : Int) (n6 : Nat) (c6 : Nat) (l6 : List Go.Value) (x7 : Int) (x8 : Int) (x9 : Int) (x10 : Int) (s11 : ByteArray) (n12 : Nat) (c12 : Nat) (l12 : List Go.Value) (x13 : Int) (k : List D → Prop) : gGb C L x0 x1 x2 x3 x4 x5 n6 c6 l6 x7 x8 x9 x10 s11 n12 c12 l12 x13 k =
 (((Says C 6 [] kT) ∧
 (bcase (decide ((↑n6 : Int) ≤ 8))
 (bcase (decide ((↑n12 : Int) ≤ 8))
 (bcase (decide ((↑(ByteArray.size s11) : Int) ≤ 30))
 (((Qv (vI x13)) ∧
 ((Qv (Value.agg [(Value.string (s11)), (Sl 501 (n12) (c12))].toArray)) ∧
 ((Qv (Value.agg [(vI x0), (vI x1), (vI x2), (vI x3), (vI x4), (vI x5), (Sl 500 (n6) (c6)), (vI x7), (vI x8), (vI x9), (vI x10)].toArray)) ∧
 True))) ∧
 (bcase (dL n6 5 l6)
 ((Says C 11 [(D.agg [(dI x0), (dI x1), (dI x2), (dI x3), (dI x4), (dI x5), (Dw n6 5 l6), (dI x7), (dI x8), (dI x9), (dI x10)])] [(D.agg [(dI x0), (dI x1), (dI x2), (dI x3), (dI x4), (dI x5), (Dw n6 5 l6), (dI x7), (dI x8), (dI x9), (dI x10)])]) ∧
 (((Qv (vI x13)) ∧
 ((Qv (Value.agg [(Value.string (s11)), (Sl 501 (n12) (c12))].toArray)) ∧
 True)) ∧
 (bcase (dL n12 1 l12)
 ((Says C 12 [(D.agg [(D.val (Value.string (s11))), (Dw n12 1 l12)])] [(D.agg [(D.val (Value.string (s11))), (Dw n12 1 l12)])]) ∧
 (((Qv (vI x13)) ∧
 True) ∧
 (bcase (dL n6 5 (Tk n6 5 l6))
 (bcase (dL n12 1 (Tk n12 1 l12))
 (∃ n1 : Int,
 ((Says C 29 [(D.agg [(dI x0), (dI x1), (dI x2), (dI x3), (dI x4), (dI x5), (Dw n6 5 (Tk n6 5 l6)), (dI x7), (dI x8), (dI x9), (dI x10)]), (D.agg [(D.val (Value.string (s11))), (Dw n12 1 (Tk n12 1 l12))]), (dI x13)] [D.nil, (dI n1)]) ∧
 (((Qv (vI n1)) ∧
 ((Qv (Value.slice none 0 0)) ∧
 ((Qv (Value.tuple [(Value.slice none 0 0), (vI n1)].toArray)) ∧
 True))) ∧
 (((Qv (vI n1)) ∧
 True) ∧
 (True ∧
 (((Qv (Value.agg [(Value.string (s11)), (Sl 501 (n12) (c12))].toArray)) ∧
 ((Qv (Value.agg [(vI x0), (vI x1), (vI x2), (vI x3), (vI x4), (vI x5), (Sl 500 (n6) (c6)), (vI x7), (vI x8), (vI x9), (vI x10)].toArray)) ∧
 True)) ∧
 (bcase (dL n6 5 l6)
 ((Says C 11 [(D.agg [(dI x0), (dI x1), (dI x2), (dI x3), (dI x4), (dI x5), (Dw n6 5 l6), (dI x7), (dI x8), (dI x9), (dI x10)])] [(D.agg [(dI x0), (dI x1), (dI x2), (dI x3), (dI x4), (dI x5), (Dw n6 5 l6), (dI x7), (dI x8), (dI x9), (dI x10)])]) ∧
 (((Qv (Value.agg [(Value.string (s11)), (Sl 501 (n12) (c12))].toArray)) ∧
 True) ∧
 (bcase (dL n12 1 l12)
 ((Says C 12 [(D.agg [(D.val (Value.string (s11))), (Dw n12 1 l12)])] [(D.agg [(D.val (Value.string (s11))), (Dw n12 1 l12)])]) ∧
 (True ∧
 (bcase (dL n6 5 (Tk n6 5 l6))
 (bcase (dL n12 1 (Tk n12 1 l12))
 (∃ n2 : Int,
 (∃ n3 : Int,
 ((Says C 30 [(D.agg [(dI x0), (dI x1), (dI x2), (dI x3), (dI x4), (dI x5), (Dw n6 5 (Tk n6 5 l6)), (dI x7), (dI x8), (dI x9), (dI x10)]), (D.agg [(D.val (Value.string (s11))), (Dw n12 1 (Tk n12 1 l12))])] [(dI n2), (dI n3)]) ∧
 (((Qv (vI n3)) ∧
 ((Qv (vI n2)) ∧
 ((Qv (Value.tuple [(vI n2), (vI n3)].toArray)) ∧
 True))) ∧
 (((Qv (vI n3)) ∧
 True) ∧
 (True ∧
 ((((Qv (Pt 1008 0)) ∧
 (Qv (some (AObj.cells [(vI 0), (Value.slice none 0 0)] 67 false 2)))) ∧
 ((Qv (Value.agg [(Value.string (s11)), (Sl 501 (n12) (c12))].toArray)) ∧
 ((Qv (Value.agg [(vI x0), (vI x1), (vI x2), (vI x3), (vI x4), (vI x5), (Sl 500 (n6) (c6)), (vI x7), (vI x8), (vI x9), (vI x10)].toArray)) ∧
 True))) ∧
 (bcase (dL n6 5 l6)
 ((Says C 11 [(D.agg [(dI x0), (dI x1), (dI x2), (dI x3), (dI x4), (dI x5), (Dw n6 5 l6), (dI x7), (dI x8), (dI x9), (dI x10)])] [(D.agg [(dI x0), (dI x1), (dI x2), (dI x3), (dI x4), (dI x5), (Dw n6 5 l6), (dI x7), (dI x8), (dI x9), (dI x10)])]) ∧
 ((((Qv (Pt 1008 0)) ∧
 (Qv (some (AObj.cells [(vI 0), (Value.slice none 0 0)] 67 false 2)))) ∧
 ((Qv (Value.agg [(Value.string (s11)), (Sl 501 (n12) (c12))].toArray)) ∧
 True)) ∧
 (bcase (dL n12 1 l12)
 ((Says C 12 [(D.agg [(D.val (Value.string (s11))), (Dw n12 1 l12)])] [(D.agg [(D.val (Value.string (s11))), (Dw n12 1 l12)])]) ∧
 ((((Qv (Pt 1008 0)) ∧
 (Qv (some (AObj.cells [(vI 0), (Value.slice none 0 0)] 67 false 2)))) ∧
 True) ∧
 (bcase (dL n6 5 (Tk n6 5 l6))
 (bcase (dL n12 1 (Tk n12 1 l12))
 (∃ n4 : Int,
 (∃ n5 : Int,
 ((Says C 31 [(D.agg [(dI x0), (dI x1), (dI x2), (dI x3), (dI x4), (dI x5), (Dw n6 5 (Tk n6 5 l6)), (dI x7), (dI x8), (dI x9), (dI x10)]), (D.agg [(D.val (Value.string (s11))), (Dw n12 1 (Tk n12 1 l12))])] [(D.agg [(dI n4), D.nil]), (dI n5)]) ∧
 (((Qv (vI n5)) ∧
 ((Qv (Value.agg [(vI n4), (Value.slice none 0 0)].toArray)) ∧
 ((Qv (Value.tuple [(Value.agg [(vI n4), (Value.slice none 0 0)].toArray), (vI n5)].toArray)) ∧
 (((Qv (Pt 1008 0)) ∧
 (Qv (some (AObj.cells [(vI 0), (Value.slice none 0 0)] 67 false 2)))) ∧
 True)))) ∧
 (((Qv (vI n5)) ∧
 True) ∧
 (True ∧
 (bcase (dL n6 5 l6)
 (bcase (dL n12 1 l12)
 (∃ n7 : Int,
 ((Says C 8 [(D.agg [(dI x0), (dI x1), (dI x2), (dI x3), (dI x4), (dI x5), (Dw n6 5 l6), (dI x7), (dI x8), (dI x9), (dI x10)]), (D.agg [(D.val (Value.string (s11))), (Dw n12 1 l12)])] [(dI n7)]) ∧
 (bcase (n7 != 0)
 (bcase (n1 == n7)
 (bcase (n3 == n7)
 (bcase (n5 == n7)
 (bcase (n2 == 0)
 (bcase (n4 == 0)
 (((Says C 81 [D.nil, D.nil] kT) ∧
 (k kT)) ∨
 ((Says C 81 [D.nil, D.nil] kF) ∧
 (k kF)))
 (k kF))
 (k kF))
 (k kF))
 (k kF))
 (k kF))
 (bcase (n3 != 0)
 (k kF)
 False))))
 False)
 False)))))))
 False)
 False)))
 False)))
 False))))))))
 False)
 False)))
 False)))
 False)))))))
 False)
 False)))
 False)))
 False))
 (k kT))
 (k kT))
 (k kT))) ∨
 ((Says C 6 [] kF) ∧
 (k kF))) := by kernel_rfl
def gGc2 (C : Ct) (L : AtLoop) (x0 : Int) (x1 : Int) (x2 : Int) (x3 : Int) (x4 : Int) (x5 : Int) (n6 : Nat) (c6 : Nat) (l6 : List Value) (x7 : Int) (x8 : Int) (x9 : Int) (x10 : Int) (s11 : ByteArray) (x13 : Int) (k : List D → Prop) : Prop := wpFn Tryz.prog (hB2 C) L 0 5 #[.agg #[.int .i64 x0, .int .i64 x1, .int .i64 x2, .int .i64 x3, .int .i64 x4, .int .i64 x5, .slice (some ⟨500, 0, none⟩) n6 c6, .int .i64 x7, .int .i64 x8, .int .i64 x9, .int .i64 x10], .agg #[.string s11, .slice none 0 0], .int .i64 x13] (heapOf [(500, .sym l6 false 5)]) (dataK k)
theorem gGc2_text (C : Ct) (L : AtLoop) (x0 : Int) (x1 : Int) (x2 : Int) (x3 : Int) (x4 : Int) (x5 : Int) (n6 : Nat) (c6 : Nat) (l6 : List Go.Value) (x7 : Int) (x8 : Int) (x9 : Int) (x10 : Int) (s11 : ByteArray) (x13 : Int) (k : List D → Prop) : gGc2 C L x0 x1 x2 x3 x4 x5 n6 c6 l6 x7 x8 x9 x10 s11 x13 k =
 (((Says C 6 [] kT) ∧
 (bcase (decide ((↑n6 : Int) ≤ 8))
 (bcase (decide ((↑(ByteArray.size s11) : Int) ≤ 30))
 (((Qv (vI x13)) ∧
 ((Qv (Value.agg [(Value.string (s11)), (Value.slice none 0 0)].toArray)) ∧
 ((Qv (Value.agg [(vI x0), (vI x1), (vI x2), (vI x3), (vI x4), (vI x5), (Sl 500 (n6) (c6)), (vI x7), (vI x8), (vI x9), (vI x10)].toArray)) ∧
 True))) ∧
 (bcase (dL n6 5 l6)
 ((Says C 11 [(D.agg [(dI x0), (dI x1), (dI x2), (dI x3), (dI x4), (dI x5), (Dw n6 5 l6), (dI x7), (dI x8), (dI x9), (dI x10)])] [(D.agg [(dI x0), (dI x1), (dI x2), (dI x3), (dI x4), (dI x5), (Dw n6 5 l6), (dI x7), (dI x8), (dI x9), (dI x10)])]) ∧
 (((Qv (vI x13)) ∧
 ((Qv (Value.agg [(Value.string (s11)), (Value.slice none 0 0)].toArray)) ∧
 True)) ∧
 ((Says C 12 [(D.agg [(D.val (Value.string (s11))), D.nil])] [(D.agg [(D.val (Value.string (s11))), (D.sl 0 1 [])])]) ∧
 (((Qv (vI x13)) ∧
 True) ∧
 (bcase (dL n6 5 (Tk n6 5 l6))
 (∃ n1 : Int,
 ((Says C 29 [(D.agg [(dI x0), (dI x1), (dI x2), (dI x3), (dI x4), (dI x5), (Dw n6 5 (Tk n6 5 l6)), (dI x7), (dI x8), (dI x9), (dI x10)]), (D.agg [(D.val (Value.string (s11))), (D.sl 0 1 [])]), (dI x13)] [D.nil, (dI n1)]) ∧
 (((Qv (vI n1)) ∧
 ((Qv (Value.slice none 0 0)) ∧
 ((Qv (Value.tuple [(Value.slice none 0 0), (vI n1)].toArray)) ∧
 True))) ∧
 (((Qv (vI n1)) ∧
 True) ∧
 (True ∧
 (((Qv (Value.agg [(Value.string (s11)), (Value.slice none 0 0)].toArray)) ∧
 ((Qv (Value.agg [(vI x0), (vI x1), (vI x2), (vI x3), (vI x4), (vI x5), (Sl 500 (n6) (c6)), (vI x7), (vI x8), (vI x9), (vI x10)].toArray)) ∧
 True)) ∧
 (bcase (dL n6 5 l6)
 ((Says C 11 [(D.agg [(dI x0), (dI x1), (dI x2), (dI x3), (dI x4), (dI x5), (Dw n6 5 l6), (dI x7), (dI x8), (dI x9), (dI x10)])] [(D.agg [(dI x0), (dI x1), (dI x2), (dI x3), (dI x4), (dI x5), (Dw n6 5 l6), (dI x7), (dI x8), (dI x9), (dI x10)])]) ∧
 (((Qv (Value.agg [(Value.string (s11)), (Value.slice none 0 0)].toArray)) ∧
 True) ∧
 ((Says C 12 [(D.agg [(D.val (Value.string (s11))), D.nil])] [(D.agg [(D.val (Value.string (s11))), (D.sl 0 1 [])])]) ∧
 (True ∧
 (bcase (dL n6 5 (Tk n6 5 l6))
 (∃ n2 : Int,
 (∃ n3 : Int,
 ((Says C 30 [(D.agg [(dI x0), (dI x1), (dI x2), (dI x3), (dI x4), (dI x5), (Dw n6 5 (Tk n6 5 l6)), (dI x7), (dI x8), (dI x9), (dI x10)]), (D.agg [(D.val (Value.string (s11))), (D.sl 0 1 [])])] [(dI n2), (dI n3)]) ∧
 (((Qv (vI n3)) ∧
 ((Qv (vI n2)) ∧
 ((Qv (Value.tuple [(vI n2), (vI n3)].toArray)) ∧
 True))) ∧
 (((Qv (vI n3)) ∧
 True) ∧
 (True ∧
 ((((Qv (Pt 1008 0)) ∧
 (Qv (some (AObj.cells [(vI 0), (Value.slice none 0 0)] 67 false 2)))) ∧
 ((Qv (Value.agg [(Value.string (s11)), (Value.slice none 0 0)].toArray)) ∧
 ((Qv (Value.agg [(vI x0), (vI x1), (vI x2), (vI x3), (vI x4), (vI x5), (Sl 500 (n6) (c6)), (vI x7), (vI x8), (vI x9), (vI x10)].toArray)) ∧
 True))) ∧
 (bcase (dL n6 5 l6)
 ((Says C 11 [(D.agg [(dI x0), (dI x1), (dI x2), (dI x3), (dI x4), (dI x5), (Dw n6 5 l6), (dI x7), (dI x8), (dI x9), (dI x10)])] [(D.agg [(dI x0), (dI x1), (dI x2), (dI x3), (dI x4), (dI x5), (Dw n6 5 l6), (dI x7), (dI x8), (dI x9), (dI x10)])]) ∧
 ((((Qv (Pt 1008 0)) ∧
 (Qv (some (AObj.cells [(vI 0), (Value.slice none 0 0)] 67 false 2)))) ∧
 ((Qv (Value.agg [(Value.string (s11)), (Value.slice none 0 0)].toArray)) ∧
 True)) ∧
 ((Says C 12 [(D.agg [(D.val (Value.string (s11))), D.nil])] [(D.agg [(D.val (Value.string (s11))), (D.sl 0 1 [])])]) ∧
 ((((Qv (Pt 1008 0)) ∧
 (Qv (some (AObj.cells [(vI 0), (Value.slice none 0 0)] 67 false 2)))) ∧
 True) ∧
 (bcase (dL n6 5 (Tk n6 5 l6))
 (∃ n4 : Int,
 (∃ n5 : Int,
 ((Says C 31 [(D.agg [(dI x0), (dI x1), (dI x2), (dI x3), (dI x4), (dI x5), (Dw n6 5 (Tk n6 5 l6)), (dI x7), (dI x8), (dI x9), (dI x10)]), (D.agg [(D.val (Value.string (s11))), (D.sl 0 1 [])])] [(D.agg [(dI n4), D.nil]), (dI n5)]) ∧
 (((Qv (vI n5)) ∧
 ((Qv (Value.agg [(vI n4), (Value.slice none 0 0)].toArray)) ∧
 ((Qv (Value.tuple [(Value.agg [(vI n4), (Value.slice none 0 0)].toArray), (vI n5)].toArray)) ∧
 (((Qv (Pt 1008 0)) ∧
 (Qv (some (AObj.cells [(vI 0), (Value.slice none 0 0)] 67 false 2)))) ∧
 True)))) ∧
 (((Qv (vI n5)) ∧
 True) ∧
 (True ∧
 (bcase (dL n6 5 l6)
 (∃ n7 : Int,
 ((Says C 8 [(D.agg [(dI x0), (dI x1), (dI x2), (dI x3), (dI x4), (dI x5), (Dw n6 5 l6), (dI x7), (dI x8), (dI x9), (dI x10)]), (D.agg [(D.val (Value.string (s11))), D.nil])] [(dI n7)]) ∧
 (bcase (n7 != 0)
 (bcase (n1 == n7)
 (bcase (n3 == n7)
 (bcase (n5 == n7)
 (bcase (n2 == 0)
 (bcase (n4 == 0)
 (((Says C 81 [D.nil, D.nil] kT) ∧
 (k kT)) ∨
 ((Says C 81 [D.nil, D.nil] kF) ∧
 (k kF)))
 (k kF))
 (k kF))
 (k kF))
 (k kF))
 (k kF))
 (bcase (n3 != 0)
 (k kF)
 False))))
 False)))))))
 False)))))
 False))))))))
 False)))))
 False)))))))
 False)))))
 False))
 (k kT))
 (k kT))) ∨
 ((Says C 6 [] kF) ∧
 (k kF))) := by kernel_rfl
def gGd (C : Ct) (L : AtLoop) (x0 : Int) (x1 : Int) (x2 : Int) (x3 : Int) (x4 : Int) (x5 : Int) (x7 : Int) (x8 : Int) (x9 : Int) (x10 : Int) (s11 : ByteArray) (n12 : Nat) (c12 : Nat) (l12 : List Value) (x13 : Int) (k : List D → Prop) : Prop := wpFn Tryz.prog (hB2 C) L 0 5 #[.agg #[.int .i64 x0, .int .i64 x1, .int .i64 x2, .int .i64 x3, .int .i64 x4, .int .i64 x5, .slice none 0 0, .int .i64 x7, .int .i64 x8, .int .i64 x9, .int .i64 x10], .agg #[.string s11, .slice (some ⟨500, 0, none⟩) n12 c12], .int .i64 x13] (heapOf [(500, .sym l12 false 1)]) (dataK k)
theorem gGd_text (C : Ct) (L : AtLoop) (x0 : Int) (x1 : Int) (x2 : Int) (x3 : Int) (x4 : Int) (x5 : Int) (x7 : Int) (x8 : Int) (x9 : Int) (x10 : Int) (s11 : ByteArray) (n12 : Nat) (c12 : Nat) (l12 : List Go.Value) (x13 : Int) (k : List D → Prop) : gGd C L x0 x1 x2 x3 x4 x5 x7 x8 x9 x10 s11 n12 c12 l12 x13 k =
 (((Says C 6 [] kT) ∧
 (bcase (decide ((↑n12 : Int) ≤ 8))
 (bcase (decide ((↑(ByteArray.size s11) : Int) ≤ 30))
 (((Qv (vI x13)) ∧
 ((Qv (Value.agg [(Value.string (s11)), (Sl 500 (n12) (c12))].toArray)) ∧
 ((Qv (Value.agg [(vI x0), (vI x1), (vI x2), (vI x3), (vI x4), (vI x5), (Value.slice none 0 0), (vI x7), (vI x8), (vI x9), (vI x10)].toArray)) ∧
 True))) ∧
 ((Says C 11 [(D.agg [(dI x0), (dI x1), (dI x2), (dI x3), (dI x4), (dI x5), D.nil, (dI x7), (dI x8), (dI x9), (dI x10)])] [(D.agg [(dI x0), (dI x1), (dI x2), (dI x3), (dI x4), (dI x5), (D.sl 0 5 []), (dI x7), (dI x8), (dI x9), (dI x10)])]) ∧
 (((Qv (vI x13)) ∧
 ((Qv (Value.agg [(Value.string (s11)), (Sl 500 (n12) (c12))].toArray)) ∧
 True)) ∧
 (bcase (dL n12 1 l12)
 ((Says C 12 [(D.agg [(D.val (Value.string (s11))), (Dw n12 1 l12)])] [(D.agg [(D.val (Value.string (s11))), (Dw n12 1 l12)])]) ∧
 (((Qv (vI x13)) ∧
 True) ∧
 (bcase (dL n12 1 (Tk n12 1 l12))
 (∃ n1 : Int,
 ((Says C 29 [(D.agg [(dI x0), (dI x1), (dI x2), (dI x3), (dI x4), (dI x5), (D.sl 0 5 []), (dI x7), (dI x8), (dI x9), (dI x10)]), (D.agg [(D.val (Value.string (s11))), (Dw n12 1 (Tk n12 1 l12))]), (dI x13)] [D.nil, (dI n1)]) ∧
 (((Qv (vI n1)) ∧
 ((Qv (Value.slice none 0 0)) ∧
 ((Qv (Value.tuple [(Value.slice none 0 0), (vI n1)].toArray)) ∧
 True))) ∧
 (((Qv (vI n1)) ∧
 True) ∧
 (True ∧
 (((Qv (Value.agg [(Value.string (s11)), (Sl 500 (n12) (c12))].toArray)) ∧
 ((Qv (Value.agg [(vI x0), (vI x1), (vI x2), (vI x3), (vI x4), (vI x5), (Value.slice none 0 0), (vI x7), (vI x8), (vI x9), (vI x10)].toArray)) ∧
 True)) ∧
 ((Says C 11 [(D.agg [(dI x0), (dI x1), (dI x2), (dI x3), (dI x4), (dI x5), D.nil, (dI x7), (dI x8), (dI x9), (dI x10)])] [(D.agg [(dI x0), (dI x1), (dI x2), (dI x3), (dI x4), (dI x5), (D.sl 0 5 []), (dI x7), (dI x8), (dI x9), (dI x10)])]) ∧
 (((Qv (Value.agg [(Value.string (s11)), (Sl 500 (n12) (c12))].toArray)) ∧
 True) ∧
 (bcase (dL n12 1 l12)
 ((Says C 12 [(D.agg [(D.val (Value.string (s11))), (Dw n12 1 l12)])] [(D.agg [(D.val (Value.string (s11))), (Dw n12 1 l12)])]) ∧
 (True ∧
 (bcase (dL n12 1 (Tk n12 1 l12))
 (∃ n2 : Int,
 (∃ n3 : Int,
 ((Says C 30 [(D.agg [(dI x0), (dI x1), (dI x2), (dI x3), (dI x4), (dI x5), (D.sl 0 5 []), (dI x7), (dI x8), (dI x9), (dI x10)]), (D.agg [(D.val (Value.string (s11))), (Dw n12 1 (Tk n12 1 l12))])] [(dI n2), (dI n3)]) ∧
 (((Qv (vI n3)) ∧
 ((Qv (vI n2)) ∧
 ((Qv (Value.tuple [(vI n2), (vI n3)].toArray)) ∧
 True))) ∧
 (((Qv (vI n3)) ∧
 True) ∧
 (True ∧
 ((((Qv (Pt 1008 0)) ∧
 (Qv (some (AObj.cells [(vI 0), (Value.slice none 0 0)] 67 false 2)))) ∧
 ((Qv (Value.agg [(Value.string (s11)), (Sl 500 (n12) (c12))].toArray)) ∧
 ((Qv (Value.agg [(vI x0), (vI x1), (vI x2), (vI x3), (vI x4), (vI x5), (Value.slice none 0 0), (vI x7), (vI x8), (vI x9), (vI x10)].toArray)) ∧
 True))) ∧
 ((Says C 11 [(D.agg [(dI x0), (dI x1), (dI x2), (dI x3), (dI x4), (dI x5), D.nil, (dI x7), (dI x8), (dI x9), (dI x10)])] [(D.agg [(dI x0), (dI x1), (dI x2), (dI x3), (dI x4), (dI x5), (D.sl 0 5 []), (dI x7), (dI x8), (dI x9), (dI x10)])]) ∧
 ((((Qv (Pt 1008 0)) ∧
 (Qv (some (AObj.cells [(vI 0), (Value.slice none 0 0)] 67 false 2)))) ∧
 ((Qv (Value.agg [(Value.string (s11)), (Sl 500 (n12) (c12))].toArray)) ∧
 True)) ∧
 (bcase (dL n12 1 l12)
 ((Says C 12 [(D.agg [(D.val (Value.string (s11))), (Dw n12 1 l12)])] [(D.agg [(D.val (Value.string (s11))), (Dw n12 1 l12)])]) ∧
 ((((Qv (Pt 1008 0)) ∧
 (Qv (some (AObj.cells [(vI 0), (Value.slice none 0 0)] 67 false 2)))) ∧
 True) ∧
 (bcase (dL n12 1 (Tk n12 1 l12))
 (∃ n4 : Int,
 (∃ n5 : Int,
 ((Says C 31 [(D.agg [(dI x0), (dI x1), (dI x2), (dI x3), (dI x4), (dI x5), (D.sl 0 5 []), (dI x7), (dI x8), (dI x9), (dI x10)]), (D.agg [(D.val (Value.string (s11))), (Dw n12 1 (Tk n12 1 l12))])] [(D.agg [(dI n4), D.nil]), (dI n5)]) ∧
 (((Qv (vI n5)) ∧
 ((Qv (Value.agg [(vI n4), (Value.slice none 0 0)].toArray)) ∧
 ((Qv (Value.tuple [(Value.agg [(vI n4), (Value.slice none 0 0)].toArray), (vI n5)].toArray)) ∧
 (((Qv (Pt 1008 0)) ∧
 (Qv (some (AObj.cells [(vI 0), (Value.slice none 0 0)] 67 false 2)))) ∧
 True)))) ∧
 (((Qv (vI n5)) ∧
 True) ∧
 (True ∧
 (bcase (dL n12 1 l12)
 (∃ n6 : Int,
 ((Says C 8 [(D.agg [(dI x0), (dI x1), (dI x2), (dI x3), (dI x4), (dI x5), D.nil, (dI x7), (dI x8), (dI x9), (dI x10)]), (D.agg [(D.val (Value.string (s11))), (Dw n12 1 l12)])] [(dI n6)]) ∧
 (bcase (n6 != 0)
 (bcase (n1 == n6)
 (bcase (n3 == n6)
 (bcase (n5 == n6)
 (bcase (n2 == 0)
 (bcase (n4 == 0)
 (((Says C 81 [D.nil, D.nil] kT) ∧
 (k kT)) ∨
 ((Says C 81 [D.nil, D.nil] kF) ∧
 (k kF)))
 (k kF))
 (k kF))
 (k kF))
 (k kF))
 (k kF))
 (bcase (n3 != 0)
 (k kF)
 False))))
 False)))))))
 False)))
 False))))))))))
 False)))
 False)))))))))
 False)))
 False))))
 (k kT))
 (k kT))) ∨
 ((Says C 6 [] kF) ∧
 (k kF))) := by kernel_rfl
def gGe (C : Ct) (L : AtLoop) (x0 : Int) (x1 : Int) (x2 : Int) (x3 : Int) (x4 : Int) (x5 : Int) (x7 : Int) (x8 : Int) (x9 : Int) (x10 : Int) (s11 : ByteArray) (x13 : Int) (k : List D → Prop) : Prop := wpFn Tryz.prog (hB2 C) L 0 5 #[.agg #[.int .i64 x0, .int .i64 x1, .int .i64 x2, .int .i64 x3, .int .i64 x4, .int .i64 x5, .slice none 0 0, .int .i64 x7, .int .i64 x8, .int .i64 x9, .int .i64 x10], .agg #[.string s11, .slice none 0 0], .int .i64 x13] (heapOf []) (dataK k)
theorem gGe_text (C : Ct) (L : AtLoop) (x0 : Int) (x1 : Int) (x2 : Int) (x3 : Int) (x4 : Int) (x5 : Int) (x7 : Int) (x8 : Int) (x9 : Int) (x10 : Int) (s11 : ByteArray) (x13 : Int) (k : List D → Prop) : gGe C L x0 x1 x2 x3 x4 x5 x7 x8 x9 x10 s11 x13 k =
 (((Says C 6 [] kT) ∧
 (bcase (decide ((↑(ByteArray.size s11) : Int) ≤ 30))
 (((Qv (vI x13)) ∧
 ((Qv (Value.agg [(Value.string (s11)), (Value.slice none 0 0)].toArray)) ∧
 ((Qv (Value.agg [(vI x0), (vI x1), (vI x2), (vI x3), (vI x4), (vI x5), (Value.slice none 0 0), (vI x7), (vI x8), (vI x9), (vI x10)].toArray)) ∧
 True))) ∧
 ((Says C 11 [(D.agg [(dI x0), (dI x1), (dI x2), (dI x3), (dI x4), (dI x5), D.nil, (dI x7), (dI x8), (dI x9), (dI x10)])] [(D.agg [(dI x0), (dI x1), (dI x2), (dI x3), (dI x4), (dI x5), (D.sl 0 5 []), (dI x7), (dI x8), (dI x9), (dI x10)])]) ∧
 (((Qv (vI x13)) ∧
 ((Qv (Value.agg [(Value.string (s11)), (Value.slice none 0 0)].toArray)) ∧
 True)) ∧
 ((Says C 12 [(D.agg [(D.val (Value.string (s11))), D.nil])] [(D.agg [(D.val (Value.string (s11))), (D.sl 0 1 [])])]) ∧
 (((Qv (vI x13)) ∧
 True) ∧
 (∃ n1 : Int,
 ((Says C 29 [(D.agg [(dI x0), (dI x1), (dI x2), (dI x3), (dI x4), (dI x5), (D.sl 0 5 []), (dI x7), (dI x8), (dI x9), (dI x10)]), (D.agg [(D.val (Value.string (s11))), (D.sl 0 1 [])]), (dI x13)] [D.nil, (dI n1)]) ∧
 (((Qv (vI n1)) ∧
 ((Qv (Value.slice none 0 0)) ∧
 ((Qv (Value.tuple [(Value.slice none 0 0), (vI n1)].toArray)) ∧
 True))) ∧
 (((Qv (vI n1)) ∧
 True) ∧
 (True ∧
 (((Qv (Value.agg [(Value.string (s11)), (Value.slice none 0 0)].toArray)) ∧
 ((Qv (Value.agg [(vI x0), (vI x1), (vI x2), (vI x3), (vI x4), (vI x5), (Value.slice none 0 0), (vI x7), (vI x8), (vI x9), (vI x10)].toArray)) ∧
 True)) ∧
 ((Says C 11 [(D.agg [(dI x0), (dI x1), (dI x2), (dI x3), (dI x4), (dI x5), D.nil, (dI x7), (dI x8), (dI x9), (dI x10)])] [(D.agg [(dI x0), (dI x1), (dI x2), (dI x3), (dI x4), (dI x5), (D.sl 0 5 []), (dI x7), (dI x8), (dI x9), (dI x10)])]) ∧
 (((Qv (Value.agg [(Value.string (s11)), (Value.slice none 0 0)].toArray)) ∧
 True) ∧
 ((Says C 12 [(D.agg [(D.val (Value.string (s11))), D.nil])] [(D.agg [(D.val (Value.string (s11))), (D.sl 0 1 [])])]) ∧
 (True ∧
 (∃ n2 : Int,
 (∃ n3 : Int,
 ((Says C 30 [(D.agg [(dI x0), (dI x1), (dI x2), (dI x3), (dI x4), (dI x5), (D.sl 0 5 []), (dI x7), (dI x8), (dI x9), (dI x10)]), (D.agg [(D.val (Value.string (s11))), (D.sl 0 1 [])])] [(dI n2), (dI n3)]) ∧
 (((Qv (vI n3)) ∧
 ((Qv (vI n2)) ∧
 ((Qv (Value.tuple [(vI n2), (vI n3)].toArray)) ∧
 True))) ∧
 (((Qv (vI n3)) ∧
 True) ∧
 (True ∧
 ((((Qv (Pt 1008 0)) ∧
 (Qv (some (AObj.cells [(vI 0), (Value.slice none 0 0)] 67 false 2)))) ∧
 ((Qv (Value.agg [(Value.string (s11)), (Value.slice none 0 0)].toArray)) ∧
 ((Qv (Value.agg [(vI x0), (vI x1), (vI x2), (vI x3), (vI x4), (vI x5), (Value.slice none 0 0), (vI x7), (vI x8), (vI x9), (vI x10)].toArray)) ∧
 True))) ∧
 ((Says C 11 [(D.agg [(dI x0), (dI x1), (dI x2), (dI x3), (dI x4), (dI x5), D.nil, (dI x7), (dI x8), (dI x9), (dI x10)])] [(D.agg [(dI x0), (dI x1), (dI x2), (dI x3), (dI x4), (dI x5), (D.sl 0 5 []), (dI x7), (dI x8), (dI x9), (dI x10)])]) ∧
 ((((Qv (Pt 1008 0)) ∧
 (Qv (some (AObj.cells [(vI 0), (Value.slice none 0 0)] 67 false 2)))) ∧
 ((Qv (Value.agg [(Value.string (s11)), (Value.slice none 0 0)].toArray)) ∧
 True)) ∧
 ((Says C 12 [(D.agg [(D.val (Value.string (s11))), D.nil])] [(D.agg [(D.val (Value.string (s11))), (D.sl 0 1 [])])]) ∧
 ((((Qv (Pt 1008 0)) ∧
 (Qv (some (AObj.cells [(vI 0), (Value.slice none 0 0)] 67 false 2)))) ∧
 True) ∧
 (∃ n4 : Int,
 (∃ n5 : Int,
 ((Says C 31 [(D.agg [(dI x0), (dI x1), (dI x2), (dI x3), (dI x4), (dI x5), (D.sl 0 5 []), (dI x7), (dI x8), (dI x9), (dI x10)]), (D.agg [(D.val (Value.string (s11))), (D.sl 0 1 [])])] [(D.agg [(dI n4), D.nil]), (dI n5)]) ∧
 (((Qv (vI n5)) ∧
 ((Qv (Value.agg [(vI n4), (Value.slice none 0 0)].toArray)) ∧
 ((Qv (Value.tuple [(Value.agg [(vI n4), (Value.slice none 0 0)].toArray), (vI n5)].toArray)) ∧
 (((Qv (Pt 1008 0)) ∧
 (Qv (some (AObj.cells [(vI 0), (Value.slice none 0 0)] 67 false 2)))) ∧
 True)))) ∧
 (((Qv (vI n5)) ∧
 True) ∧
 (True ∧
 (∃ n6 : Int,
 ((Says C 8 [(D.agg [(dI x0), (dI x1), (dI x2), (dI x3), (dI x4), (dI x5), D.nil, (dI x7), (dI x8), (dI x9), (dI x10)]), (D.agg [(D.val (Value.string (s11))), D.nil])] [(dI n6)]) ∧
 (bcase (n6 != 0)
 (bcase (n1 == n6)
 (bcase (n3 == n6)
 (bcase (n5 == n6)
 (bcase (n2 == 0)
 (bcase (n4 == 0)
 (((Says C 81 [D.nil, D.nil] kT) ∧
 (k kT)) ∨
 ((Says C 81 [D.nil, D.nil] kF) ∧
 (k kF)))
 (k kF))
 (k kF))
 (k kF))
 (k kF))
 (k kF))
 (bcase (n3 != 0)
 (k kF)
 False))))))))))))))))))))))))))))))))))))
 (k kT))) ∨
 ((Says C 6 [] kF) ∧
 (k kF))) := by kernel_rfl
def gcR (C : Ct) (L : AtLoop) (x0 : Int) (x1 : Int) (x2 : Int) (x3 : Int) (x4 : Int) (x5 : Int) (n6 : Nat) (c6 : Nat) (l6 : List Value) (x7 : Int) (x8 : Int) (x9 : Int) (x10 : Int) (k : List D → Prop) : Prop := wpFn Tryz.prog (hE C) L 0 11 #[.agg #[.int .i64 x0, .int .i64 x1, .int .i64 x2, .int .i64 x3, .int .i64 x4, .int .i64 x5, .slice (some ⟨500, 0, none⟩) n6 c6, .int .i64 x7, .int .i64 x8, .int .i64 x9, .int .i64 x10]] (heapOf [(500, .sym l6 false 5)]) (dataK k)
theorem gcR_text (C : Ct) (L : AtLoop) (x0 : Int) (x1 : Int) (x2 : Int) (x3 : Int) (x4 : Int) (x5 : Int) (n6 : Nat) (c6 : Nat) (l6 : List Go.Value) (x7 : Int) (x8 : Int) (x9 : Int) (x10 : Int) (k : List D → Prop) : gcR C L x0 x1 x2 x3 x4 x5 n6 c6 l6 x7 x8 x9 x10 k =
 (bcase (dL n6 5 l6)
 (bcase (n6 == 0)
 (((0 = 0) ∧
 (0 = 0)) ∧
 (k [(D.agg [(dI x0), (dI x1), (dI x2), (dI x3), (dI x4), (dI x5), (D.sl 0 5 []), (dI x7), (dI x8), (dI x9), (dI x10)])]))
 (bcase (decide (0 < 0 + n6))
 (bcase (decide ((2 * (0 + n6) + 768) * 40 ≤ 281474976710656))
 (bcase (decide (0 + n6 ≤ 1099511627776))
 (((Qv (0 + n6)) ∧
 ((List.length (List.take 0 (List.drop 0 []) ++ List.take (n6 * 5) (List.drop 0 l6))) = ((0 + n6) * 5))) ∧
 (k [(D.agg [(dI x0), (dI x1), (dI x2), (dI x3), (dI x4), (dI x5), (D.sl (0 + n6) 5 ([] ++ (Tk n6 5 l6))), (dI x7), (dI x8), (dI x9), (dI x10)])]))
 False)
 False)
 False))
 False) := by kernel_rfl
def gcRn (C : Ct) (L : AtLoop) (x0 : Int) (x1 : Int) (x2 : Int) (x3 : Int) (x4 : Int) (x5 : Int) (x7 : Int) (x8 : Int) (x9 : Int) (x10 : Int) (k : List D → Prop) : Prop := wpFn Tryz.prog (hE C) L 0 11 #[.agg #[.int .i64 x0, .int .i64 x1, .int .i64 x2, .int .i64 x3, .int .i64 x4, .int .i64 x5, .slice none 0 0, .int .i64 x7, .int .i64 x8, .int .i64 x9, .int .i64 x10]] (heapOf []) (dataK k)
theorem gcRn_text (C : Ct) (L : AtLoop) (x0 : Int) (x1 : Int) (x2 : Int) (x3 : Int) (x4 : Int) (x5 : Int) (x7 : Int) (x8 : Int) (x9 : Int) (x10 : Int) (k : List D → Prop) : gcRn C L x0 x1 x2 x3 x4 x5 x7 x8 x9 x10 k =
 (((0 = 0) ∧
 (0 = 0)) ∧
 (k [(D.agg [(dI x0), (dI x1), (dI x2), (dI x3), (dI x4), (dI x5), (D.sl 0 5 []), (dI x7), (dI x8), (dI x9), (dI x10)])])) := by kernel_rfl
def gcS (C : Ct) (L : AtLoop) (s0 : ByteArray) (n1 : Nat) (c1 : Nat) (l1 : List Value) (k : List D → Prop) : Prop := wpFn Tryz.prog (hE C) L 0 12 #[.agg #[.string s0, .slice (some ⟨500, 0, none⟩) n1 c1]] (heapOf [(500, .sym l1 false 1)]) (dataK k)
theorem gcS_text (C : Ct) (L : AtLoop) (s0 : ByteArray) (n1 : Nat) (c1 : Nat) (l1 : List Go.Value) (k : List D → Prop) : gcS C L s0 n1 c1 l1 k =
 (((Qv (Sl 500 (n1) (c1))) ∧
 ((Qv (Pt 1000 1)) ∧
 ((Qv (Value.string (s0))) ∧
 ((Qv (Pt 1000 0)) ∧
 True)))) ∧
 (bcase (dL n1 1 l1)
 (bcase (n1 == 0)
 (((Qv (Value.agg [(Value.string (s0)), (Sl 1003 0 0)].toArray)) ∧
 ((Qv (Pt 1000 1)) ∧
 ((Qv (Value.string (s0))) ∧
 ((Qv (Pt 1000 0)) ∧
 True)))) ∧
 (True ∧
 (((0 = 0) ∧
 (0 = 0)) ∧
 (k [(D.agg [(D.val (Value.string (s0))), (D.sl 0 1 [])])]))))
 (bcase (decide (0 < 0 + n1))
 (bcase (decide ((2 * (0 + n1) + 768) * 8 ≤ 281474976710656))
 (bcase (decide (0 + n1 ≤ 1099511627776))
 (((Qv (Value.agg [(Value.string (s0)), (Sl 1003 (0 + n1) (0 + n1))].toArray)) ∧
 ((Qv (Pt 1000 1)) ∧
 ((Qv (Value.string (s0))) ∧
 ((Qv (Pt 1000 0)) ∧
 True)))) ∧
 (True ∧
 (((Qv (0 + n1)) ∧
 ((List.length (List.take 0 (List.drop 0 []) ++ List.take (n1 * 1) (List.drop 0 l1))) = ((0 + n1) * 1))) ∧
 (k [(D.agg [(D.val (Value.string (s0))), (D.sl (0 + n1) 1 ([] ++ (Tk n1 1 l1)))])]))))
 False)
 False)
 False))
 False)) := by kernel_rfl
def gcSn (C : Ct) (L : AtLoop) (s0 : ByteArray) (k : List D → Prop) : Prop := wpFn Tryz.prog (hE C) L 0 12 #[.agg #[.string s0, .slice none 0 0]] (heapOf []) (dataK k)
theorem gcSn_text (C : Ct) (L : AtLoop) (s0 : ByteArray) (k : List D → Prop) : gcSn C L s0 k =
 (((Qv (Value.slice none 0 0)) ∧
 ((Qv (Pt 1000 1)) ∧
 ((Qv (Value.string (s0))) ∧
 ((Qv (Pt 1000 0)) ∧
 True)))) ∧
 (((Qv (Value.agg [(Value.string (s0)), (Sl 1003 0 0)].toArray)) ∧
 ((Qv (Pt 1000 1)) ∧
 ((Qv (Value.string (s0))) ∧
 ((Qv (Pt 1000 0)) ∧
 True)))) ∧
 (True ∧
 (((0 = 0) ∧
 (0 = 0)) ∧
 (k [(D.agg [(D.val (Value.string (s0))), (D.sl 0 1 [])])]))))) := by kernel_rfl
end Go.Proofs.G5o

/- Calls whose lists are never nil: the rule holds. -/
namespace Go.Abs
open Go.RowKit
variable {P : Program}
theorem someScalL_out : ∀ (l : List Sc) {H : Heap} {k : List D → List Value → Heap → Prop}, someScalL l H k → ∃ ds vs H', LaidC H ds vs H' ∧ ds.length = l.length ∧ k ds vs H'
  | [], H, k, h => ⟨[], [], H, .nil H, rfl, h⟩
  | .int kd :: r, H, k, h => by
    obtain ⟨n, h⟩ := h
    obtain ⟨ds, vs, H', h1, h2, h3⟩ := someScalL_out r h
    exact ⟨_, _, _, .val _ (fun cs e => by cases e) h1, by simp [h2], h3⟩
  | .bool :: r, H, k, h => by
    obtain ⟨n, h⟩ := h
    obtain ⟨ds, vs, H', h1, h2, h3⟩ := someScalL_out r h
    exact ⟨_, _, _, .val _ (fun cs e => by cases e) h1, by simp [h2], h3⟩
  | .str :: r, H, k, h => by
    obtain ⟨n, h⟩ := h
    obtain ⟨ds, vs, H', h1, h2, h3⟩ := someScalL_out r h
    exact ⟨_, _, _, .val _ (fun cs e => by cases e) h1, by simp [h2], h3⟩
  | .sl es :: r, H, k, h => by
    obtain ⟨n, cs, h⟩ := h
    obtain ⟨ds, vs, H', h1, h2, h3⟩ := someScalL_out r h
    exact ⟨_, _, _, .sl n es cs h1, by simp [h2], h3⟩
theorem someValsL_out : ∀ (ts : List TypeId) {H : Heap} {k : List D → List Value → Heap → Prop}, someValsL P ts H k → ∃ ds vs H', LaidV H ds vs H' ∧ k ds vs H'
  | [], H, k, h => ⟨[], [], H, .nil H, h⟩
  | t :: r, H, k, h => by
    simp only [someValsL, someValL] at h
    split at h
    · cases h
    · rename_i l hl
      split at h
      · obtain ⟨ds, vs, H', h1, _, h3⟩ := someScalL_out l h
        obtain ⟨rs, us, H2, h4, h5⟩ := someValsL_out r h3
        exact ⟨_, _, _, .agg h1 h4, h5⟩
      · obtain ⟨ds, vs, H', h1, _, h3⟩ := someScalL_out l h
        split at h3
        · obtain ⟨rs, us, H2, h4, h5⟩ := someValsL_out r h3
          exact ⟨_, _, _, .one h1 h4, h5⟩
        · cases h3
theorem saidL_ok {C : FuncId → List D → List D → Prop} (hC : ∀ f ds rs, C f ds rs → Con P f ds rs) : HandlerOK P (saidL P C) := by
  intro f args ats H k hk
  unfold saidL at hk
  split at hk
  · rename_i fn _
    intro w0 ρ w args' n g ha
    obtain ⟨ds, hr, hk⟩ := readVals_out g _ ha hk
    obtain ⟨rs, vs, H', hl, hs, hk⟩ := someValsL_out fn.resultTypes.toList hk
    refine callsIn_wide.2 ((hC f ds rs hs.out w args' g.good hr).mono ?_)
    rintro e w' ⟨⟨vs', u, rfl, hg⟩, hb⟩
    obtain ⟨ρ', g', l', e', _, _⟩ := laidV_sound hl (g.grow hb) (g.growB hb) g.below.size (fun i m hm => .inl (g.own i m hm).1) hg
    exact ⟨_, H', ρ', _, hk, rfl, tupleOf_R l', g', e'⟩
  · exact hk.elim
theorem someScalN_out : ∀ (l : List Sc) {H : Heap} {k : List D → List Value → Heap → Prop}, someScalN l H k → ∃ ds vs H', LaidC H ds vs H' ∧ ds.length = l.length ∧ k ds vs H'
  | [], H, k, h => ⟨[], [], H, .nil H, rfl, h⟩
  | .int kd :: r, H, k, h => by
    obtain ⟨n, h⟩ := h
    obtain ⟨ds, vs, H', h1, h2, h3⟩ := someScalN_out r h
    exact ⟨_, _, _, .val _ (fun cs e => by cases e) h1, by simp [h2], h3⟩
  | .bool :: r, H, k, h => by
    obtain ⟨n, h⟩ := h
    obtain ⟨ds, vs, H', h1, h2, h3⟩ := someScalN_out r h
    exact ⟨_, _, _, .val _ (fun cs e => by cases e) h1, by simp [h2], h3⟩
  | .str :: r, H, k, h => by
    obtain ⟨n, h⟩ := h
    obtain ⟨ds, vs, H', h1, h2, h3⟩ := someScalN_out r h
    exact ⟨_, _, _, .val _ (fun cs e => by cases e) h1, by simp [h2], h3⟩
  | .sl es :: r, H, k, h => by
    obtain ⟨ds, vs, H', h1, h2, h3⟩ := someScalN_out r h
    exact ⟨_, _, _, .nilS h1, by simp [h2], h3⟩
theorem someValsN_out : ∀ (ts : List TypeId) {H : Heap} {k : List D → List Value → Heap → Prop}, someValsN P ts H k → ∃ ds vs H', LaidV H ds vs H' ∧ k ds vs H'
  | [], H, k, h => ⟨[], [], H, .nil H, h⟩
  | t :: r, H, k, h => by
    simp only [someValsN, someValN] at h
    split at h
    · cases h
    · rename_i l hl
      split at h
      · obtain ⟨ds, vs, H', h1, _, h3⟩ := someScalN_out l h
        obtain ⟨rs, us, H2, h4, h5⟩ := someValsN_out r h3
        exact ⟨_, _, _, .agg h1 h4, h5⟩
      · obtain ⟨ds, vs, H', h1, _, h3⟩ := someScalN_out l h
        split at h3
        · obtain ⟨rs, us, H2, h4, h5⟩ := someValsN_out r h3
          exact ⟨_, _, _, .one h1 h4, h5⟩
        · cases h3
theorem saidN_ok {C : FuncId → List D → List D → Prop} (hC : ∀ f ds rs, C f ds rs → Con P f ds rs) : HandlerOK P (saidN P C) := by
  intro f args ats H k hk
  unfold saidN at hk
  split at hk
  · rename_i fn _
    intro w0 ρ w args' n g ha
    obtain ⟨ds, hr, hk⟩ := readVals_out g _ ha hk
    obtain ⟨rs, vs, H', hl, hs, hk⟩ := someValsN_out fn.resultTypes.toList hk
    refine callsIn_wide.2 ((hC f ds rs hs.out w args' g.good hr).mono ?_)
    rintro e w' ⟨⟨vs', u, rfl, hg⟩, hb⟩
    obtain ⟨ρ', g', l', e', _, _⟩ := laidV_sound hl (g.grow hb) (g.growB hb) g.below.size (fun i m hm => .inl (g.own i m hm).1) hg
    exact ⟨_, H', ρ', _, hk, rfl, tupleOf_R l', g', e'⟩
  · exact hk.elim
end Go.Abs

/- PassLoads in data. -/
namespace Go.Proofs.G5o
open Go Go.Abs Go.Proofs Go.Str
set_option maxRecDepth 100000
theorem v5_e {l : List Fv} (h : l.length = 0) : vs5 l = [] := by rw [List.eq_nil_of_length_eq_zero h]; rfl
theorem v1_e {l : List Int} (h : l.length = 0) : vi l = [] := by rw [List.eq_nil_of_length_eq_zero h]; rfl
theorem concR (r : Ru) (h8 : r.ss.length ≤ 8) : C5 11 [r.d] [r.d] := by
  refine con_flat hokE mixed Tryz.func11 rfl (by show 1 ≤ 400; omega) rfl (by kernel_rfl) (fun caps => ?_)
  show gcR _ _ r.w r.st r.fi r.hlo r.hhi r.co r.ss.length (caps 500) (vs5 r.ss) r.slo r.shi r.flo r.fhi _
  rw [gcR_text]
  simp only [dL, Tk, v5_whole, bc_t (v5le r.ss), Qv, eq_self, true_and]
  refine bc_beq (fun h => ?_) (fun h => ?_)
  · show [D.agg _] = [D.agg _]
    simp only [v5_e h, h]
  · rw [bc_t (by omega), bc_t (by omega), bc_t (by omega)]
    simp
theorem concRn (r : Ru) (h : r.ss = []) : C5 11 [r.dn] [r.d] := by
  refine con_flat hokE mixed Tryz.func11 rfl (by show 0 ≤ 400; omega) rfl (by kernel_rfl) (fun caps => ?_)
  show gcRn _ _ r.w r.st r.fi r.hlo r.hhi r.co r.slo r.shi r.flo r.fhi _
  rw [gcRn_text]
  simp only [eq_self, true_and]
  simp only [Ru.d, h]
  rfl
theorem concS (nm : List UInt8) (th : List Int) (h8 : th.length ≤ 8) : C5 12 [scD nm th] [scD nm th] := by
  refine con_flat hokE mixed Tryz.func12 rfl (by show 1 ≤ 400; omega) rfl (by kernel_rfl) (fun caps => ?_)
  show gcS _ _ (bs nm) th.length (caps 500) (vi th) _
  rw [gcS_text]
  simp only [dL, Tk, v1_whole, bc_t (v1le th), Qv, eq_self, true_and]
  refine bc_beq (fun h => ?_) (fun h => ?_)
  · show [D.agg _] = [D.agg _]
    simp only [v1_e h, h]
  · rw [bc_t (by omega), bc_t (by omega), bc_t (by omega)]
    simp
theorem concSn (nm : List UInt8) : C5 12 [scN nm] [scD nm []] := by
  refine con_flat hokE mixed Tryz.func12 rfl (by show 0 ≤ 400; omega) rfl (by kernel_rfl) (fun caps => ?_)
  show gcSn _ _ (bs nm) _
  rw [gcSn_text]
  simp only [Qv, eq_self, true_and]
  rfl
theorem conSE (r : Ru) (nm : List UInt8) (th : List Int) (hlen : r.ss.length < 1000000000) (hth : th.length < 1000000000) : C5 46 [r.d, scD nm th] [dI (schE r nm th).2] := by
  refine con_flat hokP mixed Tryz.func46 rfl (by show 2 ≤ 400; omega) rfl (by kernel_rfl) (fun caps => ?_)
  show gSE _ _ r.w r.st r.fi r.hlo r.hhi r.co r.ss.length (caps 500) (vs5 r.ss) r.slo r.shi r.flo r.fhi (bs nm) th.length (caps 501) (vi th) _
  rw [gSE_text, bc_t (v5le r.ss), bc_t (v1le th), v5_whole, v1_whole]
  exact ⟨_, _, ⟨conRS r nm th hlen hth⟩, rfl⟩
theorem conSEn (r : Ru) (nm : List UInt8) (h0 : 0 < r.ss.length) (hlen : r.ss.length < 1000000000) : C5 46 [r.d, scN nm] [dI (schE r nm []).2] := by
  refine con_flat hokP mixed Tryz.func46 rfl (by show 1 ≤ 400; omega) rfl (by kernel_rfl) (fun caps => ?_)
  show gSEn _ _ r.w r.st r.fi r.hlo r.hhi r.co r.ss.length (caps 500) (vs5 r.ss) r.slo r.shi r.flo r.fhi (bs nm) _
  rw [gSEn_text, bc_t (v5le r.ss), v5_whole]
  exact ⟨_, _, ⟨conRSn r nm h0 hlen⟩, rfl⟩
theorem conBE (r : Ru) (nm : List UInt8) (th : List Int) (hlen : r.ss.length < 1000000000) (hth : th.length < 1000000000) : C5 8 [r.d, scD nm th] [dI (if (chk r).2 = 0 then (schE r nm th).2 else (chk r).2)] := by
  refine con_flat hokP mixed Tryz.func8 rfl (by show 2 ≤ 400; omega) rfl (by kernel_rfl) (fun caps => ?_)
  show gBE _ _ r.w r.st r.fi r.hlo r.hhi r.co r.ss.length (caps 500) (vs5 r.ss) r.slo r.shi r.flo r.fhi (bs nm) th.length (caps 501) (vi th) _
  rw [gBE_text]
  simp only [bc_t (v5le r.ss), bc_t (v1le th), v5_whole, v1_whole]
  refine ⟨_, ⟨conRE r hlen⟩, bc_bne (fun h => ?_) (fun h => ?_)⟩
  · rw [if_neg h]
  · exact ⟨_, ⟨conSE r nm th hlen hth⟩, by rw [if_pos h]⟩
theorem conBEn (r : Ru) (nm : List UInt8) (hlen : r.ss.length < 1000000000) : C5 8 [r.d, scN nm] [dI (if (chk r).2 = 0 then (schE r nm []).2 else (chk r).2)] := by
  refine con_flat hokP mixed Tryz.func8 rfl (by show 1 ≤ 400; omega) rfl (by kernel_rfl) (fun caps => ?_)
  show gBEn _ _ r.w r.st r.fi r.hlo r.hhi r.co r.ss.length (caps 500) (vs5 r.ss) r.slo r.shi r.flo r.fhi (bs nm) _
  rw [gBEn_text]
  simp only [bc_t (v5le r.ss), v5_whole]
  refine ⟨_, ⟨conRE r hlen⟩, bc_bne (fun h => ?_) (fun h => ?_)⟩
  · rw [if_neg h]
  · exact ⟨_, ⟨conSEn r nm (chk_pos h) hlen⟩, by rw [if_pos h]⟩
theorem chk_nil {r : Ru} (h : r.ss = []) : (chk r).2 ≠ 0 := fun hc => by
  have := chk_pos hc
  rw [h] at this; simp at this
theorem conBEm (r : Ru) (hr : r.ss = []) (nm : List UInt8) (th : List Int) : C5 8 [r.dn, scD nm th] [dI (chk r).2] := by
  refine con_flat hokP mixed Tryz.func8 rfl (by show 1 ≤ 400; omega) rfl (by kernel_rfl) (fun caps => ?_)
  show gBEm _ _ r.w r.st r.fi r.hlo r.hhi r.co r.slo r.shi r.flo r.fhi (bs nm) th.length (caps 500) (vi th) _
  rw [gBEm_text]
  exact ⟨_, ⟨conREn r hr⟩, bc_bne (fun h => rfl) (fun h => absurd h (chk_nil hr))⟩
theorem conBEk (r : Ru) (hr : r.ss = []) (nm : List UInt8) : C5 8 [r.dn, scN nm] [dI (chk r).2] := by
  refine con_flat hokP mixed Tryz.func8 rfl (by show 0 ≤ 400; omega) rfl (by kernel_rfl) (fun caps => ?_)
  show gBEk _ _ r.w r.st r.fi r.hlo r.hhi r.co r.slo r.shi r.flo r.fhi (bs nm) _
  rw [gBEk_text]
  exact ⟨_, ⟨conREn r hr⟩, bc_bne (fun h => rfl) (fun h => absurd h (chk_nil hr))⟩
theorem preBOK : PreOK Tryz.prog (preB C5) := by
  intro g h he args ats H k hk
  unfold preB at he
  rcases ite_so he with ⟨_, rfl⟩ | he
  · exact saidN_ok (fun _ _ _ h => h) _ _ _ _ _ hk
  rcases ite_so he with ⟨_, rfl⟩ | he
  · exact hk.elim
  rcases ite_so he with ⟨_, rfl⟩ | he
  · exact fixH_ok (fun _ _ _ h => h) _ _ _ _ _ hk
  rcases ite_so he with ⟨_, rfl⟩ | he
  · exact fixH_ok (fun _ _ _ h => h) _ _ _ _ _ hk
  rcases ite_so he with ⟨_, rfl⟩ | he
  · exact saidH_ok (fun _ _ _ h => h) _ _ _ _ _ hk
  · cases he
theorem hokB2 : HandlerOK Tryz.prog (hB2 C5) := handlerX_ok mixed preBOK (by decide) 6
theorem preCOK : PreOK Tryz.prog (preC C5) := by
  intro g h he args ats H k hk
  unfold preC at he
  rcases ite_so he with ⟨_, rfl⟩ | he
  · exact saidL_ok (fun _ _ _ h => h) _ _ _ _ _ hk
  rcases ite_so he with ⟨_, rfl⟩ | he
  · exact fixH_ok (fun _ _ _ h => h) _ _ _ _ _ hk
  rcases ite_so he with ⟨_, rfl⟩ | he
  · exact fixH_ok (fun _ _ _ h => h) _ _ _ _ _ hk
  rcases ite_so he with ⟨_, rfl⟩ | he
  · exact saidH_ok (fun _ _ _ h => h) _ _ _ _ _ hk
  · cases he
theorem hokC2 : HandlerOK Tryz.prog (hC2 C5) := handlerX_ok mixed preCOK (by decide) 6
theorem preDOK : PreOK Tryz.prog (preD C5) := by
  intro g h he args ats H k hk
  unfold preD at he
  rcases ite_so he with ⟨_, rfl⟩ | he
  · exact saidL_ok (fun _ _ _ h => h) _ _ _ _ _ hk
  rcases ite_so he with ⟨_, rfl⟩ | he
  · exact saidN_ok (fun _ _ _ h => h) _ _ _ _ _ hk
  rcases ite_so he with ⟨_, rfl⟩ | he
  · exact fixH_ok (fun _ _ _ h => h) _ _ _ _ _ hk
  rcases ite_so he with ⟨_, rfl⟩ | he
  · exact fixH_ok (fun _ _ _ h => h) _ _ _ _ _ hk
  rcases ite_so he with ⟨_, rfl⟩ | he
  · exact saidH_ok (fun _ _ _ h => h) _ _ _ _ _ hk
  · cases he
theorem hokD2 : HandlerOK Tryz.prog (hD2 C5) := handlerX_ok mixed preDOK (by decide) 6
theorem bothP (r : Ru) (nm : List UInt8) (th : List Int) : (if (chk r).2 = 0 then (schE r nm th).2 else (chk r).2) = (schP r nm th).2 := by
  unfold schP
  split <;> rfl
theorem conRg (l : List (Int × Int)) (hlen : l.length < 1000000000) : C5 24 [.sl l.length 2 (vp l), .sl l.length 2 (vp l)] [dB true] := by
  let inv : Nat × Nat × Nat → Prop := fun x => x.1 ≤ l.length
  let st : Nat × Nat × Nat → Slots × Blocks := fun x => zRg1 l.length x.2.1 l.length x.2.2 x.1 (vp l) (vp l)
  refine con_of (L := fun _ s b => ∃ x, inv x ∧ st x = (s, b)) hokP mixed Tryz.func24 rfl (by show 2 ≤ 400; omega) rfl (ids := [0]) (by kernel_rfl) rfl (fun caps => ?_) (fun id hid => ?_)
  · show gRg _ _ l.length (caps 500) (vp l) l.length (caps 501) (vp l) _
    rw [gRg_text]
    exact bc_bne (fun h => absurd rfl h) (fun _ => ⟨(0, caps 500, caps 501), Nat.zero_le _, rfl⟩)
  · obtain rfl := List.mem_singleton.1 hid
    refine ⟨Nat × Nat × Nat, st, inv, fun x => l.length - x.1, ⟨fun s b h => h, by kernel_rfl, ?_⟩⟩
    rintro ⟨i, c1, c2⟩ hi
    have hi : i ≤ l.length := hi
    show rRg1 _ _ l.length c1 l.length c2 i (vp l) (vp l) _ _ _
    rw [rRg1_text]
    refine bc_dec (fun h => ?_) (fun h => ?_)
    · have hi2 : i < l.length := by omega
      simp only [bc_t (show (0 : Int) ≤ (i : Int) by omega), bc_t h, Int.toNat_natCast, at2 (vp_two l i hi2), Qv, eq_self, true_and, and_true, beq_self_eq_true, Bool.and_self, Bool.not_true, if_true, bcF]
      refine ⟨(i + 1, c1, c2), hi2, by show l.length - (i + 1) < l.length - i; omega, ?_⟩
      show zRg1 _ _ _ _ _ _ _ = _
      rw [w64 (by omega) (by omega)]; rfl
    · show (if 0 = 0 then _ else _)
      rw [if_pos rfl]
      show nRg2 _ _ _
      rw [nRg2_text]
theorem conIt (l : List Int) (hlen : l.length < 1000000000) : C5 81 [.sl l.length 1 (vi l), .sl l.length 1 (vi l)] [dB true] := by
  let inv : Nat × Nat × Nat → Prop := fun x => x.1 ≤ l.length
  let st : Nat × Nat × Nat → Slots × Blocks := fun x => zIt1 l.length x.2.1 l.length x.2.2 x.1 (vi l) (vi l)
  refine con_of (L := fun _ s b => ∃ x, inv x ∧ st x = (s, b)) hokP mixed Tryz.func81 rfl (by show 2 ≤ 400; omega) rfl (ids := [0]) (by kernel_rfl) rfl (fun caps => ?_) (fun id hid => ?_)
  · show gIt _ _ l.length (caps 500) (vi l) l.length (caps 501) (vi l) _
    rw [gIt_text]
    exact bc_bne (fun h => absurd rfl h) (fun _ => ⟨(0, caps 500, caps 501), Nat.zero_le _, rfl⟩)
  · obtain rfl := List.mem_singleton.1 hid
    refine ⟨Nat × Nat × Nat, st, inv, fun x => l.length - x.1, ⟨fun s b h => h, by kernel_rfl, ?_⟩⟩
    rintro ⟨i, c1, c2⟩ hi
    have hi : i ≤ l.length := hi
    show rIt1 _ _ l.length c1 l.length c2 i (vi l) (vi l) _ _ _
    rw [rIt1_text]
    refine bc_dec (fun h => ?_) (fun h => ?_)
    · have hi2 : i < l.length := by omega
      simp only [bc_t (show (0 : Int) ≤ (i : Int) by omega), bc_t h, Int.toNat_natCast, at1 (vi_at l i hi2), Qv, eq_self, true_and, and_true, bne_self_eq_false, bcF]
      refine ⟨(i + 1, c1, c2), hi2, by show l.length - (i + 1) < l.length - i; omega, ?_⟩
      show zIt1 _ _ _ _ _ _ _ = _
      rw [w64 (by omega) (by omega)]; rfl
    · show (if 0 = 0 then _ else _)
      rw [if_pos rfl]
      show nIt2 _ _ _
      rw [nIt2_text]
theorem tw2 (l : List (Int × Int)) {n : Nat} (h : l.length = n) : List.take (n * 2) (List.drop 0 (vp l)) = vp l := by subst h; exact vp_whole l
theorem schP_nil {r : Ru} (hr : r.ss = []) (nm : List UInt8) (th : List Int) : (schP r nm th).2 = (chk r).2 := by rw [schP_bad (chk_nil hr)]
end Go.Proofs.G5o

/- What a good world's variables hold, as the library's contracts ask it. -/
namespace Go.Abs
variable {P : Program} {w : World}
end Go.Abs

/- Chapter 3: what the frames of the laws share. -/
namespace Go.Proofs.YteadiejdhplokaaGreat.K
open Go Go.Abs Go.RowKit Go.ChangeShapes Go.WideShapes Go.ChangeAt Go.Proofs Go.Flat
set_option maxRecDepth 100000
theorem own : ownKnob Tryz.prog.godebug = none := by kernel_rfl
theorem laidP : laidOutB Tryz.prog = true := by kernel_rfl
theorem mapsP : mapsRowed Tryz.prog = true := by kernel_rfl
theorem slicesP : ∀ t e, t < Tryz.prog.types.size → Tryz.prog.underlying t = some (.slice e) → 0 < Tryz.prog.cellsOf e := slices_full_of Tryz.prog (by kernel_rfl)
theorem tsP {l : List TypeId} (h : l.all (fun t => decide (t < Tryz.prog.types.size)) = true) : ∀ t ∈ l, t < Tryz.prog.types.size := fun t ht => of_decide_eq_true (List.all_eq_true.1 h t ht)
theorem flat_vi : ∀ l : List Int, (l.flatMap fun a => [Value.int .i64 a]) = vi l
  | [] => rfl
  | a :: r => by rw [List.flatMap_cons, flat_vi r]; rfl
/-- lists of whole numbers -/
theorem leaf_ints {t e : TypeId} {d : D} (ht : Tryz.prog.underlying t = some (.slice e)) (he : leaves Tryz.prog 10 e = some [.int .i64]) (h : LeafD Tryz.prog t d) : d = .nil ∨ ∃ l : List Int, d = .sl l.length 1 (vi l) := by
  unfold LeafD at h
  rw [ht] at h
  simp only at h
  rcases h with h | ⟨n, cs, L, rfl, hL, hn, hl, hc⟩
  · exact .inl h
  · rw [he] at hL
    obtain rfl := Option.some.inj hL
    simp only [List.length_cons, List.length_nil, Nat.zero_add] at hl hc ⊢
    obtain ⟨ps, hp, rfl⟩ := chunks_of (f := fun a : Int => [Value.int .i64 a]) (k := 1) (fun _ => rfl) n cs hl (fun i hi => by
      have := hc i hi
      generalize (cs.drop (i * 1)).take 1 = x at this ⊢
      cases this with
      | cons h t => cases t; obtain ⟨a, rfl, _⟩ := h; exact ⟨a, rfl⟩)
    refine .inr ⟨ps, ?_⟩
    rw [hp]
    rw [flat_vi]
theorem leaf_int {t : TypeId} {d : D} (ht : Tryz.prog.underlying t = some (.int .i64)) (h : LeafD Tryz.prog t d) : ∃ n : Int, d = dI n ∧ (-9223372036854775808 ≤ n ∧ n ≤ 9223372036854775807) := by
  unfold LeafD at h
  rw [ht] at h
  obtain ⟨n, rfl, hw⟩ := h
  exact ⟨n, rfl, wf64 hw⟩
end Go.Proofs.YteadiejdhplokaaGreat.K
namespace Go.Proofs.YteadiejdhplokaaGreat.K
open Go Go.Abs Go.RowKit Go.ChangeShapes Go.WideShapes Go.ChangeAt Go.Proofs Go.Flat
set_option maxRecDepth 100000
/-- lists of five whole numbers -/
theorem leaf_fvs {t e : TypeId} {d : D} (ht : Tryz.prog.underlying t = some (.slice e)) (he : leaves Tryz.prog 10 e = some [.int .i64, .int .i64, .int .i64, .int .i64, .int .i64]) (h : LeafD Tryz.prog t d) : d = .nil ∨ ∃ l : List Fv, d = .sl l.length 5 (vs5 l) := by
  unfold LeafD at h
  rw [ht] at h
  simp only at h
  rcases h with h | ⟨n, cs, L, rfl, hL, hn, hl, hc⟩
  · exact .inl h
  · rw [he] at hL
    obtain rfl := Option.some.inj hL
    simp only [List.length_cons, List.length_nil, Nat.zero_add] at hl hc ⊢
    obtain ⟨ps, hp, rfl⟩ := chunks_of (f := Fv.row) (k := 5) (fun _ => rfl) n cs hl (fun i hi => by
      have := hc i hi
      generalize (cs.drop (i * 5)).take 5 = x at this ⊢
      cases this with | cons h1 t => cases t with | cons h2 t => cases t with | cons h3 t => cases t with | cons h4 t => cases t with | cons h5 t =>
      cases t
      obtain ⟨a, rfl, _⟩ := h1
      obtain ⟨b, rfl, _⟩ := h2
      obtain ⟨c, rfl, _⟩ := h3
      obtain ⟨d, rfl, _⟩ := h4
      obtain ⟨e, rfl, _⟩ := h5
      exact ⟨⟨a, b, c, d, e⟩, rfl⟩)
    exact .inr ⟨ps, by rw [hp]; rfl⟩
open Go.Str in
theorem leaf_str {t : TypeId} {d : D} (ht : Tryz.prog.underlying t = some .string) (h : LeafD Tryz.prog t d) : ∃ s : List UInt8, d = G5o.dS s := by
  unfold LeafD at h
  rw [ht] at h
  obtain ⟨s, rfl, _⟩ := h
  exact ⟨s.data.toList, by show _ = D.val _; rw [Go.Str.bs_data]⟩
theorem good0 (W : World) : GoodW Tryz.prog W := fun p hp => by
  rw [show varsOf Tryz.prog = [] by kernel_rfl] at hp
  cases hp
end Go.Proofs.YteadiejdhplokaaGreat.K

/- What is left to show of each function, written out; the kernel reckons it. -/
namespace Go.Proofs.G5o
open Go Go.Abs Go.Proofs
set_option maxRecDepth 100000
set_option linter.unusedVariables false
def gAn (C : Ct) (L : AtLoop) (x0 : Int) (x1 : Int) (x2 : Int) (x3 : Int) (x4 : Int) (x5 : Int) (n6 : Nat) (c6 : Nat) (l6 : List Value) (x7 : Int) (x8 : Int) (x9 : Int) (x10 : Int) (s11 : ByteArray) (n12 : Nat) (c12 : Nat) (l12 : List Value) (k : List D → Prop) : Prop := jFn Tryz.prog (hP C) L [] 33 #[.agg #[.int .i64 x0, .int .i64 x1, .int .i64 x2, .int .i64 x3, .int .i64 x4, .int .i64 x5, .slice (some ⟨500, 0, none⟩) n6 c6, .int .i64 x7, .int .i64 x8, .int .i64 x9, .int .i64 x10], .agg #[.string s11, .slice (some ⟨501, 0, none⟩) n12 c12]] (heapOf [(500, .sym l6 false 5), (501, .sym l12 false 1)]) (dataK k)
theorem gAn_text (C : Ct) (L : AtLoop) (x0 : Int) (x1 : Int) (x2 : Int) (x3 : Int) (x4 : Int) (x5 : Int) (n6 : Nat) (c6 : Nat) (l6 : List Go.Value) (x7 : Int) (x8 : Int) (x9 : Int) (x10 : Int) (s11 : ByteArray) (n12 : Nat) (c12 : Nat) (l12 : List Go.Value) (k : List D → Prop) : gAn C L x0 x1 x2 x3 x4 x5 n6 c6 l6 x7 x8 x9 x10 s11 n12 c12 l12 k =
 (L 0 [(Prod.mk 2 (Pt 1000 0)), (Prod.mk 3 (Pt 1001 0)), (Prod.mk 5 (vI 2)), (Prod.mk 6 (vI 0))] [(Prod.mk 1000 (AObj.cells [(vI x0), (vI x1), (vI x2), (vI x3), (vI x4), (vI x5), (Sl 500 (n6) (c6)), (vI x7), (vI x8), (vI x9), (vI x10)] 26 false 1)), (Prod.mk 1001 (AObj.cells [(Value.string (s11)), (Sl 501 (n12) (c12))] 29 false 1)), (Prod.mk 500 (AObj.sym (l6) false 5)), (Prod.mk 501 (AObj.sym (l12) false 1))]) := by kernel_rfl
abbrev zAn1 (x0 : Int) (x1 : Int) (x2 : Int) (x3 : Int) (x4 : Int) (x5 : Int) (x6 : Int) (x7 : Int) (n8 : Nat) (c9 : Nat) (x10 : Int) (x11 : Int) (x12 : Int) (x13 : Int) (s14 : ByteArray) (n15 : Nat) (c16 : Nat) (l17 : List Value) (l18 : List Value) : Slots × Blocks := ([(2, (Value.pointer (some ⟨1000, 0, none⟩))), (3, (Value.pointer (some ⟨1001, 0, none⟩))), (5, (Value.int .i64 x0)), (6, (Value.int .i64 x1))], [(1000, (AObj.cells [(Value.int .i64 x2), (Value.int .i64 x3), (Value.int .i64 x4), (Value.int .i64 x5), (Value.int .i64 x6), (Value.int .i64 x7), (Value.slice (some ⟨500, 0, none⟩) n8 c9), (Value.int .i64 x10), (Value.int .i64 x11), (Value.int .i64 x12), (Value.int .i64 x13)] 26 false 1)), (1001, (AObj.cells [(Value.string s14), (Value.slice (some ⟨501, 0, none⟩) n15 c16)] 29 false 1)), (500, (AObj.sym l17 false 5)), (501, (AObj.sym l18 false 1))])
def rAn1 (C : Ct) (L : AtLoop) (x0 : Int) (x1 : Int) (x2 : Int) (x3 : Int) (x4 : Int) (x5 : Int) (x6 : Int) (x7 : Int) (n8 : Nat) (c9 : Nat) (x10 : Int) (x11 : Int) (x12 : Int) (x13 : Int) (s14 : ByteArray) (n15 : Nat) (c16 : Nat) (l17 : List Value) (l18 : List Value) (B : Bx) (X : Xx) (k : List D → Prop) : Prop := jRound Tryz.prog (hP C) L [] 33 0 [(2, (Value.pointer (some ⟨1000, 0, none⟩))), (3, (Value.pointer (some ⟨1001, 0, none⟩))), (5, (Value.int .i64 x0)), (6, (Value.int .i64 x1))] [(1000, (AObj.cells [(Value.int .i64 x2), (Value.int .i64 x3), (Value.int .i64 x4), (Value.int .i64 x5), (Value.int .i64 x6), (Value.int .i64 x7), (Value.slice (some ⟨500, 0, none⟩) n8 c9), (Value.int .i64 x10), (Value.int .i64 x11), (Value.int .i64 x12), (Value.int .i64 x13)] 26 false 1)), (1001, (AObj.cells [(Value.string s14), (Value.slice (some ⟨501, 0, none⟩) n15 c16)] 29 false 1)), (500, (AObj.sym l17 false 5)), (501, (AObj.sym l18 false 1))] B X (dataK k)
theorem rAn1_text (C : Ct) (L : AtLoop) (x0 : Int) (x1 : Int) (x2 : Int) (x3 : Int) (x4 : Int) (x5 : Int) (x6 : Int) (x7 : Int) (n8 : Nat) (c9 : Nat) (x10 : Int) (x11 : Int) (x12 : Int) (x13 : Int) (s14 : ByteArray) (n15 : Nat) (c16 : Nat) (l17 : List Go.Value) (l18 : List Go.Value) (B : Bx) (X : Xx) (k : List D → Prop) : rAn1 C L x0 x1 x2 x3 x4 x5 x6 x7 n8 c9 x10 x11 x12 x13 s14 n15 c16 l17 l18 B X k =
 (bcase (decide (x1 < (↑n8 : Int)))
 (L 2 [(Prod.mk 2 (Pt 1000 0)), (Prod.mk 3 (Pt 1001 0)), (Prod.mk 5 (vI x0)), (Prod.mk 6 (vI x1)), (Prod.mk 7 (vI 0))] [(Prod.mk 1000 (AObj.cells [(vI x2), (vI x3), (vI x4), (vI x5), (vI x6), (vI x7), (Sl 500 (n8) (c9)), (vI x10), (vI x11), (vI x12), (vI x13)] 26 false 1)), (Prod.mk 1001 (AObj.cells [(Value.string (s14)), (Sl 501 (n15) (c16))] 29 false 1)), (Prod.mk 500 (AObj.sym (l17) false 5)), (Prod.mk 501 (AObj.sym (l18) false 1))])
 (X 0 [(Prod.mk 5 (vI x0))] [])) := by kernel_rfl
abbrev zAn2 (x0 : Int) (x1 : Int) (x2 : Int) (x3 : Int) (x4 : Int) (x5 : Int) (x6 : Int) (x7 : Int) (x8 : Int) (n9 : Nat) (c10 : Nat) (x11 : Int) (x12 : Int) (x13 : Int) (x14 : Int) (s15 : ByteArray) (n16 : Nat) (c17 : Nat) (l18 : List Value) (l19 : List Value) : Slots × Blocks := ([(2, (Value.pointer (some ⟨1000, 0, none⟩))), (3, (Value.pointer (some ⟨1001, 0, none⟩))), (5, (Value.int .i64 x0)), (6, (Value.int .i64 x1)), (7, (Value.int .i64 x2))], [(1000, (AObj.cells [(Value.int .i64 x3), (Value.int .i64 x4), (Value.int .i64 x5), (Value.int .i64 x6), (Value.int .i64 x7), (Value.int .i64 x8), (Value.slice (some ⟨500, 0, none⟩) n9 c10), (Value.int .i64 x11), (Value.int .i64 x12), (Value.int .i64 x13), (Value.int .i64 x14)] 26 false 1)), (1001, (AObj.cells [(Value.string s15), (Value.slice (some ⟨501, 0, none⟩) n16 c17)] 29 false 1)), (500, (AObj.sym l18 false 5)), (501, (AObj.sym l19 false 1))])
def rAn2 (C : Ct) (L : AtLoop) (x0 : Int) (x1 : Int) (x2 : Int) (x3 : Int) (x4 : Int) (x5 : Int) (x6 : Int) (x7 : Int) (x8 : Int) (n9 : Nat) (c10 : Nat) (x11 : Int) (x12 : Int) (x13 : Int) (x14 : Int) (s15 : ByteArray) (n16 : Nat) (c17 : Nat) (l18 : List Value) (l19 : List Value) (B : Bx) (X : Xx) (k : List D → Prop) : Prop := jRound2 Tryz.prog (hP C) L [] 33 0 2 [(2, (Value.pointer (some ⟨1000, 0, none⟩))), (3, (Value.pointer (some ⟨1001, 0, none⟩))), (5, (Value.int .i64 x0)), (6, (Value.int .i64 x1)), (7, (Value.int .i64 x2))] [(1000, (AObj.cells [(Value.int .i64 x3), (Value.int .i64 x4), (Value.int .i64 x5), (Value.int .i64 x6), (Value.int .i64 x7), (Value.int .i64 x8), (Value.slice (some ⟨500, 0, none⟩) n9 c10), (Value.int .i64 x11), (Value.int .i64 x12), (Value.int .i64 x13), (Value.int .i64 x14)] 26 false 1)), (1001, (AObj.cells [(Value.string s15), (Value.slice (some ⟨501, 0, none⟩) n16 c17)] 29 false 1)), (500, (AObj.sym l18 false 5)), (501, (AObj.sym l19 false 1))] B X (dataK k)
theorem rAn2_text (C : Ct) (L : AtLoop) (x0 : Int) (x1 : Int) (x2 : Int) (x3 : Int) (x4 : Int) (x5 : Int) (x6 : Int) (x7 : Int) (x8 : Int) (n9 : Nat) (c10 : Nat) (x11 : Int) (x12 : Int) (x13 : Int) (x14 : Int) (s15 : ByteArray) (n16 : Nat) (c17 : Nat) (l18 : List Go.Value) (l19 : List Go.Value) (B : Bx) (X : Xx) (k : List D → Prop) : rAn2 C L x0 x1 x2 x3 x4 x5 x6 x7 x8 n9 c10 x11 x12 x13 x14 s15 n16 c17 l18 l19 B X k =
 (bcase (decide (x2 < 4))
 (bcase (decide (0 ≤ x1))
 (bcase (decide (x1 < (↑n16 : Int)))
 (∃ n1 : Int,
 ((At (l19) (0 + Int.toNat x1 * 1) 1 [(vI n1)]) ∧
 ((((Qv (Pt 1002 0)) ∧
 (Qv (some (AObj.cells [(vI 0), (vI 0)] 23 false 2)))) ∧
 ((Qv (vI x2)) ∧
 ((∃ n2 : Int,
 ((At (l19) (0 + Int.toNat x1 * 1) 1 [(vI n2)]) ∧
 ((vI n2) = (vI n1)))) ∧
 ((bcase (decide (0 ≤ x1))
 (bcase (decide (x1 < (↑n16 : Int)))
 (Qv (Pt 501 (0 + Int.toNat x1 * 1)))
 False)
 False) ∧
 ((Qv (vI x1)) ∧
 ((Qv (Sl 501 (n16) (c17))) ∧
 ((Qv (Pt 1001 1)) ∧
 ((Qv (vI x1)) ∧
 ((Qv (Value.agg [(Value.string (s15)), (Sl 501 (n16) (c17))].toArray)) ∧
 ((Qv (Value.agg [(vI x3), (vI x4), (vI x5), (vI x6), (vI x7), (vI x8), (Sl 500 (n9) (c10)), (vI x11), (vI x12), (vI x13), (vI x14)].toArray)) ∧
 ((Qv (vI x1)) ∧
 ((Qv (Value.agg [(vI x3), (vI x4), (vI x5), (vI x6), (vI x7), (vI x8), (Sl 500 (n9) (c10)), (vI x11), (vI x12), (vI x13), (vI x14)].toArray)) ∧
 True)))))))))))) ∧
 (bcase (decide (0 + n9 * 5 ≤ List.length l18))
 (bcase (decide (0 + n16 * 1 ≤ List.length l19))
 (∃ n2 : Int,
 ((Says C 70 [(D.agg [(D.val (vI x3)), (D.val (vI x4)), (D.val (vI x5)), (D.val (vI x6)), (D.val (vI x7)), (D.val (vI x8)), (D.sl (n9) 5 (List.take (n9 * 5) (List.drop 0 l18))), (D.val (vI x11)), (D.val (vI x12)), (D.val (vI x13)), (D.val (vI x14))]), (D.agg [(D.val (Value.string (s15))), (D.sl (n16) 1 (List.take (n16 * 1) (List.drop 0 l19)))]), (D.val (vI x1))] [(D.val (vI n2))]) ∧
 ((((Qv (Pt 1002 0)) ∧
 (Qv (some (AObj.cells [(vI 0), (vI 0)] 23 false 2)))) ∧
 ((Qv (vI x2)) ∧
 ((∃ n3 : Int,
 ((At (l19) (0 + Int.toNat x1 * 1) 1 [(vI n3)]) ∧
 ((vI n3) = (vI n1)))) ∧
 ((bcase (decide (0 ≤ x1))
 (bcase (decide (x1 < (↑n16 : Int)))
 (Qv (Pt 501 (0 + Int.toNat x1 * 1)))
 False)
 False) ∧
 ((Qv (vI x1)) ∧
 ((Qv (Sl 501 (n16) (c17))) ∧
 ((Qv (Pt 1001 1)) ∧
 ((Qv (vI x1)) ∧
 ((Qv (Value.agg [(vI x3), (vI x4), (vI x5), (vI x6), (vI x7), (vI x8), (Sl 500 (n9) (c10)), (vI x11), (vI x12), (vI x13), (vI x14)].toArray)) ∧
 True))))))))) ∧
 (bcase (decide (0 + n9 * 5 ≤ List.length l18))
 (∃ n3 : Int,
 (∃ n4 : Int,
 ((Says C 82 [(D.agg [(D.val (vI x3)), (D.val (vI x4)), (D.val (vI x5)), (D.val (vI x6)), (D.val (vI x7)), (D.val (vI x8)), (D.sl (n9) 5 (List.take (n9 * 5) (List.drop 0 l18))), (D.val (vI x11)), (D.val (vI x12)), (D.val (vI x13)), (D.val (vI x14))]), (D.val (vI x1)), (D.val (vI n2)), (D.val (vI n1)), (D.val (vI x2))] [(D.agg [(D.val (vI n3)), (D.val (vI n4))])]) ∧
 ((((Qv (Pt 1002 0)) ∧
 (Qv (some (AObj.cells [(vI 0), (vI 0)] 23 false 2)))) ∧
 ((bcase (decide (0 ≤ x1))
 (bcase (decide (x1 < (↑n16 : Int)))
 (Qv (Pt 501 (0 + Int.toNat x1 * 1)))
 False)
 False) ∧
 ((Qv (vI x1)) ∧
 ((Qv (Sl 501 (n16) (c17))) ∧
 ((Qv (Pt 1001 1)) ∧
 True))))) ∧
 (True ∧
 (bcase (decide (n4 < 0))
 (k [(D.val (vI 0))])
 (bcase (decide (n3 < 0))
 (B [(Prod.mk 2 (Pt 1000 0)), (Prod.mk 3 (Pt 1001 0)), (Prod.mk 5 (vI 1)), (Prod.mk 6 (vI x1)), (Prod.mk 7 (vI (IntKind.wrap .i64 (x2 + 1))))] [(Prod.mk 1000 (AObj.cells [(vI x3), (vI x4), (vI x5), (vI x6), (vI x7), (vI x8), (Sl 500 (n9) (c10)), (vI x11), (vI x12), (vI x13), (vI x14)] 26 false 1)), (Prod.mk 1001 (AObj.cells [(Value.string (s15)), (Sl 501 (n16) (c17))] 29 false 1)), (Prod.mk 500 (AObj.sym (l18) false 5)), (Prod.mk 501 (AObj.sym (l19) false 1))])
 (B [(Prod.mk 2 (Pt 1000 0)), (Prod.mk 3 (Pt 1001 0)), (Prod.mk 5 (vI x0)), (Prod.mk 6 (vI x1)), (Prod.mk 7 (vI (IntKind.wrap .i64 (x2 + 1))))] [(Prod.mk 1000 (AObj.cells [(vI x3), (vI x4), (vI x5), (vI x6), (vI x7), (vI x8), (Sl 500 (n9) (c10)), (vI x11), (vI x12), (vI x13), (vI x14)] 26 false 1)), (Prod.mk 1001 (AObj.cells [(Value.string (s15)), (Sl 501 (n16) (c17))] 29 false 1)), (Prod.mk 500 (AObj.sym (l18) false 5)), (Prod.mk 501 (AObj.sym (l19) false 1))]))))))))
 False))))
 False)
 False))))
 False)
 False)
 (X 2 [(Prod.mk 2 (Pt 1000 0)), (Prod.mk 3 (Pt 1001 0)), (Prod.mk 5 (vI x0)), (Prod.mk 6 (vI x1))] [(Prod.mk 1000 (AObj.cells [(vI x3), (vI x4), (vI x5), (vI x6), (vI x7), (vI x8), (Sl 500 (n9) (c10)), (vI x11), (vI x12), (vI x13), (vI x14)] 26 false 1)), (Prod.mk 1001 (AObj.cells [(Value.string (s15)), (Sl 501 (n16) (c17))] 29 false 1)), (Prod.mk 500 (AObj.sym (l18) false 5)), (Prod.mk 501 (AObj.sym (l19) false 1))])) := by kernel_rfl
def nAn3 (C : Ct) (L : AtLoop) (x0 : Int) (k : List D → Prop) : Prop := jNext Tryz.prog (hP C) L [] 33 0 .normal [(5, (Value.int .i64 x0))] [] (dataK k)
theorem nAn3_text (C : Ct) (L : AtLoop) (x0 : Int) (k : List D → Prop) : nAn3 C L x0 k =
 (k [(D.val (vI x0))]) := by kernel_rfl
def iAn4 (C : Ct) (L : AtLoop) (x0 : Int) (x1 : Int) (x2 : Int) (x3 : Int) (x4 : Int) (x5 : Int) (x6 : Int) (x7 : Int) (n8 : Nat) (c9 : Nat) (x10 : Int) (x11 : Int) (x12 : Int) (x13 : Int) (s14 : ByteArray) (n15 : Nat) (c16 : Nat) (l17 : List Value) (l18 : List Value) (B : Bx) (X : Xx) (k : List D → Prop) : Prop := jIn Tryz.prog (hP C) L [] 33 0 2 .normal [(2, (Value.pointer (some ⟨1000, 0, none⟩))), (3, (Value.pointer (some ⟨1001, 0, none⟩))), (5, (Value.int .i64 x0)), (6, (Value.int .i64 x1))] [(1000, (AObj.cells [(Value.int .i64 x2), (Value.int .i64 x3), (Value.int .i64 x4), (Value.int .i64 x5), (Value.int .i64 x6), (Value.int .i64 x7), (Value.slice (some ⟨500, 0, none⟩) n8 c9), (Value.int .i64 x10), (Value.int .i64 x11), (Value.int .i64 x12), (Value.int .i64 x13)] 26 false 1)), (1001, (AObj.cells [(Value.string s14), (Value.slice (some ⟨501, 0, none⟩) n15 c16)] 29 false 1)), (500, (AObj.sym l17 false 5)), (501, (AObj.sym l18 false 1))] B X (dataK k)
theorem iAn4_text (C : Ct) (L : AtLoop) (x0 : Int) (x1 : Int) (x2 : Int) (x3 : Int) (x4 : Int) (x5 : Int) (x6 : Int) (x7 : Int) (n8 : Nat) (c9 : Nat) (x10 : Int) (x11 : Int) (x12 : Int) (x13 : Int) (s14 : ByteArray) (n15 : Nat) (c16 : Nat) (l17 : List Go.Value) (l18 : List Go.Value) (B : Bx) (X : Xx) (k : List D → Prop) : iAn4 C L x0 x1 x2 x3 x4 x5 x6 x7 n8 c9 x10 x11 x12 x13 s14 n15 c16 l17 l18 B X k =
 (B [(Prod.mk 2 (Pt 1000 0)), (Prod.mk 3 (Pt 1001 0)), (Prod.mk 5 (vI x0)), (Prod.mk 6 (vI (IntKind.wrap .i64 (x1 + 1))))] [(Prod.mk 1000 (AObj.cells [(vI x2), (vI x3), (vI x4), (vI x5), (vI x6), (vI x7), (Sl 500 (n8) (c9)), (vI x10), (vI x11), (vI x12), (vI x13)] 26 false 1)), (Prod.mk 1001 (AObj.cells [(Value.string (s14)), (Sl 501 (n15) (c16))] 29 false 1)), (Prod.mk 500 (AObj.sym (l17) false 5)), (Prod.mk 501 (AObj.sym (l18) false 1))]) := by kernel_rfl
def gWe (C : Ct) (L : AtLoop) (x0 : Int) (x1 : Int) (x2 : Int) (x3 : Int) (x4 : Int) (x5 : Int) (n6 : Nat) (c6 : Nat) (l6 : List Value) (x7 : Int) (x8 : Int) (x9 : Int) (x10 : Int) (s11 : ByteArray) (n12 : Nat) (c12 : Nat) (l12 : List Value) (k : List D → Prop) : Prop := jFn Tryz.prog (hP C) L [] 34 #[.agg #[.int .i64 x0, .int .i64 x1, .int .i64 x2, .int .i64 x3, .int .i64 x4, .int .i64 x5, .slice (some ⟨500, 0, none⟩) n6 c6, .int .i64 x7, .int .i64 x8, .int .i64 x9, .int .i64 x10], .agg #[.string s11, .slice (some ⟨501, 0, none⟩) n12 c12]] (heapOf [(500, .sym l6 false 5), (501, .sym l12 false 1)]) (dataK k)
theorem gWe_text (C : Ct) (L : AtLoop) (x0 : Int) (x1 : Int) (x2 : Int) (x3 : Int) (x4 : Int) (x5 : Int) (n6 : Nat) (c6 : Nat) (l6 : List Go.Value) (x7 : Int) (x8 : Int) (x9 : Int) (x10 : Int) (s11 : ByteArray) (n12 : Nat) (c12 : Nat) (l12 : List Go.Value) (k : List D → Prop) : gWe C L x0 x1 x2 x3 x4 x5 n6 c6 l6 x7 x8 x9 x10 s11 n12 c12 l12 k =
 (L 0 [(Prod.mk 2 (Pt 1000 0)), (Prod.mk 3 (Pt 1001 0)), (Prod.mk 4 (Pt 1002 0)), (Prod.mk 6 (vI 0))] [(Prod.mk 1000 (AObj.cells [(vI x0), (vI x1), (vI x2), (vI x3), (vI x4), (vI x5), (Sl 500 (n6) (c6)), (vI x7), (vI x8), (vI x9), (vI x10)] 26 false 1)), (Prod.mk 1001 (AObj.cells [(Value.string (s11)), (Sl 501 (n12) (c12))] 29 false 1)), (Prod.mk 1002 (AObj.cells [(vI 0), (Value.slice none 0 0)] 67 false 2)), (Prod.mk 500 (AObj.sym (l6) false 5)), (Prod.mk 501 (AObj.sym (l12) false 1))]) := by kernel_rfl
abbrev zWe1 (x0 : Int) (x1 : Int) (x2 : Int) (x3 : Int) (x4 : Int) (x5 : Int) (x6 : Int) (n7 : Nat) (c8 : Nat) (x9 : Int) (x10 : Int) (x11 : Int) (x12 : Int) (s13 : ByteArray) (n14 : Nat) (c15 : Nat) (x16 : Int) (l17 : List Value) (l18 : List Value) : Slots × Blocks := ([(2, (Value.pointer (some ⟨1000, 0, none⟩))), (3, (Value.pointer (some ⟨1001, 0, none⟩))), (4, (Value.pointer (some ⟨1002, 0, none⟩))), (6, (Value.int .i64 x0))], [(1000, (AObj.cells [(Value.int .i64 x1), (Value.int .i64 x2), (Value.int .i64 x3), (Value.int .i64 x4), (Value.int .i64 x5), (Value.int .i64 x6), (Value.slice (some ⟨500, 0, none⟩) n7 c8), (Value.int .i64 x9), (Value.int .i64 x10), (Value.int .i64 x11), (Value.int .i64 x12)] 26 false 1)), (1001, (AObj.cells [(Value.string s13), (Value.slice (some ⟨501, 0, none⟩) n14 c15)] 29 false 1)), (1002, (AObj.cells [(Value.int .i64 x16), (Value.slice none 0 0)] 67 false 2)), (500, (AObj.sym l17 false 5)), (501, (AObj.sym l18 false 1))])
def rWe1 (C : Ct) (L : AtLoop) (x0 : Int) (x1 : Int) (x2 : Int) (x3 : Int) (x4 : Int) (x5 : Int) (x6 : Int) (n7 : Nat) (c8 : Nat) (x9 : Int) (x10 : Int) (x11 : Int) (x12 : Int) (s13 : ByteArray) (n14 : Nat) (c15 : Nat) (x16 : Int) (l17 : List Value) (l18 : List Value) (B : Bx) (X : Xx) (k : List D → Prop) : Prop := jRound Tryz.prog (hP C) L [] 34 0 [(2, (Value.pointer (some ⟨1000, 0, none⟩))), (3, (Value.pointer (some ⟨1001, 0, none⟩))), (4, (Value.pointer (some ⟨1002, 0, none⟩))), (6, (Value.int .i64 x0))] [(1000, (AObj.cells [(Value.int .i64 x1), (Value.int .i64 x2), (Value.int .i64 x3), (Value.int .i64 x4), (Value.int .i64 x5), (Value.int .i64 x6), (Value.slice (some ⟨500, 0, none⟩) n7 c8), (Value.int .i64 x9), (Value.int .i64 x10), (Value.int .i64 x11), (Value.int .i64 x12)] 26 false 1)), (1001, (AObj.cells [(Value.string s13), (Value.slice (some ⟨501, 0, none⟩) n14 c15)] 29 false 1)), (1002, (AObj.cells [(Value.int .i64 x16), (Value.slice none 0 0)] 67 false 2)), (500, (AObj.sym l17 false 5)), (501, (AObj.sym l18 false 1))] B X (dataK k)
theorem rWe1_text (C : Ct) (L : AtLoop) (x0 : Int) (x1 : Int) (x2 : Int) (x3 : Int) (x4 : Int) (x5 : Int) (x6 : Int) (n7 : Nat) (c8 : Nat) (x9 : Int) (x10 : Int) (x11 : Int) (x12 : Int) (s13 : ByteArray) (n14 : Nat) (c15 : Nat) (x16 : Int) (l17 : List Go.Value) (l18 : List Go.Value) (B : Bx) (X : Xx) (k : List D → Prop) : rWe1 C L x0 x1 x2 x3 x4 x5 x6 n7 c8 x9 x10 x11 x12 s13 n14 c15 x16 l17 l18 B X k =
 (bcase (decide (x0 < (↑n7 : Int)))
 (L 2 [(Prod.mk 2 (Pt 1000 0)), (Prod.mk 3 (Pt 1001 0)), (Prod.mk 4 (Pt 1002 0)), (Prod.mk 6 (vI x0)), (Prod.mk 7 (Pt 1003 0)), (Prod.mk 8 (vI 0))] [(Prod.mk 1000 (AObj.cells [(vI x1), (vI x2), (vI x3), (vI x4), (vI x5), (vI x6), (Sl 500 (n7) (c8)), (vI x9), (vI x10), (vI x11), (vI x12)] 26 false 1)), (Prod.mk 1001 (AObj.cells [(Value.string (s13)), (Sl 501 (n14) (c15))] 29 false 1)), (Prod.mk 1002 (AObj.cells [(vI x16), (Value.slice none 0 0)] 67 false 2)), (Prod.mk 1003 (AObj.cells [(vI x0), (Value.slice none 0 0)] 67 false 2)), (Prod.mk 500 (AObj.sym (l17) false 5)), (Prod.mk 501 (AObj.sym (l18) false 1))])
 (X 0 [(Prod.mk 4 (Pt 1000 0))] [(Prod.mk 1000 (AObj.cells [(vI x16), (Value.slice none 0 0)] 67 false 2))])) := by kernel_rfl
abbrev zWe2 (x0 : Int) (x1 : Int) (x2 : Int) (x3 : Int) (x4 : Int) (x5 : Int) (x6 : Int) (x7 : Int) (n8 : Nat) (c9 : Nat) (x10 : Int) (x11 : Int) (x12 : Int) (x13 : Int) (s14 : ByteArray) (n15 : Nat) (c16 : Nat) (x17 : Int) (x18 : Int) (l19 : List Value) (l20 : List Value) : Slots × Blocks := ([(2, (Value.pointer (some ⟨1000, 0, none⟩))), (3, (Value.pointer (some ⟨1001, 0, none⟩))), (4, (Value.pointer (some ⟨1002, 0, none⟩))), (6, (Value.int .i64 x0)), (7, (Value.pointer (some ⟨1003, 0, none⟩))), (8, (Value.int .i64 x1))], [(1000, (AObj.cells [(Value.int .i64 x2), (Value.int .i64 x3), (Value.int .i64 x4), (Value.int .i64 x5), (Value.int .i64 x6), (Value.int .i64 x7), (Value.slice (some ⟨500, 0, none⟩) n8 c9), (Value.int .i64 x10), (Value.int .i64 x11), (Value.int .i64 x12), (Value.int .i64 x13)] 26 false 1)), (1001, (AObj.cells [(Value.string s14), (Value.slice (some ⟨501, 0, none⟩) n15 c16)] 29 false 1)), (1002, (AObj.cells [(Value.int .i64 x17), (Value.slice none 0 0)] 67 false 2)), (1003, (AObj.cells [(Value.int .i64 x18), (Value.slice none 0 0)] 67 false 2)), (500, (AObj.sym l19 false 5)), (501, (AObj.sym l20 false 1))])
def rWe2 (C : Ct) (L : AtLoop) (x0 : Int) (x1 : Int) (x2 : Int) (x3 : Int) (x4 : Int) (x5 : Int) (x6 : Int) (x7 : Int) (n8 : Nat) (c9 : Nat) (x10 : Int) (x11 : Int) (x12 : Int) (x13 : Int) (s14 : ByteArray) (n15 : Nat) (c16 : Nat) (x17 : Int) (x18 : Int) (l19 : List Value) (l20 : List Value) (B : Bx) (X : Xx) (k : List D → Prop) : Prop := jRound2 Tryz.prog (hP C) L [] 34 0 2 [(2, (Value.pointer (some ⟨1000, 0, none⟩))), (3, (Value.pointer (some ⟨1001, 0, none⟩))), (4, (Value.pointer (some ⟨1002, 0, none⟩))), (6, (Value.int .i64 x0)), (7, (Value.pointer (some ⟨1003, 0, none⟩))), (8, (Value.int .i64 x1))] [(1000, (AObj.cells [(Value.int .i64 x2), (Value.int .i64 x3), (Value.int .i64 x4), (Value.int .i64 x5), (Value.int .i64 x6), (Value.int .i64 x7), (Value.slice (some ⟨500, 0, none⟩) n8 c9), (Value.int .i64 x10), (Value.int .i64 x11), (Value.int .i64 x12), (Value.int .i64 x13)] 26 false 1)), (1001, (AObj.cells [(Value.string s14), (Value.slice (some ⟨501, 0, none⟩) n15 c16)] 29 false 1)), (1002, (AObj.cells [(Value.int .i64 x17), (Value.slice none 0 0)] 67 false 2)), (1003, (AObj.cells [(Value.int .i64 x18), (Value.slice none 0 0)] 67 false 2)), (500, (AObj.sym l19 false 5)), (501, (AObj.sym l20 false 1))] B X (dataK k)
theorem rWe2_text (C : Ct) (L : AtLoop) (x0 : Int) (x1 : Int) (x2 : Int) (x3 : Int) (x4 : Int) (x5 : Int) (x6 : Int) (x7 : Int) (n8 : Nat) (c9 : Nat) (x10 : Int) (x11 : Int) (x12 : Int) (x13 : Int) (s14 : ByteArray) (n15 : Nat) (c16 : Nat) (x17 : Int) (x18 : Int) (l19 : List Go.Value) (l20 : List Go.Value) (B : Bx) (X : Xx) (k : List D → Prop) : rWe2 C L x0 x1 x2 x3 x4 x5 x6 x7 n8 c9 x10 x11 x12 x13 s14 n15 c16 x17 x18 l19 l20 B X k =
 (bcase (decide (x1 < 4))
 (bcase (decide (0 ≤ x0))
 (bcase (decide (x0 < (↑n15 : Int)))
 (∃ n1 : Int,
 ((At (l20) (0 + Int.toNat x0 * 1) 1 [(vI n1)]) ∧
 (((Qv (vI x1)) ∧
 ((∃ n2 : Int,
 ((At (l20) (0 + Int.toNat x0 * 1) 1 [(vI n2)]) ∧
 ((vI n2) = (vI n1)))) ∧
 ((bcase (decide (0 ≤ x0))
 (bcase (decide (x0 < (↑n15 : Int)))
 (Qv (Pt 501 (0 + Int.toNat x0 * 1)))
 False)
 False) ∧
 ((Qv (vI x0)) ∧
 ((Qv (Sl 501 (n15) (c16))) ∧
 ((Qv (Pt 1001 1)) ∧
 ((Qv (vI x0)) ∧
 ((Qv (Value.agg [(Value.string (s14)), (Sl 501 (n15) (c16))].toArray)) ∧
 ((Qv (Value.agg [(vI x2), (vI x3), (vI x4), (vI x5), (vI x6), (vI x7), (Sl 500 (n8) (c9)), (vI x10), (vI x11), (vI x12), (vI x13)].toArray)) ∧
 ((Qv (vI x0)) ∧
 ((Qv (Value.agg [(vI x2), (vI x3), (vI x4), (vI x5), (vI x6), (vI x7), (Sl 500 (n8) (c9)), (vI x10), (vI x11), (vI x12), (vI x13)].toArray)) ∧
 True))))))))))) ∧
 (bcase (decide (0 + n8 * 5 ≤ List.length l19))
 (bcase (decide (0 + n15 * 1 ≤ List.length l20))
 (∃ n2 : Int,
 ((Says C 70 [(D.agg [(D.val (vI x2)), (D.val (vI x3)), (D.val (vI x4)), (D.val (vI x5)), (D.val (vI x6)), (D.val (vI x7)), (D.sl (n8) 5 (List.take (n8 * 5) (List.drop 0 l19))), (D.val (vI x10)), (D.val (vI x11)), (D.val (vI x12)), (D.val (vI x13))]), (D.agg [(D.val (Value.string (s14))), (D.sl (n15) 1 (List.take (n15 * 1) (List.drop 0 l20)))]), (D.val (vI x0))] [(D.val (vI n2))]) ∧
 (((Qv (vI x1)) ∧
 ((∃ n3 : Int,
 ((At (l20) (0 + Int.toNat x0 * 1) 1 [(vI n3)]) ∧
 ((vI n3) = (vI n1)))) ∧
 ((bcase (decide (0 ≤ x0))
 (bcase (decide (x0 < (↑n15 : Int)))
 (Qv (Pt 501 (0 + Int.toNat x0 * 1)))
 False)
 False) ∧
 ((Qv (vI x0)) ∧
 ((Qv (Sl 501 (n15) (c16))) ∧
 ((Qv (Pt 1001 1)) ∧
 ((Qv (vI x0)) ∧
 ((Qv (Value.agg [(vI x2), (vI x3), (vI x4), (vI x5), (vI x6), (vI x7), (Sl 500 (n8) (c9)), (vI x10), (vI x11), (vI x12), (vI x13)].toArray)) ∧
 True)))))))) ∧
 (bcase (decide (0 + n8 * 5 ≤ List.length l19))
 (∃ n3 : Int,
 (∃ n4 : Int,
 ((Says C 82 [(D.agg [(D.val (vI x2)), (D.val (vI x3)), (D.val (vI x4)), (D.val (vI x5)), (D.val (vI x6)), (D.val (vI x7)), (D.sl (n8) 5 (List.take (n8 * 5) (List.drop 0 l19))), (D.val (vI x10)), (D.val (vI x11)), (D.val (vI x12)), (D.val (vI x13))]), (D.val (vI x0)), (D.val (vI n2)), (D.val (vI n1)), (D.val (vI x1))] [(D.agg [(D.val (vI n3)), (D.val (vI n4))])]) ∧
 (bcase (decide (n3 < 0))
 (((bcase (decide (n3 < 0))
 Qb
 Qft) ∧
 ((Qv (vI n3)) ∧
 ((bcase (decide (0 ≤ x0))
 (bcase (decide (x0 < (↑n15 : Int)))
 (Qv (Pt 501 (0 + Int.toNat x0 * 1)))
 False)
 False) ∧
 ((Qv (vI x0)) ∧
 ((Qv (Sl 501 (n15) (c16))) ∧
 ((Qv (Pt 1001 1)) ∧
 True)))))) ∧
 (B [(Prod.mk 2 (Pt 1000 0)), (Prod.mk 3 (Pt 1001 0)), (Prod.mk 4 (Pt 1002 0)), (Prod.mk 6 (vI x0)), (Prod.mk 7 (Pt 1003 0)), (Prod.mk 8 (vI (IntKind.wrap .i64 (x1 + 1))))] [(Prod.mk 1000 (AObj.cells [(vI x2), (vI x3), (vI x4), (vI x5), (vI x6), (vI x7), (Sl 500 (n8) (c9)), (vI x10), (vI x11), (vI x12), (vI x13)] 26 false 1)), (Prod.mk 1001 (AObj.cells [(Value.string (s14)), (Sl 501 (n15) (c16))] 29 false 1)), (Prod.mk 1002 (AObj.cells [(vI x17), (Value.slice none 0 0)] 67 false 2)), (Prod.mk 1003 (AObj.cells [(vI x18), (Sl 1004 1 1)] 67 false 2)), (Prod.mk 500 (AObj.sym (l19) false 5)), (Prod.mk 501 (AObj.sym (l20) false 1)), (Prod.mk 1004 (AObj.sym [(vI x1)] true 1))]))
 (((bcase (decide (n3 < 0))
 Qtf
 Qf) ∧
 ((Qv (vI n3)) ∧
 ((bcase (decide (0 ≤ x0))
 (bcase (decide (x0 < (↑n15 : Int)))
 (Qv (Pt 501 (0 + Int.toNat x0 * 1)))
 False)
 False) ∧
 ((Qv (vI x0)) ∧
 ((Qv (Sl 501 (n15) (c16))) ∧
 ((Qv (Pt 1001 1)) ∧
 True)))))) ∧
 (B [(Prod.mk 2 (Pt 1000 0)), (Prod.mk 3 (Pt 1001 0)), (Prod.mk 4 (Pt 1002 0)), (Prod.mk 6 (vI x0)), (Prod.mk 7 (Pt 1003 0)), (Prod.mk 8 (vI (IntKind.wrap .i64 (x1 + 1))))] [(Prod.mk 1000 (AObj.cells [(vI x2), (vI x3), (vI x4), (vI x5), (vI x6), (vI x7), (Sl 500 (n8) (c9)), (vI x10), (vI x11), (vI x12), (vI x13)] 26 false 1)), (Prod.mk 1001 (AObj.cells [(Value.string (s14)), (Sl 501 (n15) (c16))] 29 false 1)), (Prod.mk 1002 (AObj.cells [(vI x17), (Value.slice none 0 0)] 67 false 2)), (Prod.mk 1003 (AObj.cells [(vI x18), (Value.slice none 0 0)] 67 false 2)), (Prod.mk 500 (AObj.sym (l19) false 5)), (Prod.mk 501 (AObj.sym (l20) false 1))]))))))
 False))))
 False)
 False))))
 False)
 False)
 (X 2 [(Prod.mk 2 (Pt 1000 0)), (Prod.mk 3 (Pt 1001 0)), (Prod.mk 4 (Pt 1002 0)), (Prod.mk 6 (vI x0)), (Prod.mk 7 (Pt 1003 0))] [(Prod.mk 1000 (AObj.cells [(vI x2), (vI x3), (vI x4), (vI x5), (vI x6), (vI x7), (Sl 500 (n8) (c9)), (vI x10), (vI x11), (vI x12), (vI x13)] 26 false 1)), (Prod.mk 1001 (AObj.cells [(Value.string (s14)), (Sl 501 (n15) (c16))] 29 false 1)), (Prod.mk 1002 (AObj.cells [(vI x17), (Value.slice none 0 0)] 67 false 2)), (Prod.mk 1003 (AObj.cells [(vI x18), (Value.slice none 0 0)] 67 false 2)), (Prod.mk 500 (AObj.sym (l19) false 5)), (Prod.mk 501 (AObj.sym (l20) false 1))])) := by kernel_rfl
def nWe3 (C : Ct) (L : AtLoop) (x0 : Int) (k : List D → Prop) : Prop := jNext Tryz.prog (hP C) L [] 34 0 .normal [(4, (Value.pointer (some ⟨1000, 0, none⟩)))] [(1000, (AObj.cells [(Value.int .i64 x0), (Value.slice none 0 0)] 67 false 2))] (dataK k)
theorem nWe3_text (C : Ct) (L : AtLoop) (x0 : Int) (k : List D → Prop) : nWe3 C L x0 k =
 (k [(D.agg [(D.val (vI 0)), D.nil]), (D.val (Value.bool false))]) := by kernel_rfl
abbrev zWe4 (x0 : Int) (x1 : Int) (x2 : Int) (x3 : Int) (x4 : Int) (x5 : Int) (x6 : Int) (x7 : Int) (n8 : Nat) (c9 : Nat) (x10 : Int) (x11 : Int) (x12 : Int) (x13 : Int) (s14 : ByteArray) (n15 : Nat) (c16 : Nat) (x17 : Int) (x18 : Int) (n19 : Nat) (l20 : List Value) (l21 : List Value) (l22 : List Value) : Slots × Blocks := ([(2, (Value.pointer (some ⟨1000, 0, none⟩))), (3, (Value.pointer (some ⟨1001, 0, none⟩))), (4, (Value.pointer (some ⟨1002, 0, none⟩))), (6, (Value.int .i64 x0)), (7, (Value.pointer (some ⟨1003, 0, none⟩))), (8, (Value.int .i64 x1))], [(1000, (AObj.cells [(Value.int .i64 x2), (Value.int .i64 x3), (Value.int .i64 x4), (Value.int .i64 x5), (Value.int .i64 x6), (Value.int .i64 x7), (Value.slice (some ⟨500, 0, none⟩) n8 c9), (Value.int .i64 x10), (Value.int .i64 x11), (Value.int .i64 x12), (Value.int .i64 x13)] 26 false 1)), (1001, (AObj.cells [(Value.string s14), (Value.slice (some ⟨501, 0, none⟩) n15 c16)] 29 false 1)), (1002, (AObj.cells [(Value.int .i64 x17), (Value.slice none 0 0)] 67 false 2)), (1003, (AObj.cells [(Value.int .i64 x18), (Value.slice (some ⟨1004, 0, none⟩) n19 n19)] 67 false 2)), (500, (AObj.sym l20 false 5)), (501, (AObj.sym l21 false 1)), (1004, (AObj.sym l22 true 1))])
def rWe4 (C : Ct) (L : AtLoop) (x0 : Int) (x1 : Int) (x2 : Int) (x3 : Int) (x4 : Int) (x5 : Int) (x6 : Int) (x7 : Int) (n8 : Nat) (c9 : Nat) (x10 : Int) (x11 : Int) (x12 : Int) (x13 : Int) (s14 : ByteArray) (n15 : Nat) (c16 : Nat) (x17 : Int) (x18 : Int) (n19 : Nat) (l20 : List Value) (l21 : List Value) (l22 : List Value) (B : Bx) (X : Xx) (k : List D → Prop) : Prop := jRound2 Tryz.prog (hP C) L [] 34 0 2 [(2, (Value.pointer (some ⟨1000, 0, none⟩))), (3, (Value.pointer (some ⟨1001, 0, none⟩))), (4, (Value.pointer (some ⟨1002, 0, none⟩))), (6, (Value.int .i64 x0)), (7, (Value.pointer (some ⟨1003, 0, none⟩))), (8, (Value.int .i64 x1))] [(1000, (AObj.cells [(Value.int .i64 x2), (Value.int .i64 x3), (Value.int .i64 x4), (Value.int .i64 x5), (Value.int .i64 x6), (Value.int .i64 x7), (Value.slice (some ⟨500, 0, none⟩) n8 c9), (Value.int .i64 x10), (Value.int .i64 x11), (Value.int .i64 x12), (Value.int .i64 x13)] 26 false 1)), (1001, (AObj.cells [(Value.string s14), (Value.slice (some ⟨501, 0, none⟩) n15 c16)] 29 false 1)), (1002, (AObj.cells [(Value.int .i64 x17), (Value.slice none 0 0)] 67 false 2)), (1003, (AObj.cells [(Value.int .i64 x18), (Value.slice (some ⟨1004, 0, none⟩) n19 n19)] 67 false 2)), (500, (AObj.sym l20 false 5)), (501, (AObj.sym l21 false 1)), (1004, (AObj.sym l22 true 1))] B X (dataK k)
theorem rWe4_text (C : Ct) (L : AtLoop) (x0 : Int) (x1 : Int) (x2 : Int) (x3 : Int) (x4 : Int) (x5 : Int) (x6 : Int) (x7 : Int) (n8 : Nat) (c9 : Nat) (x10 : Int) (x11 : Int) (x12 : Int) (x13 : Int) (s14 : ByteArray) (n15 : Nat) (c16 : Nat) (x17 : Int) (x18 : Int) (n19 : Nat) (l20 : List Go.Value) (l21 : List Go.Value) (l22 : List Go.Value) (B : Bx) (X : Xx) (k : List D → Prop) : rWe4 C L x0 x1 x2 x3 x4 x5 x6 x7 n8 c9 x10 x11 x12 x13 s14 n15 c16 x17 x18 n19 l20 l21 l22 B X k =
 (bcase (decide (x1 < 4))
 (bcase (decide (0 ≤ x0))
 (bcase (decide (x0 < (↑n15 : Int)))
 (∃ n1 : Int,
 ((At (l21) (0 + Int.toNat x0 * 1) 1 [(vI n1)]) ∧
 (((Qv (vI x1)) ∧
 ((∃ n2 : Int,
 ((At (l21) (0 + Int.toNat x0 * 1) 1 [(vI n2)]) ∧
 ((vI n2) = (vI n1)))) ∧
 ((bcase (decide (0 ≤ x0))
 (bcase (decide (x0 < (↑n15 : Int)))
 (Qv (Pt 501 (0 + Int.toNat x0 * 1)))
 False)
 False) ∧
 ((Qv (vI x0)) ∧
 ((Qv (Sl 501 (n15) (c16))) ∧
 ((Qv (Pt 1001 1)) ∧
 ((Qv (vI x0)) ∧
 ((Qv (Value.agg [(Value.string (s14)), (Sl 501 (n15) (c16))].toArray)) ∧
 ((Qv (Value.agg [(vI x2), (vI x3), (vI x4), (vI x5), (vI x6), (vI x7), (Sl 500 (n8) (c9)), (vI x10), (vI x11), (vI x12), (vI x13)].toArray)) ∧
 ((Qv (vI x0)) ∧
 ((Qv (Value.agg [(vI x2), (vI x3), (vI x4), (vI x5), (vI x6), (vI x7), (Sl 500 (n8) (c9)), (vI x10), (vI x11), (vI x12), (vI x13)].toArray)) ∧
 True))))))))))) ∧
 (bcase (decide (0 + n8 * 5 ≤ List.length l20))
 (bcase (decide (0 + n15 * 1 ≤ List.length l21))
 (∃ n2 : Int,
 ((Says C 70 [(D.agg [(D.val (vI x2)), (D.val (vI x3)), (D.val (vI x4)), (D.val (vI x5)), (D.val (vI x6)), (D.val (vI x7)), (D.sl (n8) 5 (List.take (n8 * 5) (List.drop 0 l20))), (D.val (vI x10)), (D.val (vI x11)), (D.val (vI x12)), (D.val (vI x13))]), (D.agg [(D.val (Value.string (s14))), (D.sl (n15) 1 (List.take (n15 * 1) (List.drop 0 l21)))]), (D.val (vI x0))] [(D.val (vI n2))]) ∧
 (((Qv (vI x1)) ∧
 ((∃ n3 : Int,
 ((At (l21) (0 + Int.toNat x0 * 1) 1 [(vI n3)]) ∧
 ((vI n3) = (vI n1)))) ∧
 ((bcase (decide (0 ≤ x0))
 (bcase (decide (x0 < (↑n15 : Int)))
 (Qv (Pt 501 (0 + Int.toNat x0 * 1)))
 False)
 False) ∧
 ((Qv (vI x0)) ∧
 ((Qv (Sl 501 (n15) (c16))) ∧
 ((Qv (Pt 1001 1)) ∧
 ((Qv (vI x0)) ∧
 ((Qv (Value.agg [(vI x2), (vI x3), (vI x4), (vI x5), (vI x6), (vI x7), (Sl 500 (n8) (c9)), (vI x10), (vI x11), (vI x12), (vI x13)].toArray)) ∧
 True)))))))) ∧
 (bcase (decide (0 + n8 * 5 ≤ List.length l20))
 (∃ n3 : Int,
 (∃ n4 : Int,
 ((Says C 82 [(D.agg [(D.val (vI x2)), (D.val (vI x3)), (D.val (vI x4)), (D.val (vI x5)), (D.val (vI x6)), (D.val (vI x7)), (D.sl (n8) 5 (List.take (n8 * 5) (List.drop 0 l20))), (D.val (vI x10)), (D.val (vI x11)), (D.val (vI x12)), (D.val (vI x13))]), (D.val (vI x0)), (D.val (vI n2)), (D.val (vI n1)), (D.val (vI x1))] [(D.agg [(D.val (vI n3)), (D.val (vI n4))])]) ∧
 (bcase (decide (n3 < 0))
 (((bcase (decide (n3 < 0))
 Qb
 Qft) ∧
 ((Qv (vI n3)) ∧
 ((bcase (decide (0 ≤ x0))
 (bcase (decide (x0 < (↑n15 : Int)))
 (Qv (Pt 501 (0 + Int.toNat x0 * 1)))
 False)
 False) ∧
 ((Qv (vI x0)) ∧
 ((Qv (Sl 501 (n15) (c16))) ∧
 ((Qv (Pt 1001 1)) ∧
 True)))))) ∧
 (bcase (decide (n19 < n19 + 1))
 (bcase (decide ((2 * (n19 + 1) + 768) * 8 ≤ 281474976710656))
 (bcase (decide (n19 + 1 ≤ 1099511627776))
 (bcase (decide (0 + n19 * 1 ≤ List.length l22))
 (bcase (decide (0 + n19 * 1 = List.length l22))
 (B [(Prod.mk 2 (Pt 1000 0)), (Prod.mk 3 (Pt 1001 0)), (Prod.mk 4 (Pt 1002 0)), (Prod.mk 6 (vI x0)), (Prod.mk 7 (Pt 1003 0)), (Prod.mk 8 (vI (IntKind.wrap .i64 (x1 + 1))))] [(Prod.mk 1000 (AObj.cells [(vI x2), (vI x3), (vI x4), (vI x5), (vI x6), (vI x7), (Sl 500 (n8) (c9)), (vI x10), (vI x11), (vI x12), (vI x13)] 26 false 1)), (Prod.mk 1001 (AObj.cells [(Value.string (s14)), (Sl 501 (n15) (c16))] 29 false 1)), (Prod.mk 1002 (AObj.cells [(vI x17), (Value.slice none 0 0)] 67 false 2)), (Prod.mk 1003 (AObj.cells [(vI x18), (Sl 1004 (n19 + 1) (n19 + 1))] 67 false 2)), (Prod.mk 500 (AObj.sym (l20) false 5)), (Prod.mk 501 (AObj.sym (l21) false 1)), (Prod.mk 1004 (AObj.sym ((List.take (n19 * 1) (List.drop 0 l22)) ++ [(vI x1)]) true 1))])
 False)
 False)
 False)
 False)
 False))
 (((bcase (decide (n3 < 0))
 Qtf
 Qf) ∧
 ((Qv (vI n3)) ∧
 ((bcase (decide (0 ≤ x0))
 (bcase (decide (x0 < (↑n15 : Int)))
 (Qv (Pt 501 (0 + Int.toNat x0 * 1)))
 False)
 False) ∧
 ((Qv (vI x0)) ∧
 ((Qv (Sl 501 (n15) (c16))) ∧
 ((Qv (Pt 1001 1)) ∧
 True)))))) ∧
 (B [(Prod.mk 2 (Pt 1000 0)), (Prod.mk 3 (Pt 1001 0)), (Prod.mk 4 (Pt 1002 0)), (Prod.mk 6 (vI x0)), (Prod.mk 7 (Pt 1003 0)), (Prod.mk 8 (vI (IntKind.wrap .i64 (x1 + 1))))] [(Prod.mk 1000 (AObj.cells [(vI x2), (vI x3), (vI x4), (vI x5), (vI x6), (vI x7), (Sl 500 (n8) (c9)), (vI x10), (vI x11), (vI x12), (vI x13)] 26 false 1)), (Prod.mk 1001 (AObj.cells [(Value.string (s14)), (Sl 501 (n15) (c16))] 29 false 1)), (Prod.mk 1002 (AObj.cells [(vI x17), (Value.slice none 0 0)] 67 false 2)), (Prod.mk 1003 (AObj.cells [(vI x18), (Sl 1004 (n19) (n19))] 67 false 2)), (Prod.mk 500 (AObj.sym (l20) false 5)), (Prod.mk 501 (AObj.sym (l21) false 1)), (Prod.mk 1004 (AObj.sym (l22) true 1))]))))))
 False))))
 False)
 False))))
 False)
 False)
 (X 2 [(Prod.mk 2 (Pt 1000 0)), (Prod.mk 3 (Pt 1001 0)), (Prod.mk 4 (Pt 1002 0)), (Prod.mk 6 (vI x0)), (Prod.mk 7 (Pt 1003 0))] [(Prod.mk 1000 (AObj.cells [(vI x2), (vI x3), (vI x4), (vI x5), (vI x6), (vI x7), (Sl 500 (n8) (c9)), (vI x10), (vI x11), (vI x12), (vI x13)] 26 false 1)), (Prod.mk 1001 (AObj.cells [(Value.string (s14)), (Sl 501 (n15) (c16))] 29 false 1)), (Prod.mk 1002 (AObj.cells [(vI x17), (Value.slice none 0 0)] 67 false 2)), (Prod.mk 1003 (AObj.cells [(vI x18), (Sl 1004 (n19) (n19))] 67 false 2)), (Prod.mk 500 (AObj.sym (l20) false 5)), (Prod.mk 501 (AObj.sym (l21) false 1)), (Prod.mk 1004 (AObj.sym (l22) true 1))])) := by kernel_rfl
def iWe5 (C : Ct) (L : AtLoop) (x0 : Int) (x1 : Int) (x2 : Int) (x3 : Int) (x4 : Int) (x5 : Int) (x6 : Int) (n7 : Nat) (c8 : Nat) (x9 : Int) (x10 : Int) (x11 : Int) (x12 : Int) (s13 : ByteArray) (n14 : Nat) (c15 : Nat) (x16 : Int) (x17 : Int) (l18 : List Value) (l19 : List Value) (B : Bx) (X : Xx) (k : List D → Prop) : Prop := jIn Tryz.prog (hP C) L [] 34 0 2 .normal [(2, (Value.pointer (some ⟨1000, 0, none⟩))), (3, (Value.pointer (some ⟨1001, 0, none⟩))), (4, (Value.pointer (some ⟨1002, 0, none⟩))), (6, (Value.int .i64 x0)), (7, (Value.pointer (some ⟨1003, 0, none⟩)))] [(1000, (AObj.cells [(Value.int .i64 x1), (Value.int .i64 x2), (Value.int .i64 x3), (Value.int .i64 x4), (Value.int .i64 x5), (Value.int .i64 x6), (Value.slice (some ⟨500, 0, none⟩) n7 c8), (Value.int .i64 x9), (Value.int .i64 x10), (Value.int .i64 x11), (Value.int .i64 x12)] 26 false 1)), (1001, (AObj.cells [(Value.string s13), (Value.slice (some ⟨501, 0, none⟩) n14 c15)] 29 false 1)), (1002, (AObj.cells [(Value.int .i64 x16), (Value.slice none 0 0)] 67 false 2)), (1003, (AObj.cells [(Value.int .i64 x17), (Value.slice none 0 0)] 67 false 2)), (500, (AObj.sym l18 false 5)), (501, (AObj.sym l19 false 1))] B X (dataK k)
theorem iWe5_text (C : Ct) (L : AtLoop) (x0 : Int) (x1 : Int) (x2 : Int) (x3 : Int) (x4 : Int) (x5 : Int) (x6 : Int) (n7 : Nat) (c8 : Nat) (x9 : Int) (x10 : Int) (x11 : Int) (x12 : Int) (s13 : ByteArray) (n14 : Nat) (c15 : Nat) (x16 : Int) (x17 : Int) (l18 : List Go.Value) (l19 : List Go.Value) (B : Bx) (X : Xx) (k : List D → Prop) : iWe5 C L x0 x1 x2 x3 x4 x5 x6 n7 c8 x9 x10 x11 x12 s13 n14 c15 x16 x17 l18 l19 B X k =
 (B [(Prod.mk 2 (Pt 1000 0)), (Prod.mk 3 (Pt 1001 0)), (Prod.mk 4 (Pt 1002 0)), (Prod.mk 6 (vI (IntKind.wrap .i64 (x0 + 1))))] [(Prod.mk 1000 (AObj.cells [(vI x1), (vI x2), (vI x3), (vI x4), (vI x5), (vI x6), (Sl 500 (n7) (c8)), (vI x9), (vI x10), (vI x11), (vI x12)] 26 false 1)), (Prod.mk 1001 (AObj.cells [(Value.string (s13)), (Sl 501 (n14) (c15))] 29 false 1)), (Prod.mk 1002 (AObj.cells [(vI x16), (Value.slice none 0 0)] 67 false 2)), (Prod.mk 500 (AObj.sym (l18) false 5)), (Prod.mk 501 (AObj.sym (l19) false 1))]) := by kernel_rfl
def iWe6 (C : Ct) (L : AtLoop) (x0 : Int) (x1 : Int) (x2 : Int) (x3 : Int) (x4 : Int) (x5 : Int) (x6 : Int) (n7 : Nat) (c8 : Nat) (x9 : Int) (x10 : Int) (x11 : Int) (x12 : Int) (s13 : ByteArray) (n14 : Nat) (c15 : Nat) (x16 : Int) (x17 : Int) (n18 : Nat) (l19 : List Value) (l20 : List Value) (l21 : List Value) (B : Bx) (X : Xx) (k : List D → Prop) : Prop := jIn Tryz.prog (hP C) L [] 34 0 2 .normal [(2, (Value.pointer (some ⟨1000, 0, none⟩))), (3, (Value.pointer (some ⟨1001, 0, none⟩))), (4, (Value.pointer (some ⟨1002, 0, none⟩))), (6, (Value.int .i64 x0)), (7, (Value.pointer (some ⟨1003, 0, none⟩)))] [(1000, (AObj.cells [(Value.int .i64 x1), (Value.int .i64 x2), (Value.int .i64 x3), (Value.int .i64 x4), (Value.int .i64 x5), (Value.int .i64 x6), (Value.slice (some ⟨500, 0, none⟩) n7 c8), (Value.int .i64 x9), (Value.int .i64 x10), (Value.int .i64 x11), (Value.int .i64 x12)] 26 false 1)), (1001, (AObj.cells [(Value.string s13), (Value.slice (some ⟨501, 0, none⟩) n14 c15)] 29 false 1)), (1002, (AObj.cells [(Value.int .i64 x16), (Value.slice none 0 0)] 67 false 2)), (1003, (AObj.cells [(Value.int .i64 x17), (Value.slice (some ⟨1004, 0, none⟩) n18 n18)] 67 false 2)), (500, (AObj.sym l19 false 5)), (501, (AObj.sym l20 false 1)), (1004, (AObj.sym l21 true 1))] B X (dataK k)
theorem iWe6_text (C : Ct) (L : AtLoop) (x0 : Int) (x1 : Int) (x2 : Int) (x3 : Int) (x4 : Int) (x5 : Int) (x6 : Int) (n7 : Nat) (c8 : Nat) (x9 : Int) (x10 : Int) (x11 : Int) (x12 : Int) (s13 : ByteArray) (n14 : Nat) (c15 : Nat) (x16 : Int) (x17 : Int) (n18 : Nat) (l19 : List Go.Value) (l20 : List Go.Value) (l21 : List Go.Value) (B : Bx) (X : Xx) (k : List D → Prop) : iWe6 C L x0 x1 x2 x3 x4 x5 x6 n7 c8 x9 x10 x11 x12 s13 n14 c15 x16 x17 n18 l19 l20 l21 B X k =
 (bcase (decide ((↑n18 : Int) > 0))
 (((Qv (n18)) ∧
 ((List.length l21) = (n18 * 1))) ∧
 (k [(D.agg [(D.val (vI x17)), (D.sl (n18) 1 (l21))]), (D.val (Value.bool true))]))
 (B [(Prod.mk 2 (Pt 1000 0)), (Prod.mk 3 (Pt 1001 0)), (Prod.mk 4 (Pt 1002 0)), (Prod.mk 6 (vI (IntKind.wrap .i64 (x0 + 1))))] [(Prod.mk 1000 (AObj.cells [(vI x1), (vI x2), (vI x3), (vI x4), (vI x5), (vI x6), (Sl 500 (n7) (c8)), (vI x9), (vI x10), (vI x11), (vI x12)] 26 false 1)), (Prod.mk 1001 (AObj.cells [(Value.string (s13)), (Sl 501 (n14) (c15))] 29 false 1)), (Prod.mk 1002 (AObj.cells [(vI x16), (Value.slice none 0 0)] 67 false 2)), (Prod.mk 500 (AObj.sym (l19) false 5)), (Prod.mk 501 (AObj.sym (l20) false 1))])) := by kernel_rfl
end Go.Proofs.G5o

/- Chapter 3: the answer, the weakest place, and margins, in data. -/
namespace Go.Proofs.G5o
open Go Go.Abs Go.Proofs Go.Str
set_option maxRecDepth 100000
theorem mar_at {r : Ru} {k : Nat} {b h : Int} {i : Nat} (hi : i < 4) : (mar r k b h).drop i = mP r (i : Int) k b h :: (mar r k b h).drop (i + 1) := by
  have hl : i < (mar r k b h).length := hi
  rw [List.drop_eq_getElem_cons hl]
  congr 1
  simp only [mP, Int.toNat_natCast, List.getD, List.getElem?_eq_getElem hl, Option.getD_some]
/-- the limits by which a draught may not pass, from a number on -/
def wkI : Int → List (Int × Int) → List Int
  | _, [] => []
  | i, p :: r => if p.1 < 0 then i :: wkI (i + 1) r else wkI (i + 1) r
def wk (r : Ru) (k : Nat) (b h : Int) : List Int := wkI 0 (mar r k b h)
theorem wkI_app : ∀ (l : List (Int × Int)) (i : Int) (p : Int × Int), wkI i (l ++ [p]) = wkI i l ++ (if p.1 < 0 then [i + l.length] else [])
  | [], i, p => by
    simp only [List.nil_append, wkI, List.length_nil]
    split <;> simp
  | q :: l, i, p => by
    have e : (i + 1 + (l.length : Int)) = i + ((q :: l).length : Int) := by simp only [List.length_cons]; push_cast; omega
    simp only [List.cons_append, wkI, wkI_app l, e]
    split <;> rfl
theorem wk_snoc {r : Ru} {k : Nat} {b h : Int} {i : Nat} (hi : i < 4) : wkI 0 ((mar r k b h).take (i + 1)) = wkI 0 ((mar r k b h).take i) ++ (if (mP r (i : Int) k b h).1 < 0 then [(i : Int)] else []) := by
  have hl : i < (mar r k b h).length := hi
  have e : (mar r k b h)[i] = mP r (i : Int) k b h := by
    simp only [mP, Int.toNat_natCast, List.getD, List.getElem?_eq_getElem hl, Option.getD_some]
  rw [List.take_succ_eq_append_getElem hl, wkI_app, e]
  have e2 : (0 : Int) + ((List.take i (mar r k b h)).length : Int) = (i : Int) := by
    rw [List.length_take, Nat.min_eq_left (Nat.le_of_lt hl)]; omega
  rw [e2]
def weD (r : Ru) : Nat → Int → List Int → Option (Nat × List Int)
  | _, _, [] => none
  | k, b, h :: l => if wk r k b h = [] then weD r (k + 1) h l else some (k, wk r k b h)
theorem weD_drop (r : Ru) {k : Nat} {b : Int} {th : List Int} (hk : k < th.length) : weD r k b (th.drop k) = if wk r k b th[k] = [] then weD r (k + 1) th[k] (th.drop (k + 1)) else some (k, wk r k b th[k]) := by
  rw [List.drop_eq_getElem_cons hk]; rfl
def weR (o : Option (Nat × List Int)) (f g : D) : List D := match o with
  | none => [.agg [dI 0, .nil], f]
  | some (k, l) => [.agg [dI k, .sl l.length 1 (vi l)], g]
theorem vi_snoc (l : List Int) (a : Int) : vi l ++ [.int .i64 a] = vi (l ++ [a]) := by
  show List.map _ l ++ _ = List.map _ _
  simp
theorem conAn (r : Ru) (nm : List UInt8) (th : List Int) (v : VR r th) : C5 33 [r.d, scD nm th] [dI (ansD r 0 r.st 2 th)] := by
  have hl := v.v.len
  have h6 := v.v.n6
  let st1 : Nat × Int × Nat × Nat → Slots × Blocks := fun q => zAn1 q.2.1 (q.1 : Int) r.w r.st r.fi r.hlo r.hhi r.co r.ss.length q.2.2.1 r.slo r.shi r.flo r.fhi (bs nm) th.length q.2.2.2 (vs5 r.ss) (vi th)
  let inv1 : Nat × Int × Nat × Nat → Prop := fun q => q.1 ≤ th.length ∧ ansD r 0 r.st 2 th = ansD r q.1 (bfr r.st th q.1) q.2.1 (th.drop q.1)
  refine con_J hokP mixed [] (L := fun _ s b => ∃ q, inv1 q ∧ st1 q = (s, b)) Tryz.func33 rfl (by show 2 ≤ 400; omega) rfl (pts := [0]) (loops := [0]) (by kernel_rfl) (by kernel_rfl) (fun caps _ => ?_) (fun id q1 q2 => absurd q1 q2) (fun id hid => ?_)
  · show gAn _ _ r.w r.st r.fi r.hlo r.hhi r.co r.ss.length (caps 500) (vs5 r.ss) r.slo r.shi r.flo r.fhi (bs nm) th.length (caps 501) (vi th) _
    rw [gAn_text]
    exact ⟨(0, 2, caps 500, caps 501), ⟨Nat.zero_le _, rfl⟩, rfl⟩
  · obtain rfl := List.mem_singleton.1 hid
    refine ⟨⟨Nat × Int × Nat × Nat, st1, inv1, fun q => th.length - q.1, fun s b h => h, [2], [2], by kernel_rfl, by kernel_rfl, ?_⟩⟩
    rintro ⟨i, a, c1, c2⟩ ⟨hi, ha⟩
    have hi : i ≤ th.length := hi
    have ha : ansD r 0 r.st 2 th = ansD r i (bfr r.st th i) a (th.drop i) := ha
    by_cases hlt : i < th.length
    · have hd := v.dr hlt
      let st2 : Nat × Int → Slots × Blocks := fun y => zAn2 y.2 (i : Int) (y.1 : Int) r.w r.st r.fi r.hlo r.hhi r.co r.ss.length c1 r.slo r.shi r.flo r.fhi (bs nm) th.length c2 (vs5 r.ss) (vi th)
      let inv2 : Nat × Int → Prop := fun y => y.1 ≤ 4 ∧ ansR a (mar r i (bfr r.st th i) th[i]) = ansR y.2 ((mar r i (bfr r.st th i) th[i]).drop y.1)
      refine ⟨fun _ s b => ∃ y, inv2 y ∧ st2 y = (s, b), ?_, fun id2 q1 q2 => absurd q1 q2, fun id2 hid2 => ?_⟩
      · show rAn1 _ _ a (i : Int) r.w r.st r.fi r.hlo r.hhi r.co r.ss.length c1 r.slo r.shi r.flo r.fhi (bs nm) th.length c2 (vs5 r.ss) (vi th) _ _ _
        rw [rAn1_text, bc_t (show (i : Int) < (r.ss.length : Int) by omega)]
        exact ⟨(0, a), ⟨Nat.zero_le _, rfl⟩, rfl⟩
      · obtain rfl := List.mem_singleton.1 hid2
        refine ⟨⟨Nat × Int, st2, inv2, fun y => 4 - y.1, fun s b h => h, [], by kernel_rfl, by kernel_rfl, ?_⟩⟩
        rintro ⟨j, x⟩ ⟨hj, hx⟩
        have hj : j ≤ 4 := hj
        have hx : ansR a (mar r i (bfr r.st th i) th[i]) = ansR x ((mar r i (bfr r.st th i) th[i]).drop j) := hx
        refine ⟨fun _ _ _ => False, ?_, fun id3 h3 => by cases h3⟩
        show rAn2 _ _ x (i : Int) (j : Int) r.w r.st r.fi r.hlo r.hhi r.co r.ss.length c1 r.slo r.shi r.flo r.fhi (bs nm) th.length c2 (vs5 r.ss) (vi th) _ _ _
        rw [rAn2_text]
        refine bc_dec (fun h => ?_) (fun h => ?_)
        · have hj4 : j < 4 := by omega
          rw [mar_at hj4, ansR] at hx
          simp only [bc_t (show (0 : Int) ≤ (i : Int) by omega), bc_t (show (i : Int) < (th.length : Int) by omega), Int.toNat_natCast, at1 (vi_at th i hlt), bc_t (v5le r.ss), bc_t (v1le th), v5_whole, v1_whole, Qv, eq_self, true_and, and_true]
          refine ⟨_, ⟨conbf r nm th i hlt (by omega)⟩, _, _, ⟨conmg r i (bfr r.st th i) th[i] (j : Int) hd (by omega)⟩, ?_⟩
          refine bc_dec (fun q1 => ?_) (fun q1 => ?_)
          · rw [if_pos q1] at hx
            have : ansD r i (bfr r.st th i) a (th.drop i) = 0 := by rw [ansD_drop r hlt, hx]
            show [dI 0] = [dI _]
            rw [ha, this]
          · rw [if_neg q1] at hx
            refine bc_dec (fun q2 => ?_) (fun q2 => ?_)
            · rw [if_pos q2] at hx
              refine ⟨(j + 1, 1), ⟨hj4, hx⟩, by show 4 - (j + 1) < 4 - j; omega, ?_⟩
              show zAn2 _ _ _ _ _ _ _ _ _ _ _ _ _ _ _ _ _ _ _ _ = _
              rw [w64 (by omega) (by omega)]; rfl
            · rw [if_neg q2] at hx
              refine ⟨(j + 1, x), ⟨hj4, hx⟩, by show 4 - (j + 1) < 4 - j; omega, ?_⟩
              show zAn2 _ _ _ _ _ _ _ _ _ _ _ _ _ _ _ _ _ _ _ _ = _
              rw [w64 (by omega) (by omega)]; rfl
        · show (if 2 = 2 then _ else _)
          rw [if_pos rfl]
          have hj4 : j = 4 := by omega
          subst hj4
          have hx : ansR a (mar r i (bfr r.st th i) th[i]) = some x := hx
          show iAn4 _ _ x (i : Int) r.w r.st r.fi r.hlo r.hhi r.co r.ss.length c1 r.slo r.shi r.flo r.fhi (bs nm) th.length c2 (vs5 r.ss) (vi th) _ _ _
          rw [iAn4_text]
          refine ⟨(i + 1, x, c1, c2), ⟨hlt, by rw [ha, ansD_drop r hlt, hx, bfr_succ hlt]⟩, by show th.length - (i + 1) < th.length - i; omega, ?_⟩
          show zAn1 _ _ _ _ _ _ _ _ _ _ _ _ _ _ _ _ _ _ _ = _
          rw [w64 (by omega) (by omega)]; rfl
    · refine ⟨fun _ _ _ => False, ?_, fun id2 q1 q2 => absurd q1 q2, fun id2 hid2 => ?_⟩
      · show rAn1 _ _ a (i : Int) r.w r.st r.fi r.hlo r.hhi r.co r.ss.length c1 r.slo r.shi r.flo r.fhi (bs nm) th.length c2 (vs5 r.ss) (vi th) _ _ _
        rw [rAn1_text, bc_f (show ¬ (i : Int) < (r.ss.length : Int) by omega)]
        show (if 0 = 0 then _ else _)
        rw [if_pos rfl]
        show nAn3 _ _ a _
        rw [nAn3_text]
        show [dI a] = [dI _]
        rw [ha, show i = th.length by omega, List.drop_length]; rfl
      · obtain rfl := List.mem_singleton.1 hid2
        exact ⟨⟨Unit, fun _ => ([], []), fun _ => False, fun _ => 0, fun s b h => h.elim, [], by kernel_rfl, by kernel_rfl, fun _ h => h.elim⟩⟩
theorem conWe (r : Ru) (nm : List UInt8) (th : List Int) (v : VR r th) : C5 34 [r.d, scD nm th] (weR (weD r 0 r.st th) (dB false) (dB true)) := by
  have hl := v.v.len
  have h6 := v.v.n6
  let st1 : Nat × Nat × Nat → Slots × Blocks := fun q => zWe1 (q.1 : Int) r.w r.st r.fi r.hlo r.hhi r.co r.ss.length q.2.1 r.slo r.shi r.flo r.fhi (bs nm) th.length q.2.2 0 (vs5 r.ss) (vi th)
  let inv1 : Nat × Nat × Nat → Prop := fun q => q.1 ≤ th.length ∧ weD r 0 r.st th = weD r q.1 (bfr r.st th q.1) (th.drop q.1)
  refine con_J hokP mixed [] (L := fun _ s b => ∃ q, inv1 q ∧ st1 q = (s, b)) Tryz.func34 rfl (by show 2 ≤ 400; omega) rfl (pts := [0]) (loops := [0]) (by kernel_rfl) (by kernel_rfl) (fun caps _ => ?_) (fun id q1 q2 => absurd q1 q2) (fun id hid => ?_)
  · show gWe _ _ r.w r.st r.fi r.hlo r.hhi r.co r.ss.length (caps 500) (vs5 r.ss) r.slo r.shi r.flo r.fhi (bs nm) th.length (caps 501) (vi th) _
    rw [gWe_text]
    exact ⟨(0, caps 500, caps 501), ⟨Nat.zero_le _, rfl⟩, rfl⟩
  · obtain rfl := List.mem_singleton.1 hid
    refine ⟨⟨Nat × Nat × Nat, st1, inv1, fun q => th.length - q.1, fun s b h => h, [2], [2], by kernel_rfl, by kernel_rfl, ?_⟩⟩
    rintro ⟨i, c1, c2⟩ ⟨hi, ha⟩
    have hi : i ≤ th.length := hi
    have ha : weD r 0 r.st th = weD r i (bfr r.st th i) (th.drop i) := ha
    by_cases hlt : i < th.length
    · have hd := v.dr hlt
      let W : Nat → List Int := fun j => wkI 0 ((mar r i (bfr r.st th i) th[i]).take j)
      let st2 : Nat → Slots × Blocks := fun j => if (W j).length = 0 then zWe2 (i : Int) (j : Int) r.w r.st r.fi r.hlo r.hhi r.co r.ss.length c1 r.slo r.shi r.flo r.fhi (bs nm) th.length c2 0 (i : Int) (vs5 r.ss) (vi th) else zWe4 (i : Int) (j : Int) r.w r.st r.fi r.hlo r.hhi r.co r.ss.length c1 r.slo r.shi r.flo r.fhi (bs nm) th.length c2 0 (i : Int) (W j).length (vs5 r.ss) (vi th) (vi (W j))
      refine ⟨fun _ s b => ∃ j, j ≤ 4 ∧ st2 j = (s, b), ?_, fun id2 q1 q2 => absurd q1 q2, fun id2 hid2 => ?_⟩
      · show rWe1 _ _ (i : Int) r.w r.st r.fi r.hlo r.hhi r.co r.ss.length c1 r.slo r.shi r.flo r.fhi (bs nm) th.length c2 0 (vs5 r.ss) (vi th) _ _ _
        rw [rWe1_text, bc_t (show (i : Int) < (r.ss.length : Int) by omega)]
        exact ⟨0, Nat.zero_le _, rfl⟩
      · obtain rfl := List.mem_singleton.1 hid2
        refine ⟨⟨Nat, st2, fun j => j ≤ 4, fun j => 4 - j, fun s b h => h, [], by kernel_rfl, by kernel_rfl, ?_⟩⟩
        intro j hj
        refine ⟨fun _ _ _ => False, ?_, fun id3 h3 => by cases h3⟩
        have next : ∀ hj4 : j < 4, ((mP r (j : Int) i (bfr r.st th i) th[i]).1 < 0 → W (j + 1) = W j ++ [(j : Int)]) ∧ (¬ (mP r (j : Int) i (bfr r.st th i) th[i]).1 < 0 → W (j + 1) = W j) := fun hj4 => by
          have e : W (j + 1) = _ := wk_snoc hj4
          exact ⟨fun q => by rw [e, if_pos q], fun q => by rw [e, if_neg q, List.append_nil]⟩
        by_cases hw : (W j).length = 0
        · have e2 : st2 j = zWe2 (i : Int) (j : Int) r.w r.st r.fi r.hlo r.hhi r.co r.ss.length c1 r.slo r.shi r.flo r.fhi (bs nm) th.length c2 0 (i : Int) (vs5 r.ss) (vi th) := if_pos hw
          rw [e2]
          show rWe2 _ _ (i : Int) (j : Int) r.w r.st r.fi r.hlo r.hhi r.co r.ss.length c1 r.slo r.shi r.flo r.fhi (bs nm) th.length c2 0 (i : Int) (vs5 r.ss) (vi th) _ _ _
          rw [rWe2_text]
          refine bc_dec (fun h => ?_) (fun h => ?_)
          · have hj4 : j < 4 := by omega
            simp only [bc_t (show (0 : Int) ≤ (i : Int) by omega), bc_t (show (i : Int) < (th.length : Int) by omega), Int.toNat_natCast, at1 (vi_at th i hlt), bc_t (v5le r.ss), bc_t (v1le th), v5_whole, v1_whole, Qv, eq_self, true_and, and_true]
            refine ⟨_, ⟨conbf r nm th i hlt (by omega)⟩, _, _, ⟨conmg r i (bfr r.st th i) th[i] (j : Int) hd (by omega)⟩, ?_⟩
            refine bc_dec (fun q1 => ?_) (fun q1 => ?_)
            · simp only [bc_t q1, true_and]
              refine ⟨j + 1, hj4, by omega, ?_⟩
              have e := (next hj4).1 q1
              rw [List.eq_nil_of_length_eq_zero hw, List.nil_append] at e
              show (if (W (j + 1)).length = 0 then _ else _) = _
              rw [if_neg (by rw [e]; simp), e, w64 (by omega) (by omega)]; rfl
            · simp only [bc_f q1, true_and]
              refine ⟨j + 1, hj4, by omega, ?_⟩
              have e := (next hj4).2 q1
              show (if (W (j + 1)).length = 0 then _ else _) = _
              rw [if_pos (by rw [e]; exact hw), w64 (by omega) (by omega)]; rfl
          · show (if 2 = 2 then _ else _)
            rw [if_pos rfl]
            have hj4 : j = 4 := by omega
            have wn : wk r i (bfr r.st th i) th[i] = [] := by
              have := List.eq_nil_of_length_eq_zero hw
              rw [hj4] at this; exact this
            show iWe5 _ _ (i : Int) r.w r.st r.fi r.hlo r.hhi r.co r.ss.length c1 r.slo r.shi r.flo r.fhi (bs nm) th.length c2 0 (i : Int) (vs5 r.ss) (vi th) _ _ _
            rw [iWe5_text]
            try dsimp only
            refine ⟨(i + 1, c1, c2), ⟨hlt, by rw [ha, weD_drop r hlt, if_pos wn, bfr_succ hlt]⟩, by show th.length - (i + 1) < th.length - i; omega, ?_⟩
            show zWe1 _ _ _ _ _ _ _ _ _ _ _ _ _ _ _ _ _ _ _ = _
            rw [w64 (by omega) (by omega)]; rfl
        · have e2 : st2 j = zWe4 (i : Int) (j : Int) r.w r.st r.fi r.hlo r.hhi r.co r.ss.length c1 r.slo r.shi r.flo r.fhi (bs nm) th.length c2 0 (i : Int) (W j).length (vs5 r.ss) (vi th) (vi (W j)) := if_neg hw
          rw [e2]
          show rWe4 _ _ (i : Int) (j : Int) r.w r.st r.fi r.hlo r.hhi r.co r.ss.length c1 r.slo r.shi r.flo r.fhi (bs nm) th.length c2 0 (i : Int) (W j).length (vs5 r.ss) (vi th) (vi (W j)) _ _ _
          rw [rWe4_text]
          have wl : (W j).length ≤ 4 := by
            have : ∀ (l : List (Int × Int)) (i : Int), (wkI i l).length ≤ l.length := by
              intro l
              induction l with
              | nil => intro i; simp [wkI]
              | cons p l ih => intro i; rw [wkI]; have := ih (i + 1); split <;> (simp only [List.length_cons]; omega)
            have h1 := this ((mar r i (bfr r.st th i) th[i]).take j) 0
            have h2 : ((mar r i (bfr r.st th i) th[i]).take j).length ≤ 4 := by rw [List.length_take]; exact Nat.min_le_right _ _
            exact Nat.le_trans h1 h2
          have vl : (vi (W j)).length = (W j).length := by simp
          refine bc_dec (fun h => ?_) (fun h => ?_)
          · have hj4 : j < 4 := by omega
            simp only [bc_t (show (0 : Int) ≤ (i : Int) by omega), bc_t (show (i : Int) < (th.length : Int) by omega), Int.toNat_natCast, at1 (vi_at th i hlt), bc_t (v5le r.ss), bc_t (v1le th), v5_whole, v1_whole, Qv, eq_self, true_and, and_true]
            refine ⟨_, ⟨conbf r nm th i hlt (by omega)⟩, _, _, ⟨conmg r i (bfr r.st th i) th[i] (j : Int) hd (by omega)⟩, ?_⟩
            refine bc_dec (fun q1 => ?_) (fun q1 => ?_)
            · simp only [bc_t q1, true_and]
              rw [bc_t (by omega), bc_t (by omega), bc_t (by omega), bc_t (by omega), bc_t (by omega)]
              refine ⟨j + 1, hj4, by omega, ?_⟩
              have e := (next hj4).1 q1
              have e5 := vi_snoc (W j) (j : Int)
              show (if (W (j + 1)).length = 0 then _ else _) = _
              rw [if_neg (by rw [e]; simp), e, ← e5, w64 (by omega) (by omega), List.length_append]; rfl
            · simp only [bc_f q1, true_and]
              refine ⟨j + 1, hj4, by omega, ?_⟩
              have e := (next hj4).2 q1
              show (if (W (j + 1)).length = 0 then _ else _) = _
              rw [e, if_neg hw, w64 (by omega) (by omega)]; rfl
          · show (if 2 = 2 then _ else _)
            rw [if_pos rfl]
            have hj4 : j = 4 := by omega
            have wn : wk r i (bfr r.st th i) th[i] = W j := by rw [hj4]; rfl
            show iWe6 _ _ (i : Int) r.w r.st r.fi r.hlo r.hhi r.co r.ss.length c1 r.slo r.shi r.flo r.fhi (bs nm) th.length c2 0 (i : Int) (W j).length (vs5 r.ss) (vi th) (vi (W j)) _ _ _
            rw [iWe6_text, bc_t (show ((W j).length : Int) > 0 by omega)]
            try simp only [Qv, eq_self, true_and]
            refine ⟨by omega, ?_⟩
            show _ = weR _ _ _
            rw [ha, weD_drop r hlt, if_neg (by rw [wn]; intro h0; rw [h0] at hw; exact hw rfl), wn]
            rfl
    · refine ⟨fun _ _ _ => False, ?_, fun id2 q1 q2 => absurd q1 q2, fun id2 hid2 => ?_⟩
      · show rWe1 _ _ (i : Int) r.w r.st r.fi r.hlo r.hhi r.co r.ss.length c1 r.slo r.shi r.flo r.fhi (bs nm) th.length c2 0 (vs5 r.ss) (vi th) _ _ _
        rw [rWe1_text, bc_f (show ¬ (i : Int) < (r.ss.length : Int) by omega)]
        show (if 0 = 0 then _ else _)
        rw [if_pos rfl]
        show nWe3 _ _ 0 _
        rw [nWe3_text]
        show _ = weR _ _ _
        rw [ha, show i = th.length by omega, List.drop_length]; rfl
      · obtain rfl := List.mem_singleton.1 hid2
        exact ⟨⟨Unit, fun _ => ([], []), fun _ => False, fun _ => 0, fun s b h => h.elim, [], by kernel_rfl, by kernel_rfl, fun _ h => h.elim⟩⟩
theorem conWOb (r : Ru) (nm : List UInt8) (th : List Int) (hlen : r.ss.length < 1000000000) (hth : th.length < 1000000000) (h : (schP r nm th).2 ≠ 0) : C5 31 [r.d, scD nm th] [.agg [dI 0, .nil], dI (schP r nm th).2] := by
  refine con_JR hokRP mixed [] (L := fun _ _ _ => False) Tryz.func31 rfl (by show 2 ≤ 400; omega) rfl (pts := [50005]) (loops := [50005]) (by kernel_rfl) (by kernel_rfl) (fun caps _ => ?_) (fun id q1 q2 => absurd q1 q2) (fun id hid hlt => absurd hlt (by obtain rfl := List.mem_singleton.1 hid; decide)) (fun id hid hlt => ⟨⟨fun s b e => e.elim⟩⟩)
  show R.gWO C5 _ r.w r.st r.fi r.hlo r.hhi r.co r.ss.length (caps 500) (vs5 r.ss) r.slo r.shi r.flo r.fhi (bs nm) th.length (caps 501) (vi th) _
  rw [R.gWO_text, bc_t (v5le r.ss), bc_t (v1le th), v5_whole, v1_whole]
  refine ⟨_, _, ⟨conKS r nm th hlen hth⟩, ?_⟩
  rw [bc_n h, bc_n h]
theorem conWO (r : Ru) (nm : List UInt8) (th : List Int) (v : VR r th) (hp : (schP r nm th).2 = 0) : C5 31 [r.d, scD nm th] (weR (weD r 0 r.st th) (dI 12) (dI 0)) := by
  have hl := v.v.len
  have h6 := v.v.n6
  refine con_JR hokRP mixed [] (L := fun _ s b => ∃ c0 c1, R.zWO2 0 0 r.w r.st r.fi r.hlo r.hhi r.co r.ss.length c0 r.slo r.shi r.flo r.fhi r.w r.st r.fi r.hlo r.hhi r.co r.ss.length c0 r.slo r.shi r.flo r.fhi (bs nm) th.length c1 (vs5 r.ss) (vi th) = (s, b)) Tryz.func31 rfl (by show 2 ≤ 400; omega) rfl (pts := [50005]) (loops := [50005]) (by kernel_rfl) (by kernel_rfl) (fun caps _ => ?_) (fun id q1 q2 => absurd q1 q2) (fun id hid hlt => absurd hlt (by obtain rfl := List.mem_singleton.1 hid; decide)) (fun id hid hlt => ?_)
  · show R.gWO C5 _ r.w r.st r.fi r.hlo r.hhi r.co r.ss.length (caps 500) (vs5 r.ss) r.slo r.shi r.flo r.fhi (bs nm) th.length (caps 501) (vi th) _
    rw [R.gWO_text, bc_t (v5le r.ss), bc_t (v1le th), v5_whole, v1_whole]
    refine ⟨_, _, ⟨conKS r nm th (by omega) (by omega)⟩, ?_⟩
    rw [hp, bc_nf]
    exact ⟨caps 500, caps 501, rfl⟩
  · obtain rfl := List.mem_singleton.1 hid
    refine ⟨⟨?_⟩⟩
    rintro s b ⟨c0, c1, e⟩
    cases e
    show R.hWO2 0 0 r.w r.st r.fi r.hlo r.hhi r.co r.ss.length c0 r.slo r.shi r.flo r.fhi r.w r.st r.fi r.hlo r.hhi r.co r.ss.length c0 r.slo r.shi r.flo r.fhi (bs nm) th.length c1 (vs5 r.ss) (vi th) _
    rw [R.hWO2_text]
    let st : Nat → Slots × Blocks := fun _ => R.zWO5 0 0 r.w r.st r.fi r.hlo r.hhi r.co r.ss.length c0 r.slo r.shi r.flo r.fhi (vs5 r.ss)
    refine ⟨drows r.st 0 th, fun rest s b => ∃ i, i ≤ th.length ∧ rest = drows (bfr r.st th i) i (th.drop i) ∧ weD r 0 r.st th = weD r i (bfr r.st th i) (th.drop i) ∧ st 0 = (s, b), runDo r c0 c1 nm th (by omega), ⟨0, Nat.zero_le _, rfl, rfl, rfl⟩, ?_, ?_⟩
    · rintro row rest s b ⟨i, hi, e1, ha, e2⟩
      have hi2 : i < th.length := by
        refine Nat.lt_of_le_of_ne hi (fun h => ?_)
        rw [h, List.drop_length] at e1; cases e1
      rw [drows_drop hi2] at e1
      obtain ⟨rfl, rfl⟩ := List.cons.inj e1
      rw [weD_drop r hi2] at ha
      cases e2
      have hd := v.dr hi2
      show R.wWO5 C5 0 0 r.w r.st r.fi r.hlo r.hhi r.co r.ss.length c0 r.slo r.shi r.flo r.fhi (vs5 r.ss) (i : Int) (bfr r.st th i) th[i] _ _
      rw [R.wWO5_text]
      intro caps
      simp only [bc_t (v5le r.ss), v5_whole]
      refine ⟨_, _, _, _, _, _, _, _, ⟨conma r i (bfr r.st th i) th[i] hd⟩, bc_dec (fun q1 => ?_) (fun q1 => ?_)⟩
      all_goals refine ⟨_, _, _, _, _, _, _, _, ⟨conma r i (bfr r.st th i) th[i] hd⟩, bc_dec (fun q2 => ?_) (fun q2 => ?_)⟩
      all_goals refine ⟨_, _, _, _, _, _, _, _, ⟨conma r i (bfr r.st th i) th[i] hd⟩, bc_dec (fun q3 => ?_) (fun q3 => ?_)⟩
      all_goals refine ⟨_, _, _, _, _, _, _, _, ⟨conma r i (bfr r.st th i) th[i] hd⟩, bc_dec (fun q4 => ?_) (fun q4 => ?_)⟩
      all_goals
        simp only [wk, mar, wkI] at ha
        first | rw [if_pos q1] at ha | rw [if_neg q1] at ha
        first | rw [if_pos q2] at ha | rw [if_neg q2] at ha
        first | rw [if_pos q3] at ha | rw [if_neg q3] at ha
        first | rw [if_pos q4] at ha | rw [if_neg q4] at ha
        first
          | (rw [if_pos rfl] at ha
             exact ⟨i + 1, hi2, by rw [bfr_succ hi2], by rw [ha, bfr_succ hi2], rfl⟩)
          | (rw [if_neg (by simp)] at ha
             show R.nWO8 C5 _ (i : Int) _ 0 r.w r.st r.fi r.hlo r.hhi r.co r.ss.length c0 r.slo r.shi r.flo r.fhi _ (vs5 r.ss) _
             rw [R.nWO8_text]
             refine ⟨⟨rfl, rfl⟩, ?_⟩
             show _ = weR _ _ _
             rw [ha]; rfl)
    · rintro s b ⟨i, hi, e1, ha, e2⟩
      have hi2 : i = th.length := Decidable.byContradiction fun h => by
        rw [drows_drop (show i < th.length by omega)] at e1; cases e1
      cases e2
      show R.nWO6 C5 _ 0 0 r.w r.st r.fi r.hlo r.hhi r.co r.ss.length c0 r.slo r.shi r.flo r.fhi (vs5 r.ss) _
      rw [R.nWO6_text]
      show _ = weR _ _ _
      rw [ha, hi2, List.drop_length]; rfl
theorem conMOb (r : Ru) (nm : List UInt8) (th : List Int) (lim : Int) (hlen : r.ss.length < 1000000000) (hth : th.length < 1000000000) (h : (schP r nm th).2 ≠ 0) : C5 29 [r.d, scD nm th, dI lim] [.nil, dI (schP r nm th).2] := by
  refine con_flat hokP mixed Tryz.func29 rfl (by show 2 ≤ 400; omega) rfl (by kernel_rfl) (fun caps => ?_)
  show gMO _ _ r.w r.st r.fi r.hlo r.hhi r.co r.ss.length (caps 500) (vs5 r.ss) r.slo r.shi r.flo r.fhi (bs nm) th.length (caps 501) (vi th) lim _
  rw [gMO_text]
  simp only [bc_t (v5le r.ss), bc_t (v1le th), v5_whole, v1_whole, Qv, eq_self, true_and]
  refine ⟨_, _, ⟨conKS r nm th hlen hth⟩, ?_⟩
  rw [bc_n h, bc_n h]
theorem conMOk (r : Ru) (nm : List UInt8) (th : List Int) (lim : Int) (hlen : r.ss.length < 1000000000) (hth : th.length < 1000000000) (h : (schP r nm th).2 = 0) (hl : ¬ (0 ≤ lim ∧ lim < 4)) : C5 29 [r.d, scD nm th, dI lim] [.nil, dI 15] := by
  refine con_flat hokP mixed Tryz.func29 rfl (by show 2 ≤ 400; omega) rfl (by kernel_rfl) (fun caps => ?_)
  show gMO _ _ r.w r.st r.fi r.hlo r.hhi r.co r.ss.length (caps 500) (vs5 r.ss) r.slo r.shi r.flo r.fhi (bs nm) th.length (caps 501) (vi th) lim _
  rw [gMO_text]
  simp only [bc_t (v5le r.ss), bc_t (v1le th), v5_whole, v1_whole, Qv, eq_self, true_and]
  refine ⟨_, _, ⟨conKS r nm th hlen hth⟩, ?_⟩
  rw [h, bc_nf]
  refine bc_dec (fun _ => trivial) (fun h1 => bc_dec (fun _ => trivial) (fun h2 => absurd ⟨by omega, by omega⟩ hl))
theorem conMO (r : Ru) (nm : List UInt8) (th : List Int) (lim : Int) (v : VR r th) (h : (schP r nm th).2 = 0) (hlim : 0 ≤ lim ∧ lim < 4) : C5 29 [r.d, scD nm th, dI lim] [.sl th.length 2 (vp (tabl (mP r lim) r.st th)), dI 0] := by
  have hl := v.v.len
  have h6 := v.v.n6
  have h4 : lim = 0 ∨ lim = 1 ∨ lim = 2 ∨ lim = 3 := by omega
  refine con_flat hokP mixed Tryz.func29 rfl (by show 2 ≤ 400; omega) rfl (by kernel_rfl) (fun caps => ?_)
  show gMO _ _ r.w r.st r.fi r.hlo r.hhi r.co r.ss.length (caps 500) (vs5 r.ss) r.slo r.shi r.flo r.fhi (bs nm) th.length (caps 501) (vi th) lim _
  rw [gMO_text]
  simp only [bc_t (v5le r.ss), bc_t (v1le th), v5_whole, v1_whole, Qv, eq_self, true_and]
  refine ⟨_, _, ⟨conKS r nm th (by omega) (by omega)⟩, ?_⟩
  rw [h, bc_nf, bc_f (show ¬ lim < 0 by omega), bc_f (show ¬ lim ≥ 4 by omega)]
  rcases h4 with rfl | rfl | rfl | rfl
  · exact ⟨th.length, _, ⟨runEM0 r _ _ nm th v⟩, by simp only [vp_length, tabl_len], rfl⟩
  · exact ⟨th.length, _, ⟨runEM1 r _ _ nm th v⟩, by simp only [vp_length, tabl_len], rfl⟩
  · exact ⟨th.length, _, ⟨runEM2 r _ _ nm th v⟩, by simp only [vp_length, tabl_len], rfl⟩
  · exact ⟨th.length, _, ⟨runEM3 r _ _ nm th v⟩, by simp only [vp_length, tabl_len], rfl⟩
end Go.Proofs.G5o

/- PassMargins in data. -/
namespace Go.Proofs.G5o
open Go Go.Abs Go.Proofs Go.Str
set_option maxRecDepth 100000
theorem conItn : C5 81 [.nil, .nil] [dB true] := by
  refine con_of (L := fun _ s b => zItn1 0 = (s, b)) hokP mixed Tryz.func81 rfl (by show 0 ≤ 400; omega) rfl (ids := [0]) (by kernel_rfl) rfl (fun caps => ?_) (fun id hid => ?_)
  · show gItn _ _ _
    rw [gItn_text]
  · obtain rfl := List.mem_singleton.1 hid
    refine ⟨Unit, fun _ => zItn1 0, fun _ => True, fun _ => 0, ⟨fun s b h => ⟨(), trivial, h⟩, by kernel_rfl, ?_⟩⟩
    intro _ _
    show rItn1 _ _ 0 _ _ _
    rw [rItn1_text]
    refine bc_dec (fun h => absurd h (by decide)) (fun _ => ?_)
    show nItn2 C5 _ (· = [dB true])
    rw [nItn2_text]
theorem tw1 (l : List Int) {n : Nat} (h : l.length = n) : List.take (n * 1) (List.drop 0 (vi l)) = vi l := by subst h; exact v1_whole l
theorem weD_len (r : Ru) : ∀ (l : List Int) (k : Nat) (b : Int) {o : Nat × List Int}, weD r k b l = some o → o.2.length ≤ 4
  | [], _, _, _, h => by cases h
  | t :: l, k, b, o, h => by
    rw [weD] at h
    split at h
    · exact weD_len r l (k + 1) t h
    · obtain rfl := Option.some.inj h
      have : ∀ (l : List (Int × Int)) (i : Int), (wkI i l).length ≤ l.length := by
        intro l
        induction l with
        | nil => intro i; simp [wkI]
        | cons p l ih => intro i; rw [wkI]; have := ih (i + 1); split <;> (simp only [List.length_cons]; omega)
      exact this (mar r k b t) 0
theorem lawGa (r : Ru) (nm : List UInt8) (th : List Int) (lim : Int) (k : Nat) (l : List Int) (hc : (chk r).2 = 0) (hs : (schE r nm th).2 = 0) (hw : weD r 0 r.st th = some (k, l)) : C5 5 [r.d, scD nm th, dI lim] [.val (.bool true)] := by
  refine con_flat hokC2 mixed Tryz.func5 rfl (by show 2 ≤ 400; omega) rfl (by kernel_rfl) (fun caps => ?_)
  show gGa _ _ r.w r.st r.fi r.hlo r.hhi r.co r.ss.length (caps 500) (vs5 r.ss) r.slo r.shi r.flo r.fhi (bs nm) th.length (caps 501) (vi th) lim _
  rw [gGa_text]
  refine .inl ⟨⟨conA⟩, bc_dec (fun h1 => bc_dec (fun h2 => bc_dec (fun h3 => ?_) (fun _ => rfl)) (fun _ => rfl)) (fun _ => rfl)⟩
  simp only [dL, Dw, Tk, v5_whole, v1_whole, bc_t (v5le r.ss), bc_t (v1le th), Qv, eq_self, true_and]
  have v := vr_of hc hs
  have hp : (schP r nm th).2 = 0 := by rw [schP_good hc]; exact hs
  have c1 := concR r (by omega)
  have c2 := concS nm th (by omega)
  have be := conBE r nm th (by omega) (by omega)
  rw [bothP, hp] at be
  have wo := conWO r nm th v hp
  have we := conWe r nm th v
  rw [hw] at wo we
  simp only [weR] at wo we
  have l1 := tabl_len (mP r lim) r.st th
  have z1 : 0 + th.length * 2 ≤ (vp (tabl (mP r lim) r.st th)).length := by rw [vp_length, l1]; omega
  have q1 := conRg (tabl (mP r lim) r.st th) (by omega)
  rw [l1] at q1
  have w4 := weD_len r th 0 r.st hw
  have z2 : 0 + l.length * 1 ≤ (vi l).length := by simp
  have q2 := conIt l (by simp only at w4; omega)
  by_cases hlim : 0 ≤ lim ∧ lim < 4
  · refine ⟨⟨c1⟩, ⟨c2⟩, .inr ⟨_, _, _, ⟨conMO r nm th lim v hp hlim⟩, ⟨c1⟩, ⟨c2⟩, _, _, ⟨conHF r nm th v hp⟩, ⟨c1⟩, ⟨c2⟩, _, _, _, _, ⟨wo⟩, _, ⟨be⟩, ?_⟩⟩
    rw [bc_nf, bc_nf]
    refine ⟨_, ⟨conAn r nm th v⟩, ?_⟩
    rw [bc_nf]
    refine ⟨_, _, _, _, ⟨we⟩, ?_⟩
    simp only [bcT]
    rw [bc_nf, bc_qt, bc_t z2, bc_t z2, tw1 l rfl]
    refine .inl ⟨⟨q2⟩, ?_⟩
    refine .inl ⟨sayWt (by omega), ?_⟩
    rw [bc_qt]
    refine ⟨_, _, ⟨conMg r nm th lim hlim v⟩, ?_⟩
    rw [bc_t z1, bc_t z1, tw2 _ l1]
    exact .inl ⟨⟨q1⟩, trivial⟩
  · refine ⟨⟨c1⟩, ⟨c2⟩, .inl ⟨_, ⟨conMOk r nm th lim (by omega) (by omega) hp hlim⟩, ⟨c1⟩, ⟨c2⟩, _, _, ⟨conHF r nm th v hp⟩, ⟨c1⟩, ⟨c2⟩, _, _, _, _, ⟨wo⟩, _, ⟨be⟩, ?_⟩⟩
    rw [bc_nf, bc_nf]
    refine ⟨_, ⟨conAn r nm th v⟩, ?_⟩
    rw [bc_nf]
    refine ⟨_, _, _, _, ⟨we⟩, ?_⟩
    simp only [bcT]
    rw [bc_nf, bc_qt, bc_t z2, bc_t z2, tw1 l rfl]
    refine .inl ⟨⟨q2⟩, ?_⟩
    refine .inr ⟨sayWf (by omega), ?_⟩
    rw [bc_qt]
    trivial
theorem lawGf (r : Ru) (nm : List UInt8) (th : List Int) (lim : Int) (hc : (chk r).2 = 0) (hs : (schE r nm th).2 = 0) (hw : weD r 0 r.st th = none) : C5 5 [r.d, scD nm th, dI lim] [.val (.bool true)] := by
  refine con_flat hokD2 mixed Tryz.func5 rfl (by show 2 ≤ 400; omega) rfl (by kernel_rfl) (fun caps => ?_)
  show gGf _ _ r.w r.st r.fi r.hlo r.hhi r.co r.ss.length (caps 500) (vs5 r.ss) r.slo r.shi r.flo r.fhi (bs nm) th.length (caps 501) (vi th) lim _
  rw [gGf_text]
  refine .inl ⟨⟨conA⟩, bc_dec (fun h1 => bc_dec (fun h2 => bc_dec (fun h3 => ?_) (fun _ => rfl)) (fun _ => rfl)) (fun _ => rfl)⟩
  simp only [dL, Dw, Tk, v5_whole, v1_whole, bc_t (v5le r.ss), bc_t (v1le th), Qv, eq_self, true_and]
  have v := vr_of hc hs
  have hp : (schP r nm th).2 = 0 := by rw [schP_good hc]; exact hs
  have c1 := concR r (by omega)
  have c2 := concS nm th (by omega)
  have be := conBE r nm th (by omega) (by omega)
  rw [bothP, hp] at be
  have wo := conWO r nm th v hp
  have we := conWe r nm th v
  rw [hw] at wo we
  simp only [weR] at wo we
  have l1 := tabl_len (mP r lim) r.st th
  have z1 : 0 + th.length * 2 ≤ (vp (tabl (mP r lim) r.st th)).length := by rw [vp_length, l1]; omega
  have q1 := conRg (tabl (mP r lim) r.st th) (by omega)
  rw [l1] at q1
  by_cases hlim : 0 ≤ lim ∧ lim < 4
  · refine ⟨⟨c1⟩, ⟨c2⟩, .inr ⟨_, _, _, ⟨conMO r nm th lim v hp hlim⟩, ⟨c1⟩, ⟨c2⟩, _, _, ⟨conHF r nm th v hp⟩, ⟨c1⟩, ⟨c2⟩, _, _, ⟨wo⟩, _, ⟨be⟩, ?_⟩⟩
    rw [bc_nf, bc_nf]
    refine ⟨_, ⟨conAn r nm th v⟩, ?_⟩
    rw [bc_nf]
    refine ⟨_, _, ⟨we⟩, ?_⟩
    simp only [bcF]
    rw [bc_nf, bc_qt]
    refine .inl ⟨⟨conItn⟩, ?_⟩
    refine .inl ⟨sayWt (by omega), ?_⟩
    rw [bc_qt]
    refine ⟨_, _, ⟨conMg r nm th lim hlim v⟩, ?_⟩
    rw [bc_t z1, bc_t z1, tw2 _ l1]
    exact .inl ⟨⟨q1⟩, trivial⟩
  · refine ⟨⟨c1⟩, ⟨c2⟩, .inl ⟨_, ⟨conMOk r nm th lim (by omega) (by omega) hp hlim⟩, ⟨c1⟩, ⟨c2⟩, _, _, ⟨conHF r nm th v hp⟩, ⟨c1⟩, ⟨c2⟩, _, _, ⟨wo⟩, _, ⟨be⟩, ?_⟩⟩
    rw [bc_nf, bc_nf]
    refine ⟨_, ⟨conAn r nm th v⟩, ?_⟩
    rw [bc_nf]
    refine ⟨_, _, ⟨we⟩, ?_⟩
    simp only [bcF]
    rw [bc_nf, bc_qt]
    refine .inl ⟨⟨conItn⟩, ?_⟩
    refine .inr ⟨sayWf (by omega), ?_⟩
    rw [bc_qt]
    trivial
theorem lawGb (r : Ru) (nm : List UInt8) (th : List Int) (lim : Int) (hp : (schP r nm th).2 ≠ 0) : C5 5 [r.d, scD nm th, dI lim] [.val (.bool true)] := by
  refine con_flat hokB2 mixed Tryz.func5 rfl (by show 2 ≤ 400; omega) rfl (by kernel_rfl) (fun caps => ?_)
  show gGb _ _ r.w r.st r.fi r.hlo r.hhi r.co r.ss.length (caps 500) (vs5 r.ss) r.slo r.shi r.flo r.fhi (bs nm) th.length (caps 501) (vi th) lim _
  rw [gGb_text]
  refine .inl ⟨⟨conA⟩, bc_dec (fun h1 => bc_dec (fun h2 => bc_dec (fun h3 => ?_) (fun _ => rfl)) (fun _ => rfl)) (fun _ => rfl)⟩
  simp only [dL, Dw, Tk, v5_whole, v1_whole, bc_t (v5le r.ss), bc_t (v1le th), Qv, eq_self, true_and]
  have c1 := concR r (by omega)
  have c2 := concS nm th (by omega)
  have be := conBE r nm th (by omega) (by omega)
  rw [bothP] at be
  have f1 := conMOb r nm th lim (by omega) (by omega) hp
  have f2 := conHFb r nm th (by omega) (by omega) hp
  have f3 := conWOb r nm th (by omega) (by omega) hp
  refine ⟨⟨c1⟩, ⟨c2⟩, _, ⟨f1⟩, ⟨c1⟩, ⟨c2⟩, _, _, ⟨f2⟩, ⟨c1⟩, ⟨c2⟩, _, _, ⟨f3⟩, _, ⟨be⟩, ?_⟩
  rw [bc_n hp, bc_qt, bc_qt, bc_qt, bc_qt, bc_qt]
  exact .inl ⟨⟨conItn⟩, trivial⟩
theorem lawGc2 (r : Ru) (nm : List UInt8) (lim : Int) : C5 5 [r.d, scN nm, dI lim] [.val (.bool true)] := by
  refine con_flat hokB2 mixed Tryz.func5 rfl (by show 1 ≤ 400; omega) rfl (by kernel_rfl) (fun caps => ?_)
  show gGc2 _ _ r.w r.st r.fi r.hlo r.hhi r.co r.ss.length (caps 500) (vs5 r.ss) r.slo r.shi r.flo r.fhi (bs nm) lim _
  rw [gGc2_text]
  refine .inl ⟨⟨conA⟩, bc_dec (fun h1 => bc_dec (fun h3 => ?_) (fun _ => rfl)) (fun _ => rfl)⟩
  simp only [dL, Dw, Tk, v5_whole, bc_t (v5le r.ss), Qv, eq_self, true_and]
  have hp : (schP r nm []).2 ≠ 0 := by
    intro h
    rw [← bothP] at h
    split at h
    · rename_i hc; exact schE_nil nm (chk_pos hc) h
    · rename_i hc; exact hc h
  have c1 := concR r (by omega)
  have c2 := concSn nm
  have be := conBEn r nm (by omega)
  rw [bothP] at be
  have f1 := conMOb r nm [] lim (by omega) (by simp) hp
  have f2 := conHFb r nm [] (by omega) (by simp) hp
  have f3 := conWOb r nm [] (by omega) (by simp) hp
  refine ⟨⟨c1⟩, ⟨c2⟩, _, ⟨f1⟩, ⟨c1⟩, ⟨c2⟩, _, _, ⟨f2⟩, ⟨c1⟩, ⟨c2⟩, _, _, ⟨f3⟩, _, ⟨be⟩, ?_⟩
  rw [bc_n hp, bc_qt, bc_qt, bc_qt, bc_qt, bc_qt]
  exact .inl ⟨⟨conItn⟩, trivial⟩
theorem lawGd (r : Ru) (hr : r.ss = []) (nm : List UInt8) (th : List Int) (lim : Int) : C5 5 [r.dn, scD nm th, dI lim] [.val (.bool true)] := by
  refine con_flat hokB2 mixed Tryz.func5 rfl (by show 1 ≤ 400; omega) rfl (by kernel_rfl) (fun caps => ?_)
  show gGd _ _ r.w r.st r.fi r.hlo r.hhi r.co r.slo r.shi r.flo r.fhi (bs nm) th.length (caps 500) (vi th) lim _
  rw [gGd_text]
  refine .inl ⟨⟨conA⟩, bc_dec (fun h2 => bc_dec (fun h3 => ?_) (fun _ => rfl)) (fun _ => rfl)⟩
  simp only [dL, Dw, Tk, v1_whole, bc_t (v1le th), Qv, eq_self, true_and]
  have hp : (schP r nm th).2 ≠ 0 := by rw [schP_nil hr]; exact chk_nil hr
  have c1 := concRn r hr
  have c2 := concS nm th (by omega)
  have be := conBEm r hr nm th
  rw [← schP_nil hr nm th] at be
  have f1 := conMOb r nm th lim (by rw [hr]; simp) (by omega) hp
  have f2 := conHFb r nm th (by rw [hr]; simp) (by omega) hp
  have f3 := conWOb r nm th (by rw [hr]; simp) (by omega) hp
  simp only [Ru.d, hr, List.length_nil, vs5] at c1 f1 f2 f3
  refine ⟨⟨c1⟩, ⟨c2⟩, _, ⟨f1⟩, ⟨c1⟩, ⟨c2⟩, _, _, ⟨f2⟩, ⟨c1⟩, ⟨c2⟩, _, _, ⟨f3⟩, _, ⟨be⟩, ?_⟩
  rw [bc_n hp, bc_qt, bc_qt, bc_qt, bc_qt, bc_qt]
  exact .inl ⟨⟨conItn⟩, trivial⟩
theorem lawGe (r : Ru) (hr : r.ss = []) (nm : List UInt8) (lim : Int) : C5 5 [r.dn, scN nm, dI lim] [.val (.bool true)] := by
  refine con_flat hokB2 mixed Tryz.func5 rfl (by show 0 ≤ 400; omega) rfl (by kernel_rfl) (fun caps => ?_)
  show gGe _ _ r.w r.st r.fi r.hlo r.hhi r.co r.slo r.shi r.flo r.fhi (bs nm) lim _
  rw [gGe_text]
  refine .inl ⟨⟨conA⟩, bc_dec (fun h3 => ?_) (fun _ => rfl)⟩
  simp only [Qv, eq_self, true_and]
  have hp : (schP r nm []).2 ≠ 0 := by rw [schP_nil hr]; exact chk_nil hr
  have c1 := concRn r hr
  have c2 := concSn nm
  have be := conBEk r hr nm
  rw [← schP_nil hr nm []] at be
  have f1 := conMOb r nm [] lim (by rw [hr]; simp) (by simp) hp
  have f2 := conHFb r nm [] (by rw [hr]; simp) (by simp) hp
  have f3 := conWOb r nm [] (by rw [hr]; simp) (by simp) hp
  simp only [Ru.d, hr, List.length_nil, vs5] at c1 f1 f2 f3
  refine ⟨⟨c1⟩, ⟨c2⟩, _, ⟨f1⟩, ⟨c1⟩, ⟨c2⟩, _, _, ⟨f2⟩, ⟨c1⟩, ⟨c2⟩, _, _, ⟨f3⟩, _, ⟨be⟩, ?_⟩
  rw [bc_n hp, bc_qt, bc_qt, bc_qt, bc_qt, bc_qt]
  exact .inl ⟨⟨conItn⟩, trivial⟩
theorem lawG (r : Ru) (nm : List UInt8) (th : List Int) (lim : Int) : C5 5 [r.d, scD nm th, dI lim] [.val (.bool true)] := by
  by_cases hp : (schP r nm th).2 = 0
  · have h := hp
    rw [← bothP] at h
    split at h
    · rename_i hc
      cases hw : weD r 0 r.st th with
      | none => exact lawGf r nm th lim hc h hw
      | some o => exact lawGa r nm th lim o.1 o.2 hc h hw
    · rename_i hc; exact absurd h hc
  · exact lawGb r nm th lim hp
theorem lawGc (r : Ru) (nm : List UInt8) (lim : Int) : C5 5 [r.d, scN nm, dI lim] [.val (.bool true)] := lawGc2 r nm lim
theorem lawGq (r : Ru) (hr : r.ss = []) (nm : List UInt8) (lim : Int) : C5 5 [r.dn, scN nm, dI lim] [.val (.bool true)] := lawGe r hr nm lim
end Go.Proofs.G5o

/- PassMargins: whatever the input, it returns true, and the input reads as it did. No condition. -/
namespace Go.Proofs.YteadiejdhplokaaGreat.K
open Go Go.Abs Go.RowKit Go.ChangeShapes Go.WideShapes Go.ChangeAt Go.Proofs Go.Flat Go.Proofs.G5o
set_option maxRecDepth 100000
namespace PassMargins
abbrev shs : List Sh := [.agg [3, 3, 3, 3, 3, 3, 24, 3, 3, 3, 3], .agg [9, 27], .one 3]
theorem shapes : Tryz.f5.params.toList.mapM (argSh Tryz.prog) = some shs := by kernel_rfl
theorem all (ds : List D) (h : ShDs Tryz.prog shs ds) : Con Tryz.prog 5 ds [.val (.bool true)] := by
  cases h with | cons h1 t => cases t with | cons h2 t => cases t with | cons h3 t =>
  cases t
  obtain ⟨d1, rfl, h1⟩ := h1
  obtain ⟨d2, rfl, h2⟩ := h2
  obtain ⟨n, rfl, _⟩ := leaf_int Tryz.underlying3 h3
  cases h1 with | cons p1 t => cases t with | cons p2 t => cases t with | cons p3 t => cases t with | cons p4 t => cases t with | cons p5 t => cases t with | cons p6 t => cases t with | cons p7 t => cases t with | cons p8 t => cases t with | cons p9 t => cases t with | cons p10 t => cases t with | cons p11 t =>
  cases t
  cases h2 with | cons r1 t => cases t with | cons r2 t =>
  cases t
  obtain ⟨x1, rfl, _⟩ := leaf_int Tryz.underlying3 p1
  obtain ⟨x2, rfl, _⟩ := leaf_int Tryz.underlying3 p2
  obtain ⟨x3, rfl, _⟩ := leaf_int Tryz.underlying3 p3
  obtain ⟨x4, rfl, _⟩ := leaf_int Tryz.underlying3 p4
  obtain ⟨x5, rfl, _⟩ := leaf_int Tryz.underlying3 p5
  obtain ⟨x6, rfl, _⟩ := leaf_int Tryz.underlying3 p6
  obtain ⟨x8, rfl, _⟩ := leaf_int Tryz.underlying3 p8
  obtain ⟨x9, rfl, _⟩ := leaf_int Tryz.underlying3 p9
  obtain ⟨x10, rfl, _⟩ := leaf_int Tryz.underlying3 p10
  obtain ⟨x11, rfl, _⟩ := leaf_int Tryz.underlying3 p11
  obtain ⟨nm, rfl⟩ := leaf_str Tryz.underlying9 r1
  rcases leaf_fvs Tryz.underlying24 (by kernel_rfl) p7 with rfl | ⟨T, rfl⟩
  · rcases leaf_ints Tryz.underlying27 (by kernel_rfl) r2 with rfl | ⟨R, rfl⟩
    · exact lawGq ⟨x1, x2, x3, x4, x5, x6, [], x8, x9, x10, x11⟩ rfl nm n
    · exact lawGd ⟨x1, x2, x3, x4, x5, x6, [], x8, x9, x10, x11⟩ rfl nm R n
  · rcases leaf_ints Tryz.underlying27 (by kernel_rfl) r2 with rfl | ⟨R, rfl⟩
    · exact lawGc ⟨x1, x2, x3, x4, x5, x6, T, x8, x9, x10, x11⟩ nm n
    · exact lawG ⟨x1, x2, x3, x4, x5, x6, T, x8, x9, x10, x11⟩ nm R n
theorem lifted (os : Os) (started : os.Started) (H : Type) (enc : TypeId × Value → H) :
    ReturnsInHanded {} Tryz.checked os 5 .any (Rows.passMarginsSpec.pre6 enc Tryz.prog Tryz.f5 Rows.passMarginsRow.domain false) (Rows.passMarginsSpec.post enc Tryz.prog Tryz.f5 false true false false) := by
  refine returnsInHanded_of_change (C := Tryz.checked) own started (by kernel_rfl) Tryz.func5
    (ChangeSpec.witness6 (enc := enc) (C := Tryz.checked) false ⟨#[], #[.agg #[.int .i64 0, .int .i64 0, .int .i64 0, .int .i64 0, .int .i64 0, .int .i64 0, .slice none 0 0, .int .i64 0, .int .i64 0, .int .i64 0, .int .i64 0], .agg #[.string ⟨#[]⟩, .slice none 0 0], .int .i64 0], []⟩ 8 (by kernel_rfl) (by kernel_rfl) (by kernel_rfl) (by kernel_rfl)) ?_
  intro W base args ds gs before hval hW _ _
  exact law_shapes (tb := 4) (s := Rows.passMarginsSpec) shapes all laidP mapsP slicesP (tsP (by kernel_rfl)) rfl Tryz.underlying4 rfl (fun ds h => by
    match ds, h with
    | [_, _, _], _ => exact ⟨rfl, rfl, rfl⟩) hval hW (good0 W)
theorem holds : Rows.PassMarginsSaid :=
  OpenClaim.holds_of_wide 5 Tryz.f5 rfl rfl rfl rfl rfl rfl rfl ⟨rfl, rfl, rfl, rfl, rfl⟩ rfl rfl rfl rfl rfl (by kernel_rfl) Tryz.func5 (by kernel_rfl)
    (of_decide_eq_true (by kernel_rfl)) (by unfold Func.isWrapper; first | (rw [if_pos (by decide +kernel)]; kernel_rfl) | (rw [if_neg (by decide +kernel)]; exact ⟨rfl, rfl⟩))
    (fun os started H enc _ => lifted os started H enc)
#print axioms holds
end PassMargins
end Go.Proofs.YteadiejdhplokaaGreat.K
