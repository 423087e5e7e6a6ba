/- Chapter 1: names, slabs and orders, as they are specified. -/
import Derived.Test.YtnnbkhijgbmgaaaGreatDoorAbsUse
namespace Go.Proofs.C1
open Go Go.Abs
/-- A byte of a name at an index. -/
def letter (n : Nat) : Prop := (97 ≤ n ∧ n ≤ 122) ∨ (65 ≤ n ∧ n ≤ 90)
instance (n : Nat) : Decidable (letter n) := by unfold letter; infer_instance
def nameB (i n : Nat) : Prop := letter n ∨ (i ≠ 0 ∧ (n = 45 ∨ (48 ≤ n ∧ n ≤ 57)))
instance (i n : Nat) : Decidable (nameB i n) := by unfold nameB; infer_instance
structure NameOk (s : ByteArray) : Prop where
  lo : 1 ≤ s.size
  hi : s.size ≤ 12
  all : ∀ i b, s[i]? = some b → nameB i b.toNat
open Classical in
noncomputable def nameOk (s : ByteArray) : Bool := decide (NameOk s)
theorem nameOk_true {s : ByteArray} (h : NameOk s) : nameOk s = true := by simp [nameOk, h]
theorem nameOk_false {s : ByteArray} (h : ¬ NameOk s) : nameOk s = false := by simp [nameOk, h]
/-- The error of a slab, of an order. -/
noncomputable def slabE (s : ByteArray) (g t w l : Int) : Int :=
  bif nameOk s then (if (1 ≤ g ∧ g ≤ 99) ∧ (1 ≤ t ∧ t ≤ 300000) ∧ (500 ≤ w ∧ w ≤ 2500) ∧ 1 ≤ l ∧ l ≤ 20000 then 0 else 2) else 4
noncomputable def orderE (s : ByteArray) (g t tol w lo hi due : Int) : Int :=
  bif nameOk s then
    (if (1 ≤ g ∧ g ≤ 99) ∧ (1 ≤ t ∧ t ≤ 300000) ∧ (0 ≤ tol ∧ tol ≤ t - 1) ∧ (500 ≤ w ∧ w ≤ 2500) ∧ (0 ≤ lo ∧ lo ≤ 20000) ∧ 0 ≤ hi ∧ hi ≤ 20000 then
      (if lo > hi then 9 else if lo % 10 ≠ 0 ∨ hi % 10 ≠ 0 then 3 else if 0 ≤ due ∧ due ≤ 100000 then 0 else 2) else 2) else 4
end Go.Proofs.C1
