/- Small laws for the use of texts. -/
import Derived.Test.YtiahlinolhpecaaAbsLoop
import Derived.IntWalk
namespace Go.Abs
theorem bc_true {b : Bool} {x y : Prop} (h : b = true) (hx : x) : bcase b x y := by rw [h]; exact hx
theorem bc_false {b : Bool} {x y : Prop} (h : b = false) (hy : y) : bcase b x y := by rw [h]; exact hy
theorem bc_dec {p : Prop} [Decidable p] {x y : Prop} (h1 : p → x) (h2 : ¬ p → y) : bcase (decide p) x y := bcase_intro (fun h => h1 (of_decide_eq_true h)) (fun h => h2 (of_decide_eq_false h))
theorem bc_yes {p : Prop} [Decidable p] {x y : Prop} (h : p) (hx : x) : bcase (decide p) x y := bc_dec (fun _ => hx) (fun n => absurd h n)
theorem bc_no {p : Prop} [Decidable p] {x y : Prop} (h : ¬ p) (hy : y) : bcase (decide p) x y := bc_dec (fun n => absurd n h) (fun _ => hy)
theorem bc_beq {α : Type} [BEq α] [LawfulBEq α] {a b : α} {x y : Prop} (h1 : a = b → x) (h2 : a ≠ b → y) : bcase (a == b) x y := bcase_intro (fun h => h1 (eq_of_beq h)) (fun h => h2 (by simpa using h))
theorem bc_bne {α : Type} [BEq α] [LawfulBEq α] {a b : α} {x y : Prop} (h1 : a ≠ b → x) (h2 : a = b → y) : bcase (a != b) x y := bcase_intro (fun h => h1 (by simpa using h)) (fun h => h2 (by simpa using h))
theorem w64 {z : Int} (h1 : -9223372036854775808 ≤ z) (h2 : z ≤ 9223372036854775807) : IntKind.wrap .i64 z = z := by
  exact IntWalk.i64_in z ⟨h1, h2⟩
/-- whole numbers as cells -/
def vi (l : List Int) : List Value := l.map (Value.int .i64)
@[simp] theorem vi_length (l : List Int) : (vi l).length = l.length := by simp [vi]
theorem vi_at (l : List Int) (i : Nat) (h : i < l.length) : At (vi l) (0 + i * 1) 1 [.int .i64 l[i]] := by
  refine ⟨by simp; omega, ?_⟩
  apply List.ext_getElem?
  intro j
  cases j with
  | zero => simp [vi, h]
  | succ j => simp; omega
theorem vi_whole (l : List Int) : List.take (l.length * 1) (List.drop 0 (vi l)) = vi l := by simp [List.take_of_length_le]
theorem vi_cell (l : List Int) : ∀ v ∈ vi l, cellP v = true := by
  intro v hv
  obtain ⟨n, _, rfl⟩ := List.mem_map.1 hv
  rfl
end Go.Abs
