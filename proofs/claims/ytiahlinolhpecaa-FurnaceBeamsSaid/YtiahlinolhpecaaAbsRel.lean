/- Values of the evaluator against values of the machine. -/
import Derived.Test.YtiahlinolhpecaaAbsEval
import Derived.Below
namespace Go.Abs
open Go.RowKit

/-! ### The tree -/
theorem Tree.get_set {α : Type} : ∀ (f : Nat) (t : Tree α) (n : Nat) (a : α) (m : Nat), n < f → (t.set f n a).get m = if m = n then some a else t.get m := by
  intro f
  induction f with
  | zero => intro t n a m h; omega
  | succ f ih =>
    intro t n a m h
    cases t with
    | leaf =>
      simp only [Tree.set]
      split
      · subst n
        cases m with
        | zero => simp [Tree.get]
        | succ m => simp only [Tree.get]; split <;> simp_all
      · split
        · simp only [Tree.get]
          by_cases hm : m = 0
          · subst m; simp; omega
          · simp only [hm, if_false]
            split
            · rw [ih _ _ _ _ (by omega)]
              by_cases e : m = n
              · simp [e]
              · have : m / 2 ≠ n / 2 := by omega
                simp [e, this, Tree.get]
            · have : m ≠ n := by omega
              simp [this]
        · simp only [Tree.get]
          by_cases hm : m = 0
          · subst m; simp; omega
          · simp only [hm, if_false]
            split
            · have : m ≠ n := by omega
              simp [this]
            · rw [ih _ _ _ _ (by omega)]
              by_cases e : m = n
              · simp [e]
              · have : m / 2 - 1 ≠ n / 2 - 1 := by omega
                simp [e, this, Tree.get]
    | node v l r =>
      simp only [Tree.set]
      split
      · subst n
        simp only [Tree.get]
        split <;> simp_all
      · split
        · simp only [Tree.get]
          by_cases hm : m = 0
          · subst m; simp; omega
          · simp only [hm, if_false]
            split
            · rw [ih _ _ _ _ (by omega)]
              by_cases e : m = n
              · simp [e]
              · have : m / 2 ≠ n / 2 := by omega
                simp [e, this]
            · have : m ≠ n := by omega
              simp [this]
        · simp only [Tree.get]
          by_cases hm : m = 0
          · subst m; simp; omega
          · simp only [hm, if_false]
            split
            · have : m ≠ n := by omega
              simp [this]
            · rw [ih _ _ _ _ (by omega)]
              by_cases e : m = n
              · simp [e]
              · have : m / 2 - 1 ≠ n / 2 - 1 := by omega
                simp [e, this]

theorem Heap.get_set (H : Heap) (i j : Nat) (o : AObj) : (H.set i o).get j = if j = i then some o else H.get j := Tree.get_set _ _ _ _ _ (by omega)
theorem Heap.get_new (H : Heap) (j : Nat) (o : AObj) : (H.new o).get j = if j = H.next then some o else H.get j := Tree.get_set _ _ _ _ _ (by omega)
@[simp] theorem Heap.next_set (H : Heap) (i : Nat) (o : AObj) : (H.set i o).next = H.next := rfl
@[simp] theorem Heap.next_new (H : Heap) (o : AObj) : (H.new o).next = H.next + 1 := rfl

/-! ### Values -/
/-- Where an abstract block lies. -/
structure Meta where
  b : Nat
  o : Nat
  known : Nat
  opn : Bool
  es : Nat
  size : Nat
  hw : o + known ≤ size
def Meta.isOpen (m : Meta) (k cap : Nat) : Bool := m.opn && k + cap * m.es == m.known
abbrev Ren := Nat → Option Meta

inductive VR (ρ : Ren) : Value → Value → Prop
  | bool (b : Bool) : VR ρ (.bool b) (.bool b)
  | int (k : IntKind) (n : Int) : VR ρ (.int k n) (.int k n)
  | float (k : FloatKind) (n : Nat) : VR ρ (.float k n) (.float k n)
  | complex (k : FloatKind) (n m : Nat) : VR ρ (.complex k n m) (.complex k n m)
  | string (s : ByteArray) : VR ρ (.string s) (.string s)
  | nilFunc : VR ρ .nilFunc .nilFunc
  | nilIface : VR ρ .nilIface .nilIface
  | nilPtr : VR ρ (.pointer none) (.pointer none)
  | nilSlice (l c : Nat) : VR ρ (.slice none l c) (.slice none l c)
  | nilMap : VR ρ (.map none) (.map none)
  | unknown (r : Option Nat) (v : Value) : VR ρ (.chan r) v
  | glob (g k : Nat) (h : g < abase) : VR ρ (.pointer (some ⟨g, k, none⟩)) (.pointer (some ⟨g, k, none⟩))
  | ptr (i k : Nat) (m : Meta) (h : ρ i = some m) : VR ρ (.pointer (some ⟨i, k, none⟩)) (.pointer (some ⟨m.b, m.o + k, none⟩))
  | map (i : Nat) (m : Meta) (h : ρ i = some m) : VR ρ (.map (some i)) (.map (some m.b))
  | slice (i k len cap : Nat) (m : Meta) (h : ρ i = some m) (ho : m.isOpen k cap = false) :
      VR ρ (.slice (some ⟨i, k, none⟩) len cap) (.slice (some ⟨m.b, m.o + k, none⟩) len cap)
  | opened (i k len cap capC : Nat) (m : Meta) (h : ρ i = some m) (ho : m.isOpen k cap = true) (hc : cap ≤ capC) (hs : m.o + k + capC * m.es ≤ m.size) :
      VR ρ (.slice (some ⟨i, k, none⟩) len cap) (.slice (some ⟨m.b, m.o + k, none⟩) len capC)
  | empty (i k off : Nat) (m : Meta) (h : ρ i = some m) (ho : m.isOpen k 0 = true) (hz : off ≤ m.size) :
      VR ρ (.slice (some ⟨i, k, none⟩) 0 0) (.slice (some ⟨m.b, off, none⟩) 0 0)
  | func (f : FuncId) (a b a' b' : Array Value) (ha : a.size = a'.size) (hb : b.size = b'.size)
      (ra : ∀ j, j < a.size → VR ρ (a.getD j undef) (a'.getD j undef)) (rb : ∀ j, j < b.size → VR ρ (b.getD j undef) (b'.getD j undef)) :
      VR ρ (.func (.func f) a b) (.func (.func f) a' b')
  | yield (l : Nat) (m : Meta) (h : ρ l = some m) : VR ρ (.func (.yield l) #[] #[]) (.func (.yield m.b) #[] #[])
  | iface (t : TypeId) (v v' : Value) (h : VR ρ v v') : VR ρ (.iface t v) (.iface t v')
  | agg (a a' : Array Value) (ha : a.size = a'.size) (ra : ∀ j, j < a.size → VR ρ (a.getD j undef) (a'.getD j undef)) : VR ρ (.agg a) (.agg a')
  | tuple (a a' : Array Value) (ha : a.size = a'.size) (ra : ∀ j, j < a.size → VR ρ (a.getD j undef) (a'.getD j undef)) : VR ρ (.tuple a) (.tuple a')

def Ren.le (ρ ρ' : Ren) : Prop := ∀ i m, ρ i = some m → ρ' i = some m
theorem Ren.le_refl (ρ : Ren) : ρ.le ρ := fun _ _ h => h
theorem Ren.le_trans {a b c : Ren} (h : a.le b) (k : b.le c) : a.le c := fun i m e => k i m (h i m e)

theorem VR.mono {ρ ρ' : Ren} (h : ρ.le ρ') {v v' : Value} (hv : VR ρ v v') : VR ρ' v v' := by
  induction hv with
  | bool b => exact .bool b
  | int k n => exact .int k n
  | float k n => exact .float k n
  | complex k n m => exact .complex k n m
  | string s => exact .string s
  | nilFunc => exact .nilFunc
  | nilIface => exact .nilIface
  | nilPtr => exact .nilPtr
  | nilSlice l c => exact .nilSlice l c
  | nilMap => exact .nilMap
  | unknown r v => exact .unknown r v
  | glob g k h => exact .glob g k h
  | ptr i k m e => exact .ptr i k m (h _ _ e)
  | map i m e => exact .map i m (h _ _ e)
  | slice i k len cap m e ho => exact .slice i k len cap m (h _ _ e) ho
  | opened i k len cap capC m e ho hc hs => exact .opened i k len cap capC m (h _ _ e) ho hc hs
  | empty i k off m e ho hz => exact .empty i k off m (h _ _ e) ho hz
  | func f a b a' b' ha hb _ _ iha ihb => exact .func f a b a' b' ha hb iha ihb
  | yield l m e => exact .yield l m (h _ _ e)
  | iface t v v' _ ih => exact .iface t v v' ih
  | agg a a' ha _ ih => exact .agg a a' ha ih
  | tuple a a' ha _ ih => exact .tuple a a' ha ih

theorem VR.undef (ρ : Ren) : VR ρ undef undef := .tuple #[] #[] rfl (fun _ h => absurd h (by simp))

/-! ### Lists of values -/
inductive LR (ρ : Ren) : List Value → List Value → Prop
  | nil : LR ρ [] []
  | cons {v v' : Value} {l l' : List Value} (h : VR ρ v v') (t : LR ρ l l') : LR ρ (v :: l) (v' :: l')

namespace LR
variable {ρ : Ren}
theorem length {l l' : List Value} (h : LR ρ l l') : l.length = l'.length := by induction h <;> simp_all
theorem mono {ρ' : Ren} (hr : ρ.le ρ') {l l' : List Value} (h : LR ρ l l') : LR ρ' l l' := by
  induction h with
  | nil => exact .nil
  | cons h _ ih => exact .cons (h.mono hr) ih
theorem append {a a' b b' : List Value} (h : LR ρ a a') (k : LR ρ b b') : LR ρ (a ++ b) (a' ++ b') := by
  induction h with
  | nil => exact k
  | cons h _ ih => exact .cons h ih
theorem take {l l' : List Value} (h : LR ρ l l') : ∀ n, LR ρ (l.take n) (l'.take n) := by
  induction h with
  | nil => intro n; simp; exact .nil
  | cons h _ ih => intro n; cases n with
    | zero => exact .nil
    | succ n => exact .cons h (ih n)
theorem drop {l l' : List Value} (h : LR ρ l l') : ∀ n, LR ρ (l.drop n) (l'.drop n) := by
  induction h with
  | nil => intro n; simp; exact .nil
  | cons h t ih => intro n; cases n with
    | zero => exact .cons h t
    | succ n => exact ih n
theorem get {l l' : List Value} (h : LR ρ l l') : ∀ {n : Nat} {v : Value}, l[n]? = some v → ∃ v', l'[n]? = some v' ∧ VR ρ v v' := by
  induction h with
  | nil => intro n v e; simp at e
  | cons h _ ih => intro n v e; cases n with
    | zero => simp at e; subst e; exact ⟨_, rfl, h⟩
    | succ n => exact ih (by simpa using e)
theorem of_get : ∀ {l l' : List Value}, l.length = l'.length → (∀ j, j < l.length → VR ρ (l.getD j Go.undef) (l'.getD j Go.undef)) → LR ρ l l'
  | [], [], _, _ => .nil
  | [], _ :: _, h, _ => by simp at h
  | _ :: _, [], h, _ => by simp at h
  | a :: l, b :: l', h, r => .cons (by simpa using r 0 (by simp)) (of_get (by simpa using h) (fun j hj => by simpa using r (j + 1) (by simpa using hj)))
theorem getD {l l' : List Value} (h : LR ρ l l') (j : Nat) : VR ρ (l.getD j Go.undef) (l'.getD j Go.undef) := by
  induction h generalizing j with
  | nil => simpa using VR.undef ρ
  | cons h _ ih => cases j with
    | zero => simpa using h
    | succ j => simpa using ih j
end LR

theorem arrD (a : Array Value) (j : Nat) : a.getD j undef = a.toList.getD j undef := by
  simp [Array.getD_eq_getD_getElem?, List.getD_eq_getElem?_getD]

theorem LR.of_arr {ρ : Ren} {a a' : Array Value} (h : a.size = a'.size) (r : ∀ j, j < a.size → VR ρ (a.getD j undef) (a'.getD j undef)) : LR ρ a.toList a'.toList :=
  .of_get (by simpa using h) (fun j hj => by rw [← arrD, ← arrD]; exact r j (by simpa using hj))
theorem LR.arr {ρ : Ren} {a a' : Array Value} (h : LR ρ a.toList a'.toList) (j : Nat) : VR ρ (a.getD j undef) (a'.getD j undef) := by
  rw [arrD, arrD]; exact h.getD j
theorem LR.size {ρ : Ren} {a a' : Array Value} (h : LR ρ a.toList a'.toList) : a.size = a'.size := by simpa using h.length
theorem VR.agg' {ρ : Ren} {a a' : Array Value} (h : LR ρ a.toList a'.toList) : VR ρ (.agg a) (.agg a') := .agg _ _ h.size (fun j _ => h.arr j)
theorem VR.tuple' {ρ : Ren} {a a' : Array Value} (h : LR ρ a.toList a'.toList) : VR ρ (.tuple a) (.tuple a') := .tuple _ _ h.size (fun j _ => h.arr j)
theorem VR.func' {ρ : Ren} {f : FuncId} {a a' b b' : Array Value} (h : LR ρ a.toList a'.toList) (k : LR ρ b.toList b'.toList) : VR ρ (.func (.func f) a b) (.func (.func f) a' b') :=
  .func _ _ _ _ _ h.size k.size (fun j _ => h.arr j) (fun j _ => k.arr j)

/-! ### Plain values -/
theorem LR.plain {ρ : Ren} {n : Nat} (hrefl : ∀ v, plain n v = true → VR ρ v v) : ∀ l : List Value, l.all (plain n) = true → LR ρ l l
  | [], _ => .nil
  | v :: l, h => by
    simp only [List.all_cons, Bool.and_eq_true] at h
    exact .cons (hrefl v h.1) (LR.plain hrefl l h.2)
theorem LR.plain_eq {ρ : Ren} {n : Nat} (heq : ∀ v v', Abs.plain n v = true → VR ρ v v' → v' = v) : ∀ {l l' : List Value}, LR ρ l l' → l.all (Abs.plain n) = true → l' = l := by
  intro l l' h
  induction h with
  | nil => intro _; rfl
  | cons h _ ih =>
    intro hp
    simp only [List.all_cons, Bool.and_eq_true] at hp
    rw [heq _ _ hp.1 h, ih hp.2]

theorem plain_refl (ρ : Ren) : ∀ (n : Nat) (v : Value), plain n v = true → VR ρ v v := by
  intro n
  induction n with
  | zero => intro v h; simp [plain] at h
  | succ n ih =>
    intro v h
    cases v with
    | bool b => exact .bool b
    | int k m => exact .int k m
    | float k m => exact .float k m
    | complex k a b => exact .complex k a b
    | string s => exact .string s
    | pointer a => cases a with
      | none => exact .nilPtr
      | some a => simp [plain] at h
    | slice a l c => cases a with
      | none => exact .nilSlice l c
      | some a => simp [plain] at h
    | map r => cases r with
      | none => exact .nilMap
      | some a => simp [plain] at h
    | chan r => exact .unknown r _
    | nilFunc => exact .nilFunc
    | nilIface => exact .nilIface
    | iface t x => exact .iface t x x (ih x (by simpa [plain] using h))
    | agg cs => exact VR.agg' (LR.plain ih _ (by simpa [plain] using h))
    | tuple cs => exact VR.tuple' (LR.plain ih _ (by simpa [plain] using h))
    | func f a b =>
      cases f with
      | func f =>
        simp only [plain, Bool.and_eq_true] at h
        exact VR.func' (LR.plain ih _ (by simpa using h.1)) (LR.plain ih _ (by simpa using h.2))
      | _ => simp [plain] at h

theorem plain_eq {ρ : Ren} : ∀ (n : Nat) (v v' : Value), plain n v = true → VR ρ v v' → v' = v := by
  intro n
  induction n with
  | zero => intro v v' h; simp [plain] at h
  | succ n ih =>
    intro v v' h hv
    cases hv with
    | bool b => rfl
    | int k n => rfl
    | float k n => rfl
    | complex k n m => rfl
    | string s => rfl
    | nilFunc => rfl
    | nilIface => rfl
    | nilPtr => rfl
    | nilSlice l c => rfl
    | nilMap => rfl
    | iface t v v' hv => rw [ih _ _ (by simpa [plain] using h) hv]
    | agg a a' ha ra =>
      have := LR.plain_eq ih (LR.of_arr ha ra) (by simpa [plain] using h)
      rw [Array.toList_inj.1 this]
    | tuple a a' ha ra =>
      have := LR.plain_eq ih (LR.of_arr ha ra) (by simpa [plain] using h)
      rw [Array.toList_inj.1 this]
    | func f a b a' b' ha hb ra rb =>
      simp only [plain, Bool.and_eq_true] at h
      have e1 := LR.plain_eq ih (LR.of_arr ha ra) (by simpa using h.1)
      have e2 := LR.plain_eq ih (LR.of_arr hb rb) (by simpa using h.2)
      rw [Array.toList_inj.1 e1, Array.toList_inj.1 e2]
    | unknown r v => simp [plain] at h
    | _ => simp [plain] at h

end Go.Abs
