/- Texts of the proof, put together: Gf7T3, Gf7L, Gf7P, Gf7T5, Gf7Q, AbsEachD, Gf7T6, Gf7S, Gf7T7, Gf7U, Gf7V, Gf70, Gf71, Gf7K1, Gf7T8, Gf72, Gf73, Gf7R, Gf7T9, Gf7TA, Gf74. -/
import Derived.Test.YtpjfmeijfkbfaaaP4
import Derived.Test.YtpjfmeijfkbfaaaGf7A
import Derived.Test.YtpjfmeijfkbfaaaP3
/- What is left to show of each function, written out; the kernel reckons it. -/
namespace Go.Proofs.G5f
open Go Go.Abs Go.Proofs
set_option maxRecDepth 100000
set_option linter.unusedVariables false
end Go.Proofs.G5f

/- Chapter 7: FlatHeats, in data. -/
namespace Go.Proofs.G5f
open Go Go.Abs Go.Proofs Go.Proofs.G7
set_option maxRecDepth 100000
end Go.Proofs.G5f

/- Chapter 7: profiles, in data. -/
namespace Go.Proofs.G5f
open Go Go.Abs Go.Proofs Go.Proofs.G7
set_option maxRecDepth 100000
abbrev Thk (l : List Int) : Prop := ∀ z ∈ l, 1 ≤ z ∧ z ≤ 100000
structure PV (l : List Int) : Prop where
  n : 3 ≤ l.length ∧ l.length ≤ 9 ∧ l.length % 2 = 1
  t : Thk l
/-- twice the crown, and the wedge -/
def cw2 (l : List Int) : Int := 2 * gt l (l.length / 2) - gt l 0 - gt l (l.length - 1)
def wdg (l : List Int) : Int := gt l 0 - gt l (l.length - 1)
structure Ld (l : List Int) : Prop where
  w1 : IntKind.wrap .i64 ((l.length / 2 : Nat) : Int) = ((l.length / 2 : Nat) : Int)
  w2 : IntKind.wrap .i64 ((l.length : Int) - 1) = ((l.length - 1 : Nat) : Int)
  w3 : IntKind.wrap .i64 (IntKind.wrap .i64 (IntKind.wrap .i64 (2 * gt l (l.length / 2)) - gt l 0) - gt l (l.length - 1)) = cw2 l
  w4 : IntKind.wrap .i64 (gt l 0 - gt l (l.length - 1)) = wdg l
  b : -200000 ≤ cw2 l ∧ cw2 l ≤ 200000
  a0 : At (vi l) 0 1 [vI (gt l 0)]
  a1 : At (vi l) (0 + (l.length / 2) * 1) 1 [vI (gt l (l.length / 2))]
  a2 : At (vi l) (0 + (l.length - 1) * 1) 1 [vI (gt l (l.length - 1))]
abbrev dF (p : Int × Int) : D := .agg [dI p.1, dI p.2]
end Go.Proofs.G5f

/- What is left to show of each function, written out; the kernel reckons it. -/
namespace Go.Proofs.G5f
open Go Go.Abs Go.Proofs
set_option maxRecDepth 100000
set_option linter.unusedVariables false
def gIS (C : Ct) (L : AtLoop) (x0 : Int) (x1 : Int) (k : List D → Prop) : Prop := wpFn Try.prog (hF7 C) L 0 27 #[.agg #[.int .i64 x0, .int .i64 x1]] (heapOf []) (dataK k)
theorem gIS_text (C : Ct) (L : AtLoop) (x0 : Int) (x1 : Int) (k : List D → Prop) : gIS C L x0 x1 k =
 (((Says C 23 [(D.val (vI x0)), (D.val (vI (-(999999999 + 1) : Int))), (D.val (vI (1000000000 : Int)))] [(D.val (Value.bool true))]) ∧
 (((Says C 23 [(D.val (vI x1)), (D.val (vI (1 : Int))), (D.val (vI (1000000000 : Int)))] [(D.val (Value.bool true))]) ∧
 (k [(D.val (Value.bool true))])) ∨
 ((Says C 23 [(D.val (vI x1)), (D.val (vI (1 : Int))), (D.val (vI (1000000000 : Int)))] [(D.val (Value.bool false))]) ∧
 (k [(D.val (Value.bool false))])))) ∨
 ((Says C 23 [(D.val (vI x0)), (D.val (vI (-(999999999 + 1) : Int))), (D.val (vI (1000000000 : Int)))] [(D.val (Value.bool false))]) ∧
 (k [(D.val (Value.bool false))]))) := by kernel_rfl
end Go.Proofs.G5f

/- Chapter 7: changes of length, in data. -/
namespace Go.Proofs.G5f
open Go Go.Abs Go.Proofs Go.Proofs.G7
set_option maxRecDepth 100000
theorem m9 : (-(999999999 + 1) : Int) = -1000000000 := by decide
/-- pairs that are compared -/
theorem bp_eq {a b c d : Int} {x y : Prop} (h : a = c ∧ b = d) : bcase (!(a == c && (b == d && true))) x y = y := by
  rw [h.1, h.2]; simp [bcase]
theorem bp_ne {a b c d : Int} {x y : Prop} (h : ¬ (a = c ∧ b = d)) : bcase (!(a == c && (b == d && true))) x y = x := by
  have : (a == c && b == d) = false := by
    rw [Bool.and_eq_false_iff]
    by_cases h1 : a = c
    · exact .inr (by simpa using fun h2 => h ⟨h1, h2⟩)
    · exact .inl (by simpa using h1)
  simp [bcase, this]
/-- is a fraction small -/
def sm (f : Int × Int) : Prop := (-1000000000 ≤ f.1 ∧ f.1 ≤ 1000000000) ∧ (-1000000000 ≤ f.2 ∧ f.2 ≤ 1000000000)
instance (f : Int × Int) : Decidable (sm f) := by unfold sm; infer_instance
theorem conIS (f : Int × Int) (h0 : 0 < f.2) : C5 27 [dF f] [.val (.bool (decide (sm f)))] := by
  refine con_flat hok mixed Try.func27 rfl (by show 0 ≤ 400; omega) rfl (by kernel_rfl) (fun caps => ?_)
  show gIS _ _ f.1 f.2 _
  rw [gIS_text, m9]
  try simp only [eq_self, true_and]
  by_cases h1 : -1000000000 ≤ f.1 ∧ f.1 ≤ 1000000000
  · by_cases h2 : 1 ≤ f.2 ∧ f.2 ≤ 1000000000
    · have : sm f := ⟨h1, by omega⟩
      exact .inl ⟨sayWt h1, .inl ⟨sayWt h2, by rw [decide_eq_true this]⟩⟩
    · have : ¬ sm f := fun h => h2 ⟨by omega, h.2.2⟩
      exact .inl ⟨sayWt h1, .inr ⟨sayWf h2, by rw [decide_eq_false this]⟩⟩
  · have : ¬ sm f := fun h => h1 h.1
    exact .inr ⟨sayWf h1, by rw [decide_eq_false this]⟩
/-- changes of length -/
def chF (p q : List Int) (i : Nat) : Int × Int := low (gt p i * sumI q - gt q i * sumI p) (gt q i * sumI p)
def allS (p q : List Int) : Prop := ∀ i, i < p.length → sm (chF p q i)
instance (p q : List Int) : Decidable (allS p q) := by unfold allS; infer_instance
structure CV (p q : List Int) : Prop where
  l : p.length = q.length
  p : PV p
  q : PV q
structure Sb (p q : List Int) (i : Nat) : Prop where
  a : 0 ≤ gt p i * sumI q ∧ gt p i * sumI q ≤ 90000000000
  b : 1 ≤ gt q i * sumI p ∧ gt q i * sumI p ≤ 90000000000
theorem rp_take (f : Nat → Int × Int) (n : Nat) : List.take (n * 2) (List.drop 0 (vp ((List.range n).map f))) = vp ((List.range n).map f) := by
  rw [List.drop_zero, List.take_of_length_le (by simp)]
theorem vp_app : ∀ l m : List (Int × Int), vp (l ++ m) = vp l ++ vp m
  | [], m => rfl
  | p :: r, m => by simp only [List.cons_append, vp, vp_app r m]
theorem rp_snoc (f : Nat → Int × Int) (n : Nat) : vp ((List.range n).map f) ++ [vI (f n).1, vI (f n).2] = vp ((List.range (n + 1)).map f) := by
  rw [List.range_succ, List.map_append, vp_app]; rfl
theorem sayIS {f : Int × Int} (h0 : 0 < f.2) (h : sm f) : Says C5 27 [dF f] [.val (.bool true)] := by
  have := conIS f h0
  rw [decide_eq_true h] at this
  exact ⟨this⟩
end Go.Proofs.G5f

/- Functions over items that are handed a closure: what they do (chapter 7: answers by limits, the first wrong point, worn points). -/
namespace Go.Abs
/-- pairs of numbers as cells -/
def prs : List (Int × Int) → List Value
  | [] => []
  | p :: r => .int .i64 p.1 :: .int .i64 p.2 :: prs r
/-- the answer for a change, by limits in millionths -/
def bkV (lo hi n d : Int) : Int := if IntKind.wrap .i64 (1000000 * n) > IntKind.wrap .i64 (hi * d) then 2 else if IntKind.wrap .i64 (1000000 * n) ≤ IntKind.wrap .i64 (lo * d) then 0 else 1
def bkL (lo hi : Int) : List Value → List Value
  | .int _ n :: .int _ d :: r => .int .i64 (bkV lo hi n d) :: bkL lo hi r
  | _ => []
def bkC : FuncId → List D → List D → Prop := fun _ ds rs =>
  match ds, rs with
  | [.val (.int _ lo), .val (.int _ hi), .sl _ _ cs], [.sl _ _ out] => out = bkL lo hi cs
  | _, _ => False
/-- (cl, tr: the closure, the type of a range) -/
def eachB (cl : FuncId) (tr : TypeId) : SpecS := fun args bs K =>
  match args, bs with
  | [.slice (some ⟨i, 0, none⟩) n _, .func (.func g) a c], [(i', .sym cs opn es), (b, .cells [.int .i64 lo, .int .i64 hi] t o e)] =>
    match a.toList, c.toList with
    | [], [.pointer (some ⟨b', 0, none⟩)] =>
      if (i == 500 && i' == 500 && b == 900 && b' == 900 && g == cl && opn == false && es == 2 && t == tr && o == false && e == 1) = true then
        0 < n ∧ (∃ l : List (Int × Int), cs = prs l ∧ n = l.length ∧ l.length < 1000000000) ∧
          ∃ out : List Value, Says bkC 0 [.val (.int .i64 lo), .val (.int .i64 hi), .sl n 2 cs] [.sl n 1 out] ∧ K (.slice (some ⟨1000, 0, none⟩) n n) [(1000, .sym out true 1), (900, .cells [.int .i64 lo, .int .i64 hi] t o e)]
      else False
    | _, _ => False
  | _, _ => False
/-- the first wrong point: its index, its error, and the last position -/
def ptE (at' h : Int) : Int := if (0 ≤ at' ∧ at' ≤ 10000) ∧ (-100000 ≤ h ∧ h ≤ 100000) then 0 else 2
def fpL (bf : Int) (i : Int) : List Value → Int × Int × Int
  | .int _ a :: .int _ h :: r => if ptE a h = 0 then (if a ≤ bf then (i, 9, bf) else fpL a (i + 1) r) else (i, ptE a h, a)
  | _ => (0, 0, bf)
def fpC : FuncId → List D → List D → Prop := fun _ ds rs =>
  match ds, rs with
  | [.val (.int _ bf), .sl _ _ cs], [.val (.int _ i), .val (.int _ e), .val (.int _ b)] => (i, e, b) = fpL bf 0 cs
  | _, _ => False
def firstP (cl : FuncId) (ti : TypeId) : SpecS := fun args bs K =>
  match args, bs with
  | [.slice (some ⟨i, 0, none⟩) n _, .func (.func g) a c], [(i', .sym cs opn es), (b, .cells [.int .i64 bf] t o e)] =>
    match a.toList, c.toList with
    | [], [.pointer (some ⟨b', 0, none⟩)] =>
      if (i == 500 && i' == 500 && b == 900 && b' == 900 && g == cl && opn == false && es == 2 && t == ti && o == false && e == 1) = true then
        (∃ l : List (Int × Int), cs = prs l ∧ n = l.length ∧ l.length < 1000000000) ∧
          ∃ r1 : Int, ∃ r2 : Int, ∃ r3 : Int, Says fpC 0 [.val (.int .i64 bf), .sl n 2 cs] [.val (.int .i64 r1), .val (.int .i64 r2), .val (.int .i64 r3)] ∧ K (.tuple #[.int .i64 r1, .int .i64 r2]) [(900, .cells [.int .i64 r3] t o e)]
      else False
    | _, _ => False
  | _, _ => False
/-- points after a strip -/
def wrV (lo hi w a h : Int) : Int := if lo ≤ a ∧ a ≤ hi then IntKind.wrap .i64 (h - w) else h
def wrL (lo hi w : Int) : List Value → List Value
  | .int _ a :: .int _ h :: r => .int .i64 a :: .int .i64 (wrV lo hi w a h) :: wrL lo hi w r
  | _ => []
def wrC : FuncId → List D → List D → Prop := fun _ ds rs =>
  match ds, rs with
  | [.val (.int _ lo), .val (.int _ hi), .val (.int _ w), .sl _ _ cs], [.sl _ _ out] => out = wrL lo hi w cs
  | _, _ => False
def eachW (cl : FuncId) (ts : TypeId) : SpecS := fun args bs K =>
  match args, bs with
  | [.slice (some ⟨i, 0, none⟩) n _, .func (.func g) a c], [(i', .sym cs opn es), (b, .cells [.int .i64 lo, .int .i64 hi, .int .i64 w] t o e)] =>
    match a.toList, c.toList with
    | [], [.pointer (some ⟨b', 0, none⟩)] =>
      if (i == 900 && i' == 900 && b == 901 && b' == 901 && g == cl && opn == true && es == 2 && t == ts && o == false && e == 1) = true then
        0 < n ∧ (∃ l : List (Int × Int), cs = prs l ∧ n = l.length ∧ l.length < 1000000000) ∧
          ∃ out : List Value, Says wrC 0 [.val (.int .i64 lo), .val (.int .i64 hi), .val (.int .i64 w), .sl n 2 cs] [.sl n 2 out] ∧ K (.slice (some ⟨1000, 0, none⟩) n n) [(1000, .sym out true 2), (900, .sym cs true 2), (901, .cells [.int .i64 lo, .int .i64 hi, .int .i64 w] t o e)]
      else False
    | _, _ => False
  | _, _ => False
end Go.Abs

/- What is left to show of each function, written out; the kernel reckons it. -/
namespace Go.Proofs.G5f
open Go Go.Abs Go.Proofs
set_option maxRecDepth 100000
set_option linter.unusedVariables false
def copyFr : List D → Option (List D) := fun ds => match ds with | [.sl n es cs] => some [.sl n es cs] | [.nil] => some [.sl 0 2 []] | _ => none
def copySt : List D → Option (List D) := fun ds => match ds with | [.sl n es cs] => some [.sl n es cs] | [.nil] => some [.sl 0 3 []] | _ => none
def preU (C : Ct) : FuncId → Option Handler := fun g => if g == 135 then some (stateH (witAll 3 56 27)) else if g == 15 then some (fixH C copyInts) else if g == 33 then some (fixH C copyFr) else if g == 49 then some (fixH C copyFr) else if g == 52 then some (fixH C copySt) else if g == 103 then some (fixH C copyS) else if g == 85 then some (stateH (eachB 128 56)) else if g == 97 then some (stateH (firstP 98 3)) else if g == 104 then some (stateH (eachW 129 97)) else if g == 107 then some (fixH C copyS) else if [12, 13, 67, 71, 68, 66, 118, 72, 18, 17, 70, 76, 14, 16, 19, 36, 22, 23, 96, 109, 130, 108, 106, 59, 60, 61, 20, 21, 74, 73, 27, 83, 84, 82, 26, 87, 34, 35, 37, 32, 48, 50, 51, 53, 54, 55, 56, 57, 101, 102, 99, 100, 58].contains g then some (saidH Try.prog C) else none
abbrev hU (C : Ct) : Handler := handlerX Try.prog (preU C) 12 6
def gEb (C : Ct) (L : AtLoop) (lo : Int) (hi : Int) (n0 : Nat) (c0 : Nat) (l0 : List Value) (K : Value → Blocks → Prop) : Prop := wpFn Try.prog (hE C) L 0 85 #[.slice (some ⟨500, 0, none⟩) n0 c0, .func (.func 128) #[] #[.pointer (some ⟨900, 0, none⟩)]] (heapOf [(500, .sym l0 false 2), (900, .cells [.int .i64 lo, .int .i64 hi] 56 false 1)]) (stateK K)
theorem gEb_text (C : Ct) (L : AtLoop) (lo : Int) (hi : Int) (n0 : Nat) (c0 : Nat) (l0 : List Go.Value) (K : Go.Value → Blocks → Prop) : gEb C L lo hi n0 c0 l0 K =
 (L 0 [(Prod.mk 1 (Go.Value.func (Go.Fn.func 128) [].toArray [(Go.Value.pointer (Option.some (Go.Addr.mk 900 0 Option.none)))].toArray)), (Prod.mk 5 (Go.Value.slice Option.none 0 0)), (Prod.mk 8 (Go.Value.slice (Option.some (Go.Addr.mk 500 0 Option.none)) (n0) (c0))), (Prod.mk 9 (vI ((↑n0 : Int)))), (Prod.mk 10 (vI (0 : Int)))] [(Prod.mk 900 (AObj.cells [(vI lo), (vI hi)] 56 false 1)), (Prod.mk 500 (AObj.sym (l0) false 2))]) := by kernel_rfl
abbrev zEb1 (n0 : Nat) (c1 : Nat) (x2 : Int) (x3 : Int) (x4 : Int) (x5 : Int) (l6 : List Value) : Slots × Blocks := ([(1, (Value.func (.func 128) #[] #[(Value.pointer (some ⟨900, 0, none⟩))])), (5, (Value.slice none 0 0)), (8, (Value.slice (some ⟨500, 0, none⟩) n0 c1)), (9, (Value.int .i64 x2)), (10, (Value.int .i64 x3))], [(900, (AObj.cells [(Value.int .i64 x4), (Value.int .i64 x5)] 56 false 1)), (500, (AObj.sym l6 false 2))])
def rEb1 (C : Ct) (L : AtLoop) (n0 : Nat) (c1 : Nat) (x2 : Int) (x3 : Int) (x4 : Int) (x5 : Int) (l6 : List Value) (B : Bx) (X : Xx) (K : Value → Blocks → Prop) : Prop := wpRound Try.prog (hE C) L 85 0 [(1, (Value.func (.func 128) #[] #[(Value.pointer (some ⟨900, 0, none⟩))])), (5, (Value.slice none 0 0)), (8, (Value.slice (some ⟨500, 0, none⟩) n0 c1)), (9, (Value.int .i64 x2)), (10, (Value.int .i64 x3))] [(900, (AObj.cells [(Value.int .i64 x4), (Value.int .i64 x5)] 56 false 1)), (500, (AObj.sym l6 false 2))] B X (stateK K)
theorem rEb1_text (C : Ct) (L : AtLoop) (n0 : Nat) (c1 : Nat) (x2 : Int) (x3 : Int) (x4 : Int) (x5 : Int) (l6 : List Go.Value) (B : Bx) (X : Xx) (K : Go.Value → Blocks → Prop) : rEb1 C L n0 c1 x2 x3 x4 x5 l6 B X K =
 (bcase (decide (x3 < x2))
 (bcase (decide (0 ≤ x3))
 (bcase (decide (x3 < (↑n0 : Int)))
 (∃ n1 : Int,
 (∃ n2 : Int,
 ((At (l6) (0 + Int.toNat x3 * 2) 2 [(vI n1), (vI n2)]) ∧
 (bcase (decide (IntKind.wrap .i64 (1000000 * n1) > IntKind.wrap .i64 (x5 * n2)))
 (B [(Prod.mk 1 (Go.Value.func (Go.Fn.func 128) [].toArray [(Go.Value.pointer (Option.some (Go.Addr.mk 900 0 Option.none)))].toArray)), (Prod.mk 5 (Go.Value.slice (Option.some (Go.Addr.mk 1000 0 Option.none)) 1 1)), (Prod.mk 8 (Go.Value.slice (Option.some (Go.Addr.mk 500 0 Option.none)) (n0) (c1))), (Prod.mk 9 (vI x2)), (Prod.mk 10 (vI (IntKind.wrap .i64 (x3 + 1))))] [(Prod.mk 900 (AObj.cells [(vI x4), (vI x5)] 56 false 1)), (Prod.mk 1000 (AObj.sym [(vI (2 : Int))] true 1)), (Prod.mk 500 (AObj.sym (l6) false 2))])
 (bcase (decide (IntKind.wrap .i64 (1000000 * n1) ≤ IntKind.wrap .i64 (x4 * n2)))
 (B [(Prod.mk 1 (Go.Value.func (Go.Fn.func 128) [].toArray [(Go.Value.pointer (Option.some (Go.Addr.mk 900 0 Option.none)))].toArray)), (Prod.mk 5 (Go.Value.slice (Option.some (Go.Addr.mk 1000 0 Option.none)) 1 1)), (Prod.mk 8 (Go.Value.slice (Option.some (Go.Addr.mk 500 0 Option.none)) (n0) (c1))), (Prod.mk 9 (vI x2)), (Prod.mk 10 (vI (IntKind.wrap .i64 (x3 + 1))))] [(Prod.mk 900 (AObj.cells [(vI x4), (vI x5)] 56 false 1)), (Prod.mk 1000 (AObj.sym [(vI (0 : Int))] true 1)), (Prod.mk 500 (AObj.sym (l6) false 2))])
 (B [(Prod.mk 1 (Go.Value.func (Go.Fn.func 128) [].toArray [(Go.Value.pointer (Option.some (Go.Addr.mk 900 0 Option.none)))].toArray)), (Prod.mk 5 (Go.Value.slice (Option.some (Go.Addr.mk 1000 0 Option.none)) 1 1)), (Prod.mk 8 (Go.Value.slice (Option.some (Go.Addr.mk 500 0 Option.none)) (n0) (c1))), (Prod.mk 9 (vI x2)), (Prod.mk 10 (vI (IntKind.wrap .i64 (x3 + 1))))] [(Prod.mk 900 (AObj.cells [(vI x4), (vI x5)] 56 false 1)), (Prod.mk 1000 (AObj.sym [(vI (1 : Int))] true 1)), (Prod.mk 500 (AObj.sym (l6) false 2))]))))))
 False)
 False)
 (X 0 [(Prod.mk 5 (Go.Value.slice Option.none 0 0))] [(Prod.mk 900 (AObj.cells [(vI x4), (vI x5)] 56 false 1))])) := by kernel_rfl
abbrev zEb2 (n0 : Nat) (n1 : Nat) (c2 : Nat) (x3 : Int) (x4 : Int) (x5 : Int) (x6 : Int) (l7 : List Value) (l8 : List Value) : Slots × Blocks := ([(1, (Value.func (.func 128) #[] #[(Value.pointer (some ⟨900, 0, none⟩))])), (5, (Value.slice (some ⟨1000, 0, none⟩) n0 n0)), (8, (Value.slice (some ⟨500, 0, none⟩) n1 c2)), (9, (Value.int .i64 x3)), (10, (Value.int .i64 x4))], [(900, (AObj.cells [(Value.int .i64 x5), (Value.int .i64 x6)] 56 false 1)), (1000, (AObj.sym l7 true 1)), (500, (AObj.sym l8 false 2))])
def rEb2 (C : Ct) (L : AtLoop) (n0 : Nat) (n1 : Nat) (c2 : Nat) (x3 : Int) (x4 : Int) (x5 : Int) (x6 : Int) (l7 : List Value) (l8 : List Value) (B : Bx) (X : Xx) (K : Value → Blocks → Prop) : Prop := wpRound Try.prog (hE C) L 85 0 [(1, (Value.func (.func 128) #[] #[(Value.pointer (some ⟨900, 0, none⟩))])), (5, (Value.slice (some ⟨1000, 0, none⟩) n0 n0)), (8, (Value.slice (some ⟨500, 0, none⟩) n1 c2)), (9, (Value.int .i64 x3)), (10, (Value.int .i64 x4))] [(900, (AObj.cells [(Value.int .i64 x5), (Value.int .i64 x6)] 56 false 1)), (1000, (AObj.sym l7 true 1)), (500, (AObj.sym l8 false 2))] B X (stateK K)
theorem rEb2_text (C : Ct) (L : AtLoop) (n0 : Nat) (n1 : Nat) (c2 : Nat) (x3 : Int) (x4 : Int) (x5 : Int) (x6 : Int) (l7 : List Go.Value) (l8 : List Go.Value) (B : Bx) (X : Xx) (K : Go.Value → Blocks → Prop) : rEb2 C L n0 n1 c2 x3 x4 x5 x6 l7 l8 B X K =
 (bcase (decide (x4 < x3))
 (bcase (decide (0 ≤ x4))
 (bcase (decide (x4 < (↑n1 : Int)))
 (∃ n2 : Int,
 (∃ n3 : Int,
 ((At (l8) (0 + Int.toNat x4 * 2) 2 [(vI n2), (vI n3)]) ∧
 (bcase (decide (IntKind.wrap .i64 (1000000 * n2) > IntKind.wrap .i64 (x6 * n3)))
 (bcase (decide (n0 < n0 + 1))
 (bcase (decide ((2 * (n0 + 1) + 768) * 8 ≤ 281474976710656))
 (bcase (decide (n0 + 1 ≤ 1099511627776))
 (bcase (decide (0 + n0 * 1 ≤ List.length l7))
 (bcase (decide (0 + n0 * 1 = List.length l7))
 (B [(Prod.mk 1 (Go.Value.func (Go.Fn.func 128) [].toArray [(Go.Value.pointer (Option.some (Go.Addr.mk 900 0 Option.none)))].toArray)), (Prod.mk 5 (Go.Value.slice (Option.some (Go.Addr.mk 1000 0 Option.none)) (n0 + 1) (n0 + 1))), (Prod.mk 8 (Go.Value.slice (Option.some (Go.Addr.mk 500 0 Option.none)) (n1) (c2))), (Prod.mk 9 (vI x3)), (Prod.mk 10 (vI (IntKind.wrap .i64 (x4 + 1))))] [(Prod.mk 900 (AObj.cells [(vI x5), (vI x6)] 56 false 1)), (Prod.mk 1000 (AObj.sym ((List.take (n0 * 1) (List.drop 0 l7)) ++ [(vI (2 : Int))]) true 1)), (Prod.mk 500 (AObj.sym (l8) false 2))])
 False)
 False)
 False)
 False)
 False)
 (bcase (decide (IntKind.wrap .i64 (1000000 * n2) ≤ IntKind.wrap .i64 (x5 * n3)))
 (bcase (decide (n0 < n0 + 1))
 (bcase (decide ((2 * (n0 + 1) + 768) * 8 ≤ 281474976710656))
 (bcase (decide (n0 + 1 ≤ 1099511627776))
 (bcase (decide (0 + n0 * 1 ≤ List.length l7))
 (bcase (decide (0 + n0 * 1 = List.length l7))
 (B [(Prod.mk 1 (Go.Value.func (Go.Fn.func 128) [].toArray [(Go.Value.pointer (Option.some (Go.Addr.mk 900 0 Option.none)))].toArray)), (Prod.mk 5 (Go.Value.slice (Option.some (Go.Addr.mk 1000 0 Option.none)) (n0 + 1) (n0 + 1))), (Prod.mk 8 (Go.Value.slice (Option.some (Go.Addr.mk 500 0 Option.none)) (n1) (c2))), (Prod.mk 9 (vI x3)), (Prod.mk 10 (vI (IntKind.wrap .i64 (x4 + 1))))] [(Prod.mk 900 (AObj.cells [(vI x5), (vI x6)] 56 false 1)), (Prod.mk 1000 (AObj.sym ((List.take (n0 * 1) (List.drop 0 l7)) ++ [(vI (0 : Int))]) true 1)), (Prod.mk 500 (AObj.sym (l8) false 2))])
 False)
 False)
 False)
 False)
 False)
 (bcase (decide (n0 < n0 + 1))
 (bcase (decide ((2 * (n0 + 1) + 768) * 8 ≤ 281474976710656))
 (bcase (decide (n0 + 1 ≤ 1099511627776))
 (bcase (decide (0 + n0 * 1 ≤ List.length l7))
 (bcase (decide (0 + n0 * 1 = List.length l7))
 (B [(Prod.mk 1 (Go.Value.func (Go.Fn.func 128) [].toArray [(Go.Value.pointer (Option.some (Go.Addr.mk 900 0 Option.none)))].toArray)), (Prod.mk 5 (Go.Value.slice (Option.some (Go.Addr.mk 1000 0 Option.none)) (n0 + 1) (n0 + 1))), (Prod.mk 8 (Go.Value.slice (Option.some (Go.Addr.mk 500 0 Option.none)) (n1) (c2))), (Prod.mk 9 (vI x3)), (Prod.mk 10 (vI (IntKind.wrap .i64 (x4 + 1))))] [(Prod.mk 900 (AObj.cells [(vI x5), (vI x6)] 56 false 1)), (Prod.mk 1000 (AObj.sym ((List.take (n0 * 1) (List.drop 0 l7)) ++ [(vI (1 : Int))]) true 1)), (Prod.mk 500 (AObj.sym (l8) false 2))])
 False)
 False)
 False)
 False)
 False))))))
 False)
 False)
 (X 0 [(Prod.mk 5 (Go.Value.slice (Option.some (Go.Addr.mk 1000 0 Option.none)) (n0) (n0)))] [(Prod.mk 1000 (AObj.sym (l7) true 1)), (Prod.mk 900 (AObj.cells [(vI x5), (vI x6)] 56 false 1))])) := by kernel_rfl
def nEb4 (C : Ct) (L : AtLoop) (n0 : Nat) (l1 : List Value) (x2 : Int) (x3 : Int) (K : Value → Blocks → Prop) : Prop := wpNext Try.prog (hE C) L 85 0 .normal [(5, (Value.slice (some ⟨1000, 0, none⟩) n0 n0))] [(1000, (AObj.sym l1 true 1)), (900, (AObj.cells [(Value.int .i64 x2), (Value.int .i64 x3)] 56 false 1))] (stateK K)
theorem nEb4_text (C : Ct) (L : AtLoop) (n0 : Nat) (l1 : List Go.Value) (x2 : Int) (x3 : Int) (K : Go.Value → Blocks → Prop) : nEb4 C L n0 l1 x2 x3 K =
 (K (Go.Value.slice (Option.some (Go.Addr.mk 1000 0 Option.none)) (n0) (n0)) [(Prod.mk 1000 (AObj.sym (l1) true 1)), (Prod.mk 900 (AObj.cells [(vI x2), (vI x3)] 56 false 1))]) := by kernel_rfl
def gFp (C : Ct) (L : AtLoop) (bf : Int) (n0 : Nat) (c0 : Nat) (l0 : List Value) (K : Value → Blocks → Prop) : Prop := wpFn Try.prog (hF7 C) L 0 97 #[.slice (some ⟨500, 0, none⟩) n0 c0, .func (.func 98) #[] #[.pointer (some ⟨900, 0, none⟩)]] (heapOf [(500, .sym l0 false 2), (900, .cells [.int .i64 bf] 3 false 1)]) (stateK K)
theorem gFp_text (C : Ct) (L : AtLoop) (bf : Int) (n0 : Nat) (c0 : Nat) (l0 : List Go.Value) (K : Go.Value → Blocks → Prop) : gFp C L bf n0 c0 l0 K =
 (L 0 [(Prod.mk 1 (Go.Value.func (Go.Fn.func 98) [].toArray [(Go.Value.pointer (Option.some (Go.Addr.mk 900 0 Option.none)))].toArray)), (Prod.mk 9 (Go.Value.slice (Option.some (Go.Addr.mk 500 0 Option.none)) (n0) (c0))), (Prod.mk 10 (vI ((↑n0 : Int)))), (Prod.mk 11 (vI (0 : Int)))] [(Prod.mk 900 (AObj.cells [(vI bf)] 3 false 1)), (Prod.mk 500 (AObj.sym (l0) false 2))]) := by kernel_rfl
abbrev zFp1 (n0 : Nat) (c1 : Nat) (x2 : Int) (x3 : Int) (x4 : Int) (l5 : List Value) : Slots × Blocks := ([(1, (Value.func (.func 98) #[] #[(Value.pointer (some ⟨900, 0, none⟩))])), (9, (Value.slice (some ⟨500, 0, none⟩) n0 c1)), (10, (Value.int .i64 x2)), (11, (Value.int .i64 x3))], [(900, (AObj.cells [(Value.int .i64 x4)] 3 false 1)), (500, (AObj.sym l5 false 2))])
def rFp1 (C : Ct) (L : AtLoop) (n0 : Nat) (c1 : Nat) (x2 : Int) (x3 : Int) (x4 : Int) (l5 : List Value) (B : Bx) (X : Xx) (K : Value → Blocks → Prop) : Prop := wpRound Try.prog (hF7 C) L 97 0 [(1, (Value.func (.func 98) #[] #[(Value.pointer (some ⟨900, 0, none⟩))])), (9, (Value.slice (some ⟨500, 0, none⟩) n0 c1)), (10, (Value.int .i64 x2)), (11, (Value.int .i64 x3))] [(900, (AObj.cells [(Value.int .i64 x4)] 3 false 1)), (500, (AObj.sym l5 false 2))] B X (stateK K)
theorem rFp1_text (C : Ct) (L : AtLoop) (n0 : Nat) (c1 : Nat) (x2 : Int) (x3 : Int) (x4 : Int) (l5 : List Go.Value) (B : Bx) (X : Xx) (K : Go.Value → Blocks → Prop) : rFp1 C L n0 c1 x2 x3 x4 l5 B X K =
 (bcase (decide (x3 < x2))
 (bcase (decide (0 ≤ x3))
 (bcase (decide (x3 < (↑n0 : Int)))
 (∃ n1 : Int,
 (∃ n2 : Int,
 ((At (l5) (0 + Int.toNat x3 * 2) 2 [(vI n1), (vI n2)]) ∧
 (((((Go.Value.slice (Option.some (Go.Addr.mk 1003 0 Option.none)) 1 1) = (Go.Value.slice (Option.some (Go.Addr.mk 1003 0 Option.none)) 1 1)) ∧
 ((Option.some (AObj.cells [(vI n2)] 3 false 1)) = (Option.some (AObj.cells [(vI n2)] 3 false 1)))) ∧
 (((vI n2) = (vI n2)) ∧
 (((Go.Value.pointer (Option.some (Go.Addr.mk 1001 1 Option.none))) = (Go.Value.pointer (Option.some (Go.Addr.mk 1001 1 Option.none)))) ∧
 ((((Go.Value.slice (Option.some (Go.Addr.mk 1002 0 Option.none)) 1 1) = (Go.Value.slice (Option.some (Go.Addr.mk 1002 0 Option.none)) 1 1)) ∧
 ((Option.some (AObj.cells [(vI n1)] 3 false 1)) = (Option.some (AObj.cells [(vI n1)] 3 false 1)))) ∧
 (((vI n1) = (vI n1)) ∧
 (((Go.Value.pointer (Option.some (Go.Addr.mk 1001 0 Option.none))) = (Go.Value.pointer (Option.some (Go.Addr.mk 1001 0 Option.none)))) ∧
 True)))))) ∧
 (((((Go.Value.slice (Option.some (Go.Addr.mk 1003 0 Option.none)) 1 1) = (Go.Value.slice (Option.some (Go.Addr.mk 1003 0 Option.none)) 1 1)) ∧
 ((Option.some (AObj.cells [(vI n2)] 3 false 1)) = (Option.some (AObj.cells [(vI n2)] 3 false 1)))) ∧
 (((vI n2) = (vI n2)) ∧
 (((Go.Value.pointer (Option.some (Go.Addr.mk 1001 1 Option.none))) = (Go.Value.pointer (Option.some (Go.Addr.mk 1001 1 Option.none)))) ∧
 ((((Go.Value.slice (Option.some (Go.Addr.mk 1002 0 Option.none)) 1 1) = (Go.Value.slice (Option.some (Go.Addr.mk 1002 0 Option.none)) 1 1)) ∧
 ((Option.some (AObj.cells [(vI n1)] 3 false 1)) = (Option.some (AObj.cells [(vI n1)] 3 false 1)))) ∧
 (((vI n1) = (vI n1)) ∧
 (((Go.Value.pointer (Option.some (Go.Addr.mk 1001 0 Option.none))) = (Go.Value.pointer (Option.some (Go.Addr.mk 1001 0 Option.none)))) ∧
 True)))))) ∧
 (∃ r1 : Int,
 ((Says witC 0 [(D.val (vI (0 : Int))), (D.val (vI (10000 : Int))), (D.val (vI (2 : Int))), (D.sl 1 1 [(vI n1)])] [(D.val (vI r1))]) ∧
 (((((Go.Value.slice (Option.some (Go.Addr.mk 1003 0 Option.none)) 1 1) = (Go.Value.slice (Option.some (Go.Addr.mk 1003 0 Option.none)) 1 1)) ∧
 ((Option.some (AObj.cells [(vI n2)] 3 false 1)) = (Option.some (AObj.cells [(vI n2)] 3 false 1)))) ∧
 (((vI n2) = (vI n2)) ∧
 (((Go.Value.pointer (Option.some (Go.Addr.mk 1001 1 Option.none))) = (Go.Value.pointer (Option.some (Go.Addr.mk 1001 1 Option.none)))) ∧
 (((vI n1) = (vI n1)) ∧
 (((Go.Value.pointer (Option.some (Go.Addr.mk 1001 0 Option.none))) = (Go.Value.pointer (Option.some (Go.Addr.mk 1001 0 Option.none)))) ∧
 True))))) ∧
 (((((Go.Value.slice (Option.some (Go.Addr.mk 1003 0 Option.none)) 1 1) = (Go.Value.slice (Option.some (Go.Addr.mk 1003 0 Option.none)) 1 1)) ∧
 ((Option.some (AObj.cells [(vI n2)] 3 false 1)) = (Option.some (AObj.cells [(vI n2)] 3 false 1)))) ∧
 (((vI n2) = (vI n2)) ∧
 (((Go.Value.pointer (Option.some (Go.Addr.mk 1001 1 Option.none))) = (Go.Value.pointer (Option.some (Go.Addr.mk 1001 1 Option.none)))) ∧
 (((vI n1) = (vI n1)) ∧
 (((Go.Value.pointer (Option.some (Go.Addr.mk 1001 0 Option.none))) = (Go.Value.pointer (Option.some (Go.Addr.mk 1001 0 Option.none)))) ∧
 True))))) ∧
 (∃ r2 : Int,
 ((Says witC 0 [(D.val (vI (-(99999 + 1) : Int))), (D.val (vI (100000 : Int))), (D.val (vI (2 : Int))), (D.sl 1 1 [(vI n2)])] [(D.val (vI r2))]) ∧
 (((((Go.Value.slice (Option.some (Go.Addr.mk 1008 0 Option.none)) 2 2) = (Go.Value.slice (Option.some (Go.Addr.mk 1008 0 Option.none)) 2 2)) ∧
 ((Option.some (AObj.cells [(vI r1), (vI r2)] 27 false 1)) = (Option.some (AObj.cells [(vI r1), (vI r2)] 27 false 1)))) ∧
 (((vI n2) = (vI n2)) ∧
 (((Go.Value.pointer (Option.some (Go.Addr.mk 1001 1 Option.none))) = (Go.Value.pointer (Option.some (Go.Addr.mk 1001 1 Option.none)))) ∧
 (((vI n1) = (vI n1)) ∧
 (((Go.Value.pointer (Option.some (Go.Addr.mk 1001 0 Option.none))) = (Go.Value.pointer (Option.some (Go.Addr.mk 1001 0 Option.none)))) ∧
 True))))) ∧
 (∃ n3 : Int,
 ((Says C 67 [(D.sl 2 1 [(vI r1), (vI r2)])] [(D.val (vI n3))]) ∧
 ((((vI n2) = (vI n2)) ∧
 (((Go.Value.pointer (Option.some (Go.Addr.mk 1001 1 Option.none))) = (Go.Value.pointer (Option.some (Go.Addr.mk 1001 1 Option.none)))) ∧
 (((vI n1) = (vI n1)) ∧
 (((Go.Value.pointer (Option.some (Go.Addr.mk 1001 0 Option.none))) = (Go.Value.pointer (Option.some (Go.Addr.mk 1001 0 Option.none)))) ∧
 True)))) ∧
 (True ∧
 (bcase (n3 == 0)
 (bcase (decide (n1 ≤ x4))
 (K (Go.Value.tuple [(vI x3), (vI (9 : Int))].toArray) [(Prod.mk 900 (AObj.cells [(vI x4)] 3 false 1))])
 (bcase (n3 != 0)
 (K (Go.Value.tuple [(vI x3), (vI n3)].toArray) [(Prod.mk 900 (AObj.cells [(vI n1)] 3 false 1))])
 (B [(Prod.mk 1 (Go.Value.func (Go.Fn.func 98) [].toArray [(Go.Value.pointer (Option.some (Go.Addr.mk 900 0 Option.none)))].toArray)), (Prod.mk 9 (Go.Value.slice (Option.some (Go.Addr.mk 500 0 Option.none)) (n0) (c1))), (Prod.mk 10 (vI x2)), (Prod.mk 11 (vI (IntKind.wrap .i64 (x3 + 1))))] [(Prod.mk 900 (AObj.cells [(vI n1)] 3 false 1)), (Prod.mk 500 (AObj.sym (l5) false 2))])))
 (bcase (n3 != 0)
 (K (Go.Value.tuple [(vI x3), (vI n3)].toArray) [(Prod.mk 900 (AObj.cells [(vI n1)] 3 false 1))])
 (B [(Prod.mk 1 (Go.Value.func (Go.Fn.func 98) [].toArray [(Go.Value.pointer (Option.some (Go.Addr.mk 900 0 Option.none)))].toArray)), (Prod.mk 9 (Go.Value.slice (Option.some (Go.Addr.mk 500 0 Option.none)) (n0) (c1))), (Prod.mk 10 (vI x2)), (Prod.mk 11 (vI (IntKind.wrap .i64 (x3 + 1))))] [(Prod.mk 900 (AObj.cells [(vI n1)] 3 false 1)), (Prod.mk 500 (AObj.sym (l5) false 2))])))))))))))))))))))
 False)
 False)
 (X 0 [] [(Prod.mk 900 (AObj.cells [(vI x4)] 3 false 1))])) := by kernel_rfl
def nFp2 (C : Ct) (L : AtLoop) (x0 : Int) (K : Value → Blocks → Prop) : Prop := wpNext Try.prog (hF7 C) L 97 0 .normal [] [(900, (AObj.cells [(Value.int .i64 x0)] 3 false 1))] (stateK K)
theorem nFp2_text (C : Ct) (L : AtLoop) (x0 : Int) (K : Go.Value → Blocks → Prop) : nFp2 C L x0 K =
 (K (Go.Value.tuple [(vI (0 : Int)), (vI (0 : Int))].toArray) [(Prod.mk 900 (AObj.cells [(vI x0)] 3 false 1))]) := by kernel_rfl
def gEw (C : Ct) (L : AtLoop) (lo : Int) (hi : Int) (w : Int) (n0 : Nat) (c0 : Nat) (l0 : List Value) (K : Value → Blocks → Prop) : Prop := wpFn Try.prog (hE C) L 0 104 #[.slice (some ⟨900, 0, none⟩) n0 c0, .func (.func 129) #[] #[.pointer (some ⟨901, 0, none⟩)]] (heapOf [(900, .sym l0 true 2), (901, .cells [.int .i64 lo, .int .i64 hi, .int .i64 w] 97 false 1)]) (stateK K)
theorem gEw_text (C : Ct) (L : AtLoop) (lo : Int) (hi : Int) (w : Int) (n0 : Nat) (c0 : Nat) (l0 : List Go.Value) (K : Go.Value → Blocks → Prop) : gEw C L lo hi w n0 c0 l0 K =
 (L 0 [(Prod.mk 1 (Go.Value.func (Go.Fn.func 129) [].toArray [(Go.Value.pointer (Option.some (Go.Addr.mk 901 0 Option.none)))].toArray)), (Prod.mk 5 (Go.Value.slice Option.none 0 0)), (Prod.mk 8 (Go.Value.slice (Option.some (Go.Addr.mk 900 0 Option.none)) (n0) (c0))), (Prod.mk 9 (vI ((↑n0 : Int)))), (Prod.mk 10 (vI (0 : Int)))] [(Prod.mk 901 (AObj.cells [(vI lo), (vI hi), (vI w)] 97 false 1)), (Prod.mk 900 (AObj.sym (l0) true 2))]) := by kernel_rfl
abbrev zEw1 (n0 : Nat) (c1 : Nat) (x2 : Int) (x3 : Int) (x4 : Int) (x5 : Int) (x6 : Int) (l7 : List Value) : Slots × Blocks := ([(1, (Value.func (.func 129) #[] #[(Value.pointer (some ⟨901, 0, none⟩))])), (5, (Value.slice none 0 0)), (8, (Value.slice (some ⟨900, 0, none⟩) n0 c1)), (9, (Value.int .i64 x2)), (10, (Value.int .i64 x3))], [(901, (AObj.cells [(Value.int .i64 x4), (Value.int .i64 x5), (Value.int .i64 x6)] 97 false 1)), (900, (AObj.sym l7 true 2))])
def rEw1 (C : Ct) (L : AtLoop) (n0 : Nat) (c1 : Nat) (x2 : Int) (x3 : Int) (x4 : Int) (x5 : Int) (x6 : Int) (l7 : List Value) (B : Bx) (X : Xx) (K : Value → Blocks → Prop) : Prop := wpRound Try.prog (hE C) L 104 0 [(1, (Value.func (.func 129) #[] #[(Value.pointer (some ⟨901, 0, none⟩))])), (5, (Value.slice none 0 0)), (8, (Value.slice (some ⟨900, 0, none⟩) n0 c1)), (9, (Value.int .i64 x2)), (10, (Value.int .i64 x3))] [(901, (AObj.cells [(Value.int .i64 x4), (Value.int .i64 x5), (Value.int .i64 x6)] 97 false 1)), (900, (AObj.sym l7 true 2))] B X (stateK K)
theorem rEw1_text (C : Ct) (L : AtLoop) (n0 : Nat) (c1 : Nat) (x2 : Int) (x3 : Int) (x4 : Int) (x5 : Int) (x6 : Int) (l7 : List Go.Value) (B : Bx) (X : Xx) (K : Go.Value → Blocks → Prop) : rEw1 C L n0 c1 x2 x3 x4 x5 x6 l7 B X K =
 (bcase (decide (x3 < x2))
 (bcase (decide (0 ≤ x3))
 (bcase (decide (x3 < (↑n0 : Int)))
 (∃ n1 : Int,
 (∃ n2 : Int,
 ((At (l7) (0 + Int.toNat x3 * 2) 2 [(vI n1), (vI n2)]) ∧
 (bcase (decide (x4 ≤ n1))
 (bcase (decide (n1 ≤ x5))
 (B [(Prod.mk 1 (Go.Value.func (Go.Fn.func 129) [].toArray [(Go.Value.pointer (Option.some (Go.Addr.mk 901 0 Option.none)))].toArray)), (Prod.mk 5 (Go.Value.slice (Option.some (Go.Addr.mk 1000 0 Option.none)) 1 1)), (Prod.mk 8 (Go.Value.slice (Option.some (Go.Addr.mk 900 0 Option.none)) (n0) (c1))), (Prod.mk 9 (vI x2)), (Prod.mk 10 (vI (IntKind.wrap .i64 (x3 + 1))))] [(Prod.mk 901 (AObj.cells [(vI x4), (vI x5), (vI x6)] 97 false 1)), (Prod.mk 1000 (AObj.sym [(vI n1), (vI (IntKind.wrap .i64 (n2 - x6)))] true 2)), (Prod.mk 900 (AObj.sym (l7) true 2))])
 (B [(Prod.mk 1 (Go.Value.func (Go.Fn.func 129) [].toArray [(Go.Value.pointer (Option.some (Go.Addr.mk 901 0 Option.none)))].toArray)), (Prod.mk 5 (Go.Value.slice (Option.some (Go.Addr.mk 1000 0 Option.none)) 1 1)), (Prod.mk 8 (Go.Value.slice (Option.some (Go.Addr.mk 900 0 Option.none)) (n0) (c1))), (Prod.mk 9 (vI x2)), (Prod.mk 10 (vI (IntKind.wrap .i64 (x3 + 1))))] [(Prod.mk 901 (AObj.cells [(vI x4), (vI x5), (vI x6)] 97 false 1)), (Prod.mk 1000 (AObj.sym [(vI n1), (vI n2)] true 2)), (Prod.mk 900 (AObj.sym (l7) true 2))]))
 (B [(Prod.mk 1 (Go.Value.func (Go.Fn.func 129) [].toArray [(Go.Value.pointer (Option.some (Go.Addr.mk 901 0 Option.none)))].toArray)), (Prod.mk 5 (Go.Value.slice (Option.some (Go.Addr.mk 1000 0 Option.none)) 1 1)), (Prod.mk 8 (Go.Value.slice (Option.some (Go.Addr.mk 900 0 Option.none)) (n0) (c1))), (Prod.mk 9 (vI x2)), (Prod.mk 10 (vI (IntKind.wrap .i64 (x3 + 1))))] [(Prod.mk 901 (AObj.cells [(vI x4), (vI x5), (vI x6)] 97 false 1)), (Prod.mk 1000 (AObj.sym [(vI n1), (vI n2)] true 2)), (Prod.mk 900 (AObj.sym (l7) true 2))])))))
 False)
 False)
 (X 0 [(Prod.mk 5 (Go.Value.slice Option.none 0 0))] [(Prod.mk 900 (AObj.sym (l7) true 2)), (Prod.mk 901 (AObj.cells [(vI x4), (vI x5), (vI x6)] 97 false 1))])) := by kernel_rfl
abbrev zEw2 (n0 : Nat) (n1 : Nat) (c2 : Nat) (x3 : Int) (x4 : Int) (x5 : Int) (x6 : Int) (x7 : Int) (l8 : List Value) (l9 : List Value) : Slots × Blocks := ([(1, (Value.func (.func 129) #[] #[(Value.pointer (some ⟨901, 0, none⟩))])), (5, (Value.slice (some ⟨1000, 0, none⟩) n0 n0)), (8, (Value.slice (some ⟨900, 0, none⟩) n1 c2)), (9, (Value.int .i64 x3)), (10, (Value.int .i64 x4))], [(901, (AObj.cells [(Value.int .i64 x5), (Value.int .i64 x6), (Value.int .i64 x7)] 97 false 1)), (1000, (AObj.sym l8 true 2)), (900, (AObj.sym l9 true 2))])
def rEw2 (C : Ct) (L : AtLoop) (n0 : Nat) (n1 : Nat) (c2 : Nat) (x3 : Int) (x4 : Int) (x5 : Int) (x6 : Int) (x7 : Int) (l8 : List Value) (l9 : List Value) (B : Bx) (X : Xx) (K : Value → Blocks → Prop) : Prop := wpRound Try.prog (hE C) L 104 0 [(1, (Value.func (.func 129) #[] #[(Value.pointer (some ⟨901, 0, none⟩))])), (5, (Value.slice (some ⟨1000, 0, none⟩) n0 n0)), (8, (Value.slice (some ⟨900, 0, none⟩) n1 c2)), (9, (Value.int .i64 x3)), (10, (Value.int .i64 x4))] [(901, (AObj.cells [(Value.int .i64 x5), (Value.int .i64 x6), (Value.int .i64 x7)] 97 false 1)), (1000, (AObj.sym l8 true 2)), (900, (AObj.sym l9 true 2))] B X (stateK K)
theorem rEw2_text (C : Ct) (L : AtLoop) (n0 : Nat) (n1 : Nat) (c2 : Nat) (x3 : Int) (x4 : Int) (x5 : Int) (x6 : Int) (x7 : Int) (l8 : List Go.Value) (l9 : List Go.Value) (B : Bx) (X : Xx) (K : Go.Value → Blocks → Prop) : rEw2 C L n0 n1 c2 x3 x4 x5 x6 x7 l8 l9 B X K =
 (bcase (decide (x4 < x3))
 (bcase (decide (0 ≤ x4))
 (bcase (decide (x4 < (↑n1 : Int)))
 (∃ n2 : Int,
 (∃ n3 : Int,
 ((At (l9) (0 + Int.toNat x4 * 2) 2 [(vI n2), (vI n3)]) ∧
 (bcase (decide (x5 ≤ n2))
 (bcase (decide (n2 ≤ x6))
 (bcase (decide (n0 < n0 + 1))
 (bcase (decide ((2 * (n0 + 1) + 768) * 16 ≤ 281474976710656))
 (bcase (decide (n0 + 1 ≤ 1099511627776))
 (bcase (decide (0 + n0 * 2 ≤ List.length l8))
 (bcase (decide (0 + n0 * 2 = List.length l8))
 (B [(Prod.mk 1 (Go.Value.func (Go.Fn.func 129) [].toArray [(Go.Value.pointer (Option.some (Go.Addr.mk 901 0 Option.none)))].toArray)), (Prod.mk 5 (Go.Value.slice (Option.some (Go.Addr.mk 1000 0 Option.none)) (n0 + 1) (n0 + 1))), (Prod.mk 8 (Go.Value.slice (Option.some (Go.Addr.mk 900 0 Option.none)) (n1) (c2))), (Prod.mk 9 (vI x3)), (Prod.mk 10 (vI (IntKind.wrap .i64 (x4 + 1))))] [(Prod.mk 901 (AObj.cells [(vI x5), (vI x6), (vI x7)] 97 false 1)), (Prod.mk 1000 (AObj.sym ((List.take (n0 * 2) (List.drop 0 l8)) ++ [(vI n2), (vI (IntKind.wrap .i64 (n3 - x7)))]) true 2)), (Prod.mk 900 (AObj.sym (l9) true 2))])
 False)
 False)
 False)
 False)
 False)
 (bcase (decide (n0 < n0 + 1))
 (bcase (decide ((2 * (n0 + 1) + 768) * 16 ≤ 281474976710656))
 (bcase (decide (n0 + 1 ≤ 1099511627776))
 (bcase (decide (0 + n0 * 2 ≤ List.length l8))
 (bcase (decide (0 + n0 * 2 = List.length l8))
 (B [(Prod.mk 1 (Go.Value.func (Go.Fn.func 129) [].toArray [(Go.Value.pointer (Option.some (Go.Addr.mk 901 0 Option.none)))].toArray)), (Prod.mk 5 (Go.Value.slice (Option.some (Go.Addr.mk 1000 0 Option.none)) (n0 + 1) (n0 + 1))), (Prod.mk 8 (Go.Value.slice (Option.some (Go.Addr.mk 900 0 Option.none)) (n1) (c2))), (Prod.mk 9 (vI x3)), (Prod.mk 10 (vI (IntKind.wrap .i64 (x4 + 1))))] [(Prod.mk 901 (AObj.cells [(vI x5), (vI x6), (vI x7)] 97 false 1)), (Prod.mk 1000 (AObj.sym ((List.take (n0 * 2) (List.drop 0 l8)) ++ [(vI n2), (vI n3)]) true 2)), (Prod.mk 900 (AObj.sym (l9) true 2))])
 False)
 False)
 False)
 False)
 False))
 (bcase (decide (n0 < n0 + 1))
 (bcase (decide ((2 * (n0 + 1) + 768) * 16 ≤ 281474976710656))
 (bcase (decide (n0 + 1 ≤ 1099511627776))
 (bcase (decide (0 + n0 * 2 ≤ List.length l8))
 (bcase (decide (0 + n0 * 2 = List.length l8))
 (B [(Prod.mk 1 (Go.Value.func (Go.Fn.func 129) [].toArray [(Go.Value.pointer (Option.some (Go.Addr.mk 901 0 Option.none)))].toArray)), (Prod.mk 5 (Go.Value.slice (Option.some (Go.Addr.mk 1000 0 Option.none)) (n0 + 1) (n0 + 1))), (Prod.mk 8 (Go.Value.slice (Option.some (Go.Addr.mk 900 0 Option.none)) (n1) (c2))), (Prod.mk 9 (vI x3)), (Prod.mk 10 (vI (IntKind.wrap .i64 (x4 + 1))))] [(Prod.mk 901 (AObj.cells [(vI x5), (vI x6), (vI x7)] 97 false 1)), (Prod.mk 1000 (AObj.sym ((List.take (n0 * 2) (List.drop 0 l8)) ++ [(vI n2), (vI n3)]) true 2)), (Prod.mk 900 (AObj.sym (l9) true 2))])
 False)
 False)
 False)
 False)
 False)))))
 False)
 False)
 (X 0 [(Prod.mk 5 (Go.Value.slice (Option.some (Go.Addr.mk 1000 0 Option.none)) (n0) (n0)))] [(Prod.mk 1000 (AObj.sym (l8) true 2)), (Prod.mk 900 (AObj.sym (l9) true 2)), (Prod.mk 901 (AObj.cells [(vI x5), (vI x6), (vI x7)] 97 false 1))])) := by kernel_rfl
def nEw4 (C : Ct) (L : AtLoop) (n0 : Nat) (l1 : List Value) (l2 : List Value) (x3 : Int) (x4 : Int) (x5 : Int) (K : Value → Blocks → Prop) : Prop := wpNext Try.prog (hE C) L 104 0 .normal [(5, (Value.slice (some ⟨1000, 0, none⟩) n0 n0))] [(1000, (AObj.sym l1 true 2)), (900, (AObj.sym l2 true 2)), (901, (AObj.cells [(Value.int .i64 x3), (Value.int .i64 x4), (Value.int .i64 x5)] 97 false 1))] (stateK K)
theorem nEw4_text (C : Ct) (L : AtLoop) (n0 : Nat) (l1 : List Go.Value) (l2 : List Go.Value) (x3 : Int) (x4 : Int) (x5 : Int) (K : Go.Value → Blocks → Prop) : nEw4 C L n0 l1 l2 x3 x4 x5 K =
 (K (Go.Value.slice (Option.some (Go.Addr.mk 1000 0 Option.none)) (n0) (n0)) [(Prod.mk 1000 (AObj.sym (l1) true 2)), (Prod.mk 900 (AObj.sym (l2) true 2)), (Prod.mk 901 (AObj.cells [(vI x3), (vI x4), (vI x5)] 97 false 1))]) := by kernel_rfl
end Go.Proofs.G5f

/- Chapter 7: functions of items that are handed a closure, as state contracts. -/
namespace Go.Proofs.G5f
open Go Go.Abs Go.Proofs Go.Proofs.G7
set_option maxRecDepth 100000
theorem v2le (l : List (Int × Int)) : 0 + l.length * 2 ≤ (vp l).length := by simp
theorem prs_vp : ∀ l : List (Int × Int), prs l = vp l
  | [] => rfl
  | p :: r => by rw [prs, prs_vp r]; rfl
theorem bkL_vp (lo hi : Int) : ∀ l : List (Int × Int), bkL lo hi (vp l) = vi (l.map fun p => bkV lo hi p.1 p.2)
  | [] => rfl
  | p :: r => by show Value.int .i64 (bkV lo hi p.1 p.2) :: bkL lo hi (vp r) = _; rw [bkL_vp lo hi r]; rfl
theorem map_range {α β : Type} (f : α → β) (l : List α) (d : α) : (List.range l.length).map (fun i => f (l.getD i d)) = l.map f := by
  apply List.ext_getElem
  · simp
  · intro i h1 h2
    have h3 : i < l.length := by simpa using h2
    simp [List.getD_eq_getElem?_getD, List.getElem?_eq_getElem h3]
abbrev pt (l : List (Int × Int)) (i : Nat) : Int × Int := l.getD i (0, 0)
theorem pt_at {l : List (Int × Int)} {i : Nat} (h : i < l.length) : l[i] = pt l i := by rw [pt, List.getD_eq_getElem?_getD, List.getElem?_eq_getElem h]; rfl
theorem at_pt {l : List (Int × Int)} {i : Nat} (h : i < l.length) : At (vp l) (0 + i * 2) 2 [vI (pt l i).1, vI (pt l i).2] := by rw [← pt_at h]; exact vp_two l i h
abbrev EbO (lo up : Int) (l : List (Int × Int)) (n : Nat) : List Value := vi ((List.range n).map fun i => bkV lo up (pt l i).1 (pt l i).2)
abbrev ebS (lo up : Int) (l : List (Int × Int)) (cap : Nat) : Nat → Slots × Blocks
  | 0 => zEb1 l.length cap l.length 0 lo up (vp l)
  | i + 1 => zEb2 (i + 1) l.length cap l.length ((i + 1 : Nat) : Int) lo up (EbO lo up l (i + 1)) (vp l)
abbrev EbK (lo up : Int) (l : List (Int × Int)) : Value → Blocks → Prop := fun v b => v = .slice (some ⟨1000, 0, none⟩) l.length l.length ∧ b = [(1000, .sym (EbO lo up l l.length) true 1), (900, .cells [vI lo, vI up] 56 false 1)]
theorem runEb (lo up : Int) (cap : Nat) (l : List (Int × Int)) (h0 : 0 < l.length) (hl : l.length < 1000000000) : CallS Try.prog 85 [.slice (some ⟨500, 0, none⟩) l.length cap, .func (.func 128) #[] #[.pointer (some ⟨900, 0, none⟩)]] [(500, .sym (vp l) false 2), (900, .cells [vI lo, vI up] 56 false 1)] (EbK lo up l) := by
  refine callS_ofG (L := fun _ s b => ∃ i, i ≤ l.length ∧ ebS lo up l cap i = (s, b)) hokE mixed Try.func85 rfl rfl (ids := [0]) (by kernel_rfl) rfl ?_ (fun id hid => ?_)
  · show gEb C5 _ lo up l.length cap (vp l) _
    rw [gEb_text]
    exact ⟨0, Nat.zero_le _, rfl⟩
  · obtain rfl := List.mem_singleton.1 hid
    refine ⟨_, ebS lo up l cap, fun i => i ≤ l.length, fun i => l.length - i, ⟨fun s b h => h, by kernel_rfl, ?_⟩⟩
    intro i hi
    have wi : i < l.length → IntKind.wrap .i64 ((i : Int) + 1) = ((i + 1 : Nat) : Int) := fun h => by rw [w64 (by omega) (by omega)]; rfl
    cases i with
    | zero =>
      show rEb1 C5 _ l.length cap l.length ((0 : Nat) : Int) lo up (vp l) _ _ _
      rw [rEb1_text]
      simp only [bc_t (show ((0 : Nat) : Int) < (l.length : Int) by omega), bc_t (show (0 : Int) ≤ ((0 : Nat) : Int) by omega), Int.toNat_natCast, at2 (at_pt h0), wi h0]
      have fin : ∀ v : Int, v = bkV lo up (pt l 0).1 (pt l 0).2 → ebS lo up l cap 1 = (_, [(900, .cells [vI lo, vI up] 56 false 1), (1000, .sym [vI v] true 1), (500, .sym (vp l) false 2)]) := fun v hv => by rw [hv]; rfl
      refine bc_dec (fun h1 => ?_) (fun h1 => bc_dec (fun h2 => ?_) (fun h2 => ?_))
      · exact ⟨1, h0, by omega, fin _ (by rw [bkV, if_pos h1])⟩
      · exact ⟨1, h0, by omega, fin _ (by rw [bkV, if_neg h1, if_pos h2])⟩
      · exact ⟨1, h0, by omega, fin _ (by rw [bkV, if_neg h1, if_neg h2])⟩
    | succ i =>
      show rEb2 C5 _ (i + 1) l.length cap l.length ((i + 1 : Nat) : Int) lo up (EbO lo up l (i + 1)) (vp l) _ _ _
      rw [rEb2_text]
      refine bc_dec (fun h => ?_) (fun h => ?_)
      · have hi1 : i + 1 < l.length := by omega
        simp only [bc_t h, bc_t (show (0 : Int) ≤ ((i + 1 : Nat) : Int) by omega), Int.toNat_natCast, at2 (at_pt hi1), wi hi1, bc_t (show i + 1 < i + 1 + 1 by omega), bc_t (show (2 * (i + 1 + 1) + 768) * 8 ≤ 281474976710656 by omega), bc_t (show i + 1 + 1 ≤ 1099511627776 by omega), bc_t (show 0 + (i + 1) * 1 ≤ (EbO lo up l (i + 1)).length by simp), bc_t (show 0 + (i + 1) * 1 = (EbO lo up l (i + 1)).length by simp), rg_take]
        have fin : ∀ v : Int, v = bkV lo up (pt l (i + 1)).1 (pt l (i + 1)).2 → ebS lo up l cap (i + 2) = (_, [(900, .cells [vI lo, vI up] 56 false 1), (1000, .sym (EbO lo up l (i + 1) ++ [vI v]) true 1), (500, .sym (vp l) false 2)]) := fun v hv => by
          have := rg_snoc (fun i => bkV lo up (pt l i).1 (pt l i).2) (i + 1)
          rw [hv, this]
        refine bc_dec (fun h1 => ?_) (fun h1 => bc_dec (fun h2 => ?_) (fun h2 => ?_))
        · exact ⟨i + 2, hi1, by omega, fin _ (by rw [bkV, if_pos h1])⟩
        · exact ⟨i + 2, hi1, by omega, fin _ (by rw [bkV, if_neg h1, if_pos h2])⟩
        · exact ⟨i + 2, hi1, by omega, fin _ (by rw [bkV, if_neg h1, if_neg h2])⟩
      · show (if 0 = 0 then _ else _)
        rw [if_pos rfl]
        show nEb4 C5 _ (i + 1) (EbO lo up l (i + 1)) lo up _
        rw [nEb4_text]
        have : i + 1 = l.length := by omega
        exact ⟨by rw [this], by rw [this]⟩
theorem eachB_ok {args : List Value} {bs : Blocks} {K : Value → Blocks → Prop} (hk : eachB 128 56 args bs K) : CallS Try.prog 85 args bs K := by
  unfold eachB at hk
  split at hk
  · split at hk
    · split at hk
      · rename_i ha hc' hc
        simp only [Bool.and_eq_true, beq_iff_eq] at hc
        obtain ⟨⟨⟨⟨⟨⟨⟨⟨⟨rfl, rfl⟩, rfl⟩, rfl⟩, rfl⟩, rfl⟩, rfl⟩, rfl⟩, rfl⟩, rfl⟩ := hc
        obtain ⟨h0, ⟨l, rfl, rfl, hl⟩, out, ho, hK⟩ := hk
        have ho : out = bkL _ _ (prs l) := ho.out
        rw [prs_vp] at *
        obtain rfl := Array.ext' (ys := #[]) ha
        obtain rfl := Array.ext' (ys := #[Value.pointer (some ⟨900, 0, none⟩)]) hc'
        refine callS_mono (runEb _ _ _ l h0 hl) ?_
        rintro v b ⟨rfl, rfl⟩
        rw [ho, bkL_vp, ← map_range (fun p => bkV _ _ p.1 p.2) l (0, 0)] at hK
        exact hK
      · exact hk.elim
    · exact hk.elim
  · exact hk.elim
end Go.Proofs.G5f

/- What is left to show of each function, written out; the kernel reckons it. -/
namespace Go.Proofs.G5f
open Go Go.Abs Go.Proofs
set_option maxRecDepth 100000
set_option linter.unusedVariables false
def gHA (C : Ct) (L : AtLoop) (n0 : Nat) (c0 : Nat) (l0 : List Value) (x1 : Int) (k : List D → Prop) : Prop := wpFn Try.prog (hU C) L 0 50 #[.slice (some ⟨500, 0, none⟩) n0 c0, .int .i64 x1] (heapOf [(500, .sym l0 false 2)]) (dataK k)
theorem gHA_text (C : Ct) (L : AtLoop) (n0 : Nat) (c0 : Nat) (l0 : List Go.Value) (x1 : Int) (k : List D → Prop) : gHA C L n0 c0 l0 x1 k =
 (bcase (decide (0 + n0 * 2 ≤ List.length l0))
 (∃ n1 : Int,
 (∃ n2 : Int,
 ((Says C 48 [(D.sl (n0) 2 (List.take (n0 * 2) (List.drop 0 l0)))] [(D.val (vI n1)), (D.val (vI n2))]) ∧
 (bcase (n2 != 0)
 (k [(D.agg [(D.val (vI (0 : Int))), (D.val (vI (0 : Int)))]), (D.val (vI n2))])
 (L 0 [(Prod.mk 0 (Go.Value.slice (Option.some (Go.Addr.mk 500 0 Option.none)) (n0) (c0))), (Prod.mk 1 (vI x1)), (Prod.mk 4 (Go.Value.pointer (Option.some (Go.Addr.mk 1000 0 Option.none)))), (Prod.mk 21 (vI (IntKind.wrap .i64 ((↑n0 : Int) - 1)))), (Prod.mk 22 (vI (0 : Int)))] [(Prod.mk 500 (AObj.sym (l0) false 2)), (Prod.mk 1000 (AObj.cells [(vI (0 : Int)), (vI (0 : Int))] 26 false 2))])))))
 False) := by kernel_rfl
abbrev zHA1 (n0 : Nat) (c1 : Nat) (x2 : Int) (x3 : Int) (x4 : Int) (l5 : List Value) (x6 : Int) (x7 : Int) : Slots × Blocks := ([(0, (Value.slice (some ⟨500, 0, none⟩) n0 c1)), (1, (Value.int .i64 x2)), (4, (Value.pointer (some ⟨1000, 0, none⟩))), (21, (Value.int .i64 x3)), (22, (Value.int .i64 x4))], [(500, (AObj.sym l5 false 2)), (1000, (AObj.cells [(Value.int .i64 x6), (Value.int .i64 x7)] 26 false 2))])
def rHA1 (C : Ct) (L : AtLoop) (n0 : Nat) (c1 : Nat) (x2 : Int) (x3 : Int) (x4 : Int) (l5 : List Value) (x6 : Int) (x7 : Int) (B : Bx) (X : Xx) (k : List D → Prop) : Prop := wpRound Try.prog (hU C) L 50 0 [(0, (Value.slice (some ⟨500, 0, none⟩) n0 c1)), (1, (Value.int .i64 x2)), (4, (Value.pointer (some ⟨1000, 0, none⟩))), (21, (Value.int .i64 x3)), (22, (Value.int .i64 x4))] [(500, (AObj.sym l5 false 2)), (1000, (AObj.cells [(Value.int .i64 x6), (Value.int .i64 x7)] 26 false 2))] B X (dataK k)
theorem rHA1_text (C : Ct) (L : AtLoop) (n0 : Nat) (c1 : Nat) (x2 : Int) (x3 : Int) (x4 : Int) (l5 : List Go.Value) (x6 : Int) (x7 : Int) (B : Bx) (X : Xx) (k : List D → Prop) : rHA1 C L n0 c1 x2 x3 x4 l5 x6 x7 B X k =
 (bcase (decide (x4 < x3))
 (bcase (decide (0 ≤ IntKind.wrap .i64 (x4 + 2)))
 (bcase (decide (IntKind.wrap .i64 (x4 + 2) ≤ (↑c1 : Int)))
 (bcase (decide (0 ≤ x4))
 (bcase (decide (x4 ≤ (↑(Int.toNat (IntKind.wrap .i64 (x4 + 2))) : Int)))
 (bcase (c1 == Int.toNat x4)
 (bcase (decide (2 ≤ Int.toNat (IntKind.wrap .i64 (x4 + 2)) - Int.toNat x4))
 (∃ n1 : Int,
 (∃ n2 : Int,
 (∃ n3 : Int,
 (∃ n4 : Int,
 ((At (l5) 0 4 [(vI n1), (vI n2), (vI n3), (vI n4)]) ∧
 (((Says C 99 [(D.agg [(D.val (vI n1)), (D.val (vI n2)), (D.val (vI n3)), (D.val (vI n4))]), (D.val (vI x2))] [(D.val (Value.bool true))]) ∧
 (∃ n5 : Int,
 (∃ n6 : Int,
 ((Says C 100 [(D.agg [(D.val (vI n1)), (D.val (vI n2)), (D.val (vI n3)), (D.val (vI n4))]), (D.val (vI x2))] [(D.agg [(D.val (vI n5)), (D.val (vI n6))])]) ∧
 (k [(D.agg [(D.val (vI n5)), (D.val (vI n6))]), (D.val (vI (0 : Int)))]))))) ∨
 ((Says C 99 [(D.agg [(D.val (vI n1)), (D.val (vI n2)), (D.val (vI n3)), (D.val (vI n4))]), (D.val (vI x2))] [(D.val (Value.bool false))]) ∧
 (B [(Prod.mk 0 (Go.Value.slice (Option.some (Go.Addr.mk 500 0 Option.none)) (n0) (c1))), (Prod.mk 1 (vI x2)), (Prod.mk 4 (Go.Value.pointer (Option.some (Go.Addr.mk 1000 0 Option.none)))), (Prod.mk 21 (vI x3)), (Prod.mk 22 (vI (IntKind.wrap .i64 (x4 + 1))))] [(Prod.mk 500 (AObj.sym (l5) false 2)), (Prod.mk 1000 (AObj.cells [(vI x6), (vI x7)] 26 false 2))]))))))))
 False)
 (bcase (decide (2 ≤ Int.toNat (IntKind.wrap .i64 (x4 + 2)) - Int.toNat x4))
 (∃ n1 : Int,
 (∃ n2 : Int,
 (∃ n3 : Int,
 (∃ n4 : Int,
 ((At (l5) (0 + Int.toNat x4 * 2) 4 [(vI n1), (vI n2), (vI n3), (vI n4)]) ∧
 (((Says C 99 [(D.agg [(D.val (vI n1)), (D.val (vI n2)), (D.val (vI n3)), (D.val (vI n4))]), (D.val (vI x2))] [(D.val (Value.bool true))]) ∧
 (∃ n5 : Int,
 (∃ n6 : Int,
 ((Says C 100 [(D.agg [(D.val (vI n1)), (D.val (vI n2)), (D.val (vI n3)), (D.val (vI n4))]), (D.val (vI x2))] [(D.agg [(D.val (vI n5)), (D.val (vI n6))])]) ∧
 (k [(D.agg [(D.val (vI n5)), (D.val (vI n6))]), (D.val (vI (0 : Int)))]))))) ∨
 ((Says C 99 [(D.agg [(D.val (vI n1)), (D.val (vI n2)), (D.val (vI n3)), (D.val (vI n4))]), (D.val (vI x2))] [(D.val (Value.bool false))]) ∧
 (B [(Prod.mk 0 (Go.Value.slice (Option.some (Go.Addr.mk 500 0 Option.none)) (n0) (c1))), (Prod.mk 1 (vI x2)), (Prod.mk 4 (Go.Value.pointer (Option.some (Go.Addr.mk 1000 0 Option.none)))), (Prod.mk 21 (vI x3)), (Prod.mk 22 (vI (IntKind.wrap .i64 (x4 + 1))))] [(Prod.mk 500 (AObj.sym (l5) false 2)), (Prod.mk 1000 (AObj.cells [(vI x6), (vI x7)] 26 false 2))]))))))))
 False))
 False)
 False)
 False)
 False)
 (X 0 [(Prod.mk 4 (Go.Value.pointer (Option.some (Go.Addr.mk 1000 0 Option.none))))] [(Prod.mk 1000 (AObj.cells [(vI x6), (vI x7)] 26 false 2))])) := by kernel_rfl
def nHA2 (C : Ct) (L : AtLoop) (x0 : Int) (x1 : Int) (k : List D → Prop) : Prop := wpNext Try.prog (hU C) L 50 0 .normal [(4, (Value.pointer (some ⟨1000, 0, none⟩)))] [(1000, (AObj.cells [(Value.int .i64 x0), (Value.int .i64 x1)] 26 false 2))] (dataK k)
theorem nHA2_text (C : Ct) (L : AtLoop) (x0 : Int) (x1 : Int) (k : List D → Prop) : nHA2 C L x0 x1 k =
 (k [(D.agg [(D.val (vI (0 : Int))), (D.val (vI (0 : Int)))]), (D.val (vI (21 : Int)))]) := by kernel_rfl
def gKC (C : Ct) (L : AtLoop) (n0 : Nat) (c0 : Nat) (l0 : List Value) (k : List D → Prop) : Prop := wpFn Try.prog (hU C) L 0 48 #[.slice (some ⟨500, 0, none⟩) n0 c0] (heapOf [(500, .sym l0 false 2)]) (dataK k)
theorem gKC_text (C : Ct) (L : AtLoop) (n0 : Nat) (c0 : Nat) (l0 : List Go.Value) (k : List D → Prop) : gKC C L n0 c0 l0 k =
 (∃ n1 : Int,
 ((Says C 68 [(D.val (vI ((↑n0 : Int)))), (D.val (vI (2 : Int))), (D.val (vI (10 : Int)))] [(D.val (vI n1))]) ∧
 (bcase (n1 != 0)
 (k [(D.val (vI (0 : Int))), (D.val (vI n1))])
 ((∃ l1 : List (Int × Int),
 (((l0) = (prs l1)) ∧
 (((n0) = (List.length l1)) ∧
 ((List.length l1) < 1000000000)))) ∧
 (∃ r11 : Int,
 (∃ r21 : Int,
 (∃ r31 : Int,
 ((Says fpC 0 [(D.val (vI (-(0 + 1) : Int))), (D.sl (n0) 2 (l0))] [(D.val (vI r11)), (D.val (vI r21)), (D.val (vI r31))]) ∧
 (k [(D.val (vI r11)), (D.val (vI r21))]))))))))) := by kernel_rfl
def gKS (C : Ct) (L : AtLoop) (x0 : Int) (x1 : Int) (x2 : Int) (k : List D → Prop) : Prop := wpFn Try.prog (hU C) L 0 102 #[.agg #[.int .i64 x0, .int .i64 x1, .int .i64 x2]] (heapOf []) (dataK k)
theorem gKS_text (C : Ct) (L : AtLoop) (x0 : Int) (x1 : Int) (x2 : Int) (k : List D → Prop) : gKS C L x0 x1 x2 k =
 (((((Go.Value.slice (Option.some (Go.Addr.mk 1003 0 Option.none)) 1 1) = (Go.Value.slice (Option.some (Go.Addr.mk 1003 0 Option.none)) 1 1)) ∧
 ((Option.some (AObj.cells [(vI x2)] 3 false 1)) = (Option.some (AObj.cells [(vI x2)] 3 false 1)))) ∧
 (((vI x2) = (vI x2)) ∧
 (((Go.Value.pointer (Option.some (Go.Addr.mk 1000 2 Option.none))) = (Go.Value.pointer (Option.some (Go.Addr.mk 1000 2 Option.none)))) ∧
 ((((Go.Value.slice (Option.some (Go.Addr.mk 1002 0 Option.none)) 1 1) = (Go.Value.slice (Option.some (Go.Addr.mk 1002 0 Option.none)) 1 1)) ∧
 ((Option.some (AObj.cells [(vI x0), (vI x1)] 56 false 2)) = (Option.some (AObj.cells [(vI x0), (vI x1)] 56 false 2)))) ∧
 (((Go.Value.agg [(vI x0), (vI x1)].toArray) = (Go.Value.agg [(vI x0), (vI x1)].toArray)) ∧
 (((Go.Value.pointer (Option.some (Go.Addr.mk 1000 0 Option.none))) = (Go.Value.pointer (Option.some (Go.Addr.mk 1000 0 Option.none)))) ∧
 ((((Go.Value.slice (Option.some (Go.Addr.mk 1001 0 Option.none)) 2 2) = (Go.Value.slice (Option.some (Go.Addr.mk 1001 0 Option.none)) 2 2)) ∧
 ((Option.some (AObj.cells [(vI x0), (vI x1)] 3 false 1)) = (Option.some (AObj.cells [(vI x0), (vI x1)] 3 false 1)))) ∧
 (((vI x1) = (vI x1)) ∧
 (((Go.Value.pointer (Option.some (Go.Addr.mk 1000 1 Option.none))) = (Go.Value.pointer (Option.some (Go.Addr.mk 1000 1 Option.none)))) ∧
 (((Go.Value.pointer (Option.some (Go.Addr.mk 1000 0 Option.none))) = (Go.Value.pointer (Option.some (Go.Addr.mk 1000 0 Option.none)))) ∧
 (((vI x0) = (vI x0)) ∧
 (((Go.Value.pointer (Option.some (Go.Addr.mk 1000 0 Option.none))) = (Go.Value.pointer (Option.some (Go.Addr.mk 1000 0 Option.none)))) ∧
 (((Go.Value.pointer (Option.some (Go.Addr.mk 1000 0 Option.none))) = (Go.Value.pointer (Option.some (Go.Addr.mk 1000 0 Option.none)))) ∧
 True))))))))))))) ∧
 (((((Go.Value.slice (Option.some (Go.Addr.mk 1003 0 Option.none)) 1 1) = (Go.Value.slice (Option.some (Go.Addr.mk 1003 0 Option.none)) 1 1)) ∧
 ((Option.some (AObj.cells [(vI x2)] 3 false 1)) = (Option.some (AObj.cells [(vI x2)] 3 false 1)))) ∧
 (((vI x2) = (vI x2)) ∧
 (((Go.Value.pointer (Option.some (Go.Addr.mk 1000 2 Option.none))) = (Go.Value.pointer (Option.some (Go.Addr.mk 1000 2 Option.none)))) ∧
 ((((Go.Value.slice (Option.some (Go.Addr.mk 1002 0 Option.none)) 1 1) = (Go.Value.slice (Option.some (Go.Addr.mk 1002 0 Option.none)) 1 1)) ∧
 ((Option.some (AObj.cells [(vI x0), (vI x1)] 56 false 2)) = (Option.some (AObj.cells [(vI x0), (vI x1)] 56 false 2)))) ∧
 (((Go.Value.agg [(vI x0), (vI x1)].toArray) = (Go.Value.agg [(vI x0), (vI x1)].toArray)) ∧
 (((Go.Value.pointer (Option.some (Go.Addr.mk 1000 0 Option.none))) = (Go.Value.pointer (Option.some (Go.Addr.mk 1000 0 Option.none)))) ∧
 ((((Go.Value.slice (Option.some (Go.Addr.mk 1001 0 Option.none)) 2 2) = (Go.Value.slice (Option.some (Go.Addr.mk 1001 0 Option.none)) 2 2)) ∧
 ((Option.some (AObj.cells [(vI x0), (vI x1)] 3 false 1)) = (Option.some (AObj.cells [(vI x0), (vI x1)] 3 false 1)))) ∧
 (((vI x1) = (vI x1)) ∧
 (((Go.Value.pointer (Option.some (Go.Addr.mk 1000 1 Option.none))) = (Go.Value.pointer (Option.some (Go.Addr.mk 1000 1 Option.none)))) ∧
 (((Go.Value.pointer (Option.some (Go.Addr.mk 1000 0 Option.none))) = (Go.Value.pointer (Option.some (Go.Addr.mk 1000 0 Option.none)))) ∧
 (((vI x0) = (vI x0)) ∧
 (((Go.Value.pointer (Option.some (Go.Addr.mk 1000 0 Option.none))) = (Go.Value.pointer (Option.some (Go.Addr.mk 1000 0 Option.none)))) ∧
 (((Go.Value.pointer (Option.some (Go.Addr.mk 1000 0 Option.none))) = (Go.Value.pointer (Option.some (Go.Addr.mk 1000 0 Option.none)))) ∧
 True))))))))))))) ∧
 (∃ r1 : Int,
 ((Says witC 0 [(D.val (vI (0 : Int))), (D.val (vI (10000 : Int))), (D.val (vI (2 : Int))), (D.sl 2 1 [(vI x0), (vI x1)])] [(D.val (vI r1))]) ∧
 (((((Go.Value.slice (Option.some (Go.Addr.mk 1003 0 Option.none)) 1 1) = (Go.Value.slice (Option.some (Go.Addr.mk 1003 0 Option.none)) 1 1)) ∧
 ((Option.some (AObj.cells [(vI x2)] 3 false 1)) = (Option.some (AObj.cells [(vI x2)] 3 false 1)))) ∧
 (((vI x2) = (vI x2)) ∧
 (((Go.Value.pointer (Option.some (Go.Addr.mk 1000 2 Option.none))) = (Go.Value.pointer (Option.some (Go.Addr.mk 1000 2 Option.none)))) ∧
 ((((Go.Value.slice (Option.some (Go.Addr.mk 1002 0 Option.none)) 1 1) = (Go.Value.slice (Option.some (Go.Addr.mk 1002 0 Option.none)) 1 1)) ∧
 ((Option.some (AObj.cells [(vI x0), (vI x1)] 56 false 2)) = (Option.some (AObj.cells [(vI x0), (vI x1)] 56 false 2)))) ∧
 (((Go.Value.agg [(vI x0), (vI x1)].toArray) = (Go.Value.agg [(vI x0), (vI x1)].toArray)) ∧
 (((Go.Value.pointer (Option.some (Go.Addr.mk 1000 0 Option.none))) = (Go.Value.pointer (Option.some (Go.Addr.mk 1000 0 Option.none)))) ∧
 (((vI x1) = (vI x1)) ∧
 (((Go.Value.pointer (Option.some (Go.Addr.mk 1000 1 Option.none))) = (Go.Value.pointer (Option.some (Go.Addr.mk 1000 1 Option.none)))) ∧
 (((Go.Value.pointer (Option.some (Go.Addr.mk 1000 0 Option.none))) = (Go.Value.pointer (Option.some (Go.Addr.mk 1000 0 Option.none)))) ∧
 (((vI x0) = (vI x0)) ∧
 (((Go.Value.pointer (Option.some (Go.Addr.mk 1000 0 Option.none))) = (Go.Value.pointer (Option.some (Go.Addr.mk 1000 0 Option.none)))) ∧
 (((Go.Value.pointer (Option.some (Go.Addr.mk 1000 0 Option.none))) = (Go.Value.pointer (Option.some (Go.Addr.mk 1000 0 Option.none)))) ∧
 True)))))))))))) ∧
 (bcase (decide (x0 > x1))
 (((((Go.Value.slice (Option.some (Go.Addr.mk 1003 0 Option.none)) 1 1) = (Go.Value.slice (Option.some (Go.Addr.mk 1003 0 Option.none)) 1 1)) ∧
 ((Option.some (AObj.cells [(vI x2)] 3 false 1)) = (Option.some (AObj.cells [(vI x2)] 3 false 1)))) ∧
 (((vI x2) = (vI x2)) ∧
 (((Go.Value.pointer (Option.some (Go.Addr.mk 1000 2 Option.none))) = (Go.Value.pointer (Option.some (Go.Addr.mk 1000 2 Option.none)))) ∧
 (((Go.Value.agg [(vI x0), (vI x1)].toArray) = (Go.Value.agg [(vI x0), (vI x1)].toArray)) ∧
 (((Go.Value.pointer (Option.some (Go.Addr.mk 1000 0 Option.none))) = (Go.Value.pointer (Option.some (Go.Addr.mk 1000 0 Option.none)))) ∧
 (((vI x1) = (vI x1)) ∧
 (((Go.Value.pointer (Option.some (Go.Addr.mk 1000 1 Option.none))) = (Go.Value.pointer (Option.some (Go.Addr.mk 1000 1 Option.none)))) ∧
 (((Go.Value.pointer (Option.some (Go.Addr.mk 1000 0 Option.none))) = (Go.Value.pointer (Option.some (Go.Addr.mk 1000 0 Option.none)))) ∧
 (((vI x0) = (vI x0)) ∧
 (((Go.Value.pointer (Option.some (Go.Addr.mk 1000 0 Option.none))) = (Go.Value.pointer (Option.some (Go.Addr.mk 1000 0 Option.none)))) ∧
 (((Go.Value.pointer (Option.some (Go.Addr.mk 1000 0 Option.none))) = (Go.Value.pointer (Option.some (Go.Addr.mk 1000 0 Option.none)))) ∧
 True))))))))))) ∧
 (((((Go.Value.slice (Option.some (Go.Addr.mk 1003 0 Option.none)) 1 1) = (Go.Value.slice (Option.some (Go.Addr.mk 1003 0 Option.none)) 1 1)) ∧
 ((Option.some (AObj.cells [(vI x2)] 3 false 1)) = (Option.some (AObj.cells [(vI x2)] 3 false 1)))) ∧
 (((vI x2) = (vI x2)) ∧
 (((Go.Value.pointer (Option.some (Go.Addr.mk 1000 2 Option.none))) = (Go.Value.pointer (Option.some (Go.Addr.mk 1000 2 Option.none)))) ∧
 (((Go.Value.agg [(vI x0), (vI x1)].toArray) = (Go.Value.agg [(vI x0), (vI x1)].toArray)) ∧
 (((Go.Value.pointer (Option.some (Go.Addr.mk 1000 0 Option.none))) = (Go.Value.pointer (Option.some (Go.Addr.mk 1000 0 Option.none)))) ∧
 (((vI x1) = (vI x1)) ∧
 (((Go.Value.pointer (Option.some (Go.Addr.mk 1000 1 Option.none))) = (Go.Value.pointer (Option.some (Go.Addr.mk 1000 1 Option.none)))) ∧
 (((Go.Value.pointer (Option.some (Go.Addr.mk 1000 0 Option.none))) = (Go.Value.pointer (Option.some (Go.Addr.mk 1000 0 Option.none)))) ∧
 (((vI x0) = (vI x0)) ∧
 (((Go.Value.pointer (Option.some (Go.Addr.mk 1000 0 Option.none))) = (Go.Value.pointer (Option.some (Go.Addr.mk 1000 0 Option.none)))) ∧
 (((Go.Value.pointer (Option.some (Go.Addr.mk 1000 0 Option.none))) = (Go.Value.pointer (Option.some (Go.Addr.mk 1000 0 Option.none)))) ∧
 True))))))))))) ∧
 (∃ r2 : Int,
 ((Says witC 0 [(D.val (vI (0 : Int))), (D.val (vI (1000 : Int))), (D.val (vI (2 : Int))), (D.sl 1 1 [(vI x2)])] [(D.val (vI r2))]) ∧
 (((((Go.Value.slice (Option.some (Go.Addr.mk 1009 0 Option.none)) 3 3) = (Go.Value.slice (Option.some (Go.Addr.mk 1009 0 Option.none)) 3 3)) ∧
 ((Option.some (AObj.cells [(vI r1), (vI (9 : Int)), (vI r2)] 27 false 1)) = (Option.some (AObj.cells [(vI r1), (vI (9 : Int)), (vI r2)] 27 false 1)))) ∧
 (((vI x2) = (vI x2)) ∧
 (((Go.Value.pointer (Option.some (Go.Addr.mk 1000 2 Option.none))) = (Go.Value.pointer (Option.some (Go.Addr.mk 1000 2 Option.none)))) ∧
 (((Go.Value.agg [(vI x0), (vI x1)].toArray) = (Go.Value.agg [(vI x0), (vI x1)].toArray)) ∧
 (((Go.Value.pointer (Option.some (Go.Addr.mk 1000 0 Option.none))) = (Go.Value.pointer (Option.some (Go.Addr.mk 1000 0 Option.none)))) ∧
 (((vI x1) = (vI x1)) ∧
 (((Go.Value.pointer (Option.some (Go.Addr.mk 1000 1 Option.none))) = (Go.Value.pointer (Option.some (Go.Addr.mk 1000 1 Option.none)))) ∧
 (((Go.Value.pointer (Option.some (Go.Addr.mk 1000 0 Option.none))) = (Go.Value.pointer (Option.some (Go.Addr.mk 1000 0 Option.none)))) ∧
 (((vI x0) = (vI x0)) ∧
 (((Go.Value.pointer (Option.some (Go.Addr.mk 1000 0 Option.none))) = (Go.Value.pointer (Option.some (Go.Addr.mk 1000 0 Option.none)))) ∧
 (((Go.Value.pointer (Option.some (Go.Addr.mk 1000 0 Option.none))) = (Go.Value.pointer (Option.some (Go.Addr.mk 1000 0 Option.none)))) ∧
 True))))))))))) ∧
 (∃ n1 : Int,
 ((Says C 67 [(D.sl 3 1 [(vI r1), (vI (9 : Int)), (vI r2)])] [(D.val (vI n1))]) ∧
 ((((vI x2) = (vI x2)) ∧
 (((Go.Value.pointer (Option.some (Go.Addr.mk 1000 2 Option.none))) = (Go.Value.pointer (Option.some (Go.Addr.mk 1000 2 Option.none)))) ∧
 (((Go.Value.agg [(vI x0), (vI x1)].toArray) = (Go.Value.agg [(vI x0), (vI x1)].toArray)) ∧
 (((Go.Value.pointer (Option.some (Go.Addr.mk 1000 0 Option.none))) = (Go.Value.pointer (Option.some (Go.Addr.mk 1000 0 Option.none)))) ∧
 (((vI x1) = (vI x1)) ∧
 (((Go.Value.pointer (Option.some (Go.Addr.mk 1000 1 Option.none))) = (Go.Value.pointer (Option.some (Go.Addr.mk 1000 1 Option.none)))) ∧
 (((Go.Value.pointer (Option.some (Go.Addr.mk 1000 0 Option.none))) = (Go.Value.pointer (Option.some (Go.Addr.mk 1000 0 Option.none)))) ∧
 (((vI x0) = (vI x0)) ∧
 (((Go.Value.pointer (Option.some (Go.Addr.mk 1000 0 Option.none))) = (Go.Value.pointer (Option.some (Go.Addr.mk 1000 0 Option.none)))) ∧
 (((Go.Value.pointer (Option.some (Go.Addr.mk 1000 0 Option.none))) = (Go.Value.pointer (Option.some (Go.Addr.mk 1000 0 Option.none)))) ∧
 True)))))))))) ∧
 (True ∧
 (k [(D.val (vI n1))]))))))))))
 (((((Go.Value.slice (Option.some (Go.Addr.mk 1003 0 Option.none)) 1 1) = (Go.Value.slice (Option.some (Go.Addr.mk 1003 0 Option.none)) 1 1)) ∧
 ((Option.some (AObj.cells [(vI x2)] 3 false 1)) = (Option.some (AObj.cells [(vI x2)] 3 false 1)))) ∧
 (((vI x2) = (vI x2)) ∧
 (((Go.Value.pointer (Option.some (Go.Addr.mk 1000 2 Option.none))) = (Go.Value.pointer (Option.some (Go.Addr.mk 1000 2 Option.none)))) ∧
 (((Go.Value.agg [(vI x0), (vI x1)].toArray) = (Go.Value.agg [(vI x0), (vI x1)].toArray)) ∧
 (((Go.Value.pointer (Option.some (Go.Addr.mk 1000 0 Option.none))) = (Go.Value.pointer (Option.some (Go.Addr.mk 1000 0 Option.none)))) ∧
 (((vI x1) = (vI x1)) ∧
 (((Go.Value.pointer (Option.some (Go.Addr.mk 1000 1 Option.none))) = (Go.Value.pointer (Option.some (Go.Addr.mk 1000 1 Option.none)))) ∧
 (((Go.Value.pointer (Option.some (Go.Addr.mk 1000 0 Option.none))) = (Go.Value.pointer (Option.some (Go.Addr.mk 1000 0 Option.none)))) ∧
 (((vI x0) = (vI x0)) ∧
 (((Go.Value.pointer (Option.some (Go.Addr.mk 1000 0 Option.none))) = (Go.Value.pointer (Option.some (Go.Addr.mk 1000 0 Option.none)))) ∧
 (((Go.Value.pointer (Option.some (Go.Addr.mk 1000 0 Option.none))) = (Go.Value.pointer (Option.some (Go.Addr.mk 1000 0 Option.none)))) ∧
 True))))))))))) ∧
 (((((Go.Value.slice (Option.some (Go.Addr.mk 1003 0 Option.none)) 1 1) = (Go.Value.slice (Option.some (Go.Addr.mk 1003 0 Option.none)) 1 1)) ∧
 ((Option.some (AObj.cells [(vI x2)] 3 false 1)) = (Option.some (AObj.cells [(vI x2)] 3 false 1)))) ∧
 (((vI x2) = (vI x2)) ∧
 (((Go.Value.pointer (Option.some (Go.Addr.mk 1000 2 Option.none))) = (Go.Value.pointer (Option.some (Go.Addr.mk 1000 2 Option.none)))) ∧
 (((Go.Value.agg [(vI x0), (vI x1)].toArray) = (Go.Value.agg [(vI x0), (vI x1)].toArray)) ∧
 (((Go.Value.pointer (Option.some (Go.Addr.mk 1000 0 Option.none))) = (Go.Value.pointer (Option.some (Go.Addr.mk 1000 0 Option.none)))) ∧
 (((vI x1) = (vI x1)) ∧
 (((Go.Value.pointer (Option.some (Go.Addr.mk 1000 1 Option.none))) = (Go.Value.pointer (Option.some (Go.Addr.mk 1000 1 Option.none)))) ∧
 (((Go.Value.pointer (Option.some (Go.Addr.mk 1000 0 Option.none))) = (Go.Value.pointer (Option.some (Go.Addr.mk 1000 0 Option.none)))) ∧
 (((vI x0) = (vI x0)) ∧
 (((Go.Value.pointer (Option.some (Go.Addr.mk 1000 0 Option.none))) = (Go.Value.pointer (Option.some (Go.Addr.mk 1000 0 Option.none)))) ∧
 (((Go.Value.pointer (Option.some (Go.Addr.mk 1000 0 Option.none))) = (Go.Value.pointer (Option.some (Go.Addr.mk 1000 0 Option.none)))) ∧
 True))))))))))) ∧
 (∃ r2 : Int,
 ((Says witC 0 [(D.val (vI (0 : Int))), (D.val (vI (1000 : Int))), (D.val (vI (2 : Int))), (D.sl 1 1 [(vI x2)])] [(D.val (vI r2))]) ∧
 (((((Go.Value.slice (Option.some (Go.Addr.mk 1009 0 Option.none)) 3 3) = (Go.Value.slice (Option.some (Go.Addr.mk 1009 0 Option.none)) 3 3)) ∧
 ((Option.some (AObj.cells [(vI r1), (vI (0 : Int)), (vI r2)] 27 false 1)) = (Option.some (AObj.cells [(vI r1), (vI (0 : Int)), (vI r2)] 27 false 1)))) ∧
 (((vI x2) = (vI x2)) ∧
 (((Go.Value.pointer (Option.some (Go.Addr.mk 1000 2 Option.none))) = (Go.Value.pointer (Option.some (Go.Addr.mk 1000 2 Option.none)))) ∧
 (((Go.Value.agg [(vI x0), (vI x1)].toArray) = (Go.Value.agg [(vI x0), (vI x1)].toArray)) ∧
 (((Go.Value.pointer (Option.some (Go.Addr.mk 1000 0 Option.none))) = (Go.Value.pointer (Option.some (Go.Addr.mk 1000 0 Option.none)))) ∧
 (((vI x1) = (vI x1)) ∧
 (((Go.Value.pointer (Option.some (Go.Addr.mk 1000 1 Option.none))) = (Go.Value.pointer (Option.some (Go.Addr.mk 1000 1 Option.none)))) ∧
 (((Go.Value.pointer (Option.some (Go.Addr.mk 1000 0 Option.none))) = (Go.Value.pointer (Option.some (Go.Addr.mk 1000 0 Option.none)))) ∧
 (((vI x0) = (vI x0)) ∧
 (((Go.Value.pointer (Option.some (Go.Addr.mk 1000 0 Option.none))) = (Go.Value.pointer (Option.some (Go.Addr.mk 1000 0 Option.none)))) ∧
 (((Go.Value.pointer (Option.some (Go.Addr.mk 1000 0 Option.none))) = (Go.Value.pointer (Option.some (Go.Addr.mk 1000 0 Option.none)))) ∧
 True))))))))))) ∧
 (∃ n1 : Int,
 ((Says C 67 [(D.sl 3 1 [(vI r1), (vI (0 : Int)), (vI r2)])] [(D.val (vI n1))]) ∧
 ((((vI x2) = (vI x2)) ∧
 (((Go.Value.pointer (Option.some (Go.Addr.mk 1000 2 Option.none))) = (Go.Value.pointer (Option.some (Go.Addr.mk 1000 2 Option.none)))) ∧
 (((Go.Value.agg [(vI x0), (vI x1)].toArray) = (Go.Value.agg [(vI x0), (vI x1)].toArray)) ∧
 (((Go.Value.pointer (Option.some (Go.Addr.mk 1000 0 Option.none))) = (Go.Value.pointer (Option.some (Go.Addr.mk 1000 0 Option.none)))) ∧
 (((vI x1) = (vI x1)) ∧
 (((Go.Value.pointer (Option.some (Go.Addr.mk 1000 1 Option.none))) = (Go.Value.pointer (Option.some (Go.Addr.mk 1000 1 Option.none)))) ∧
 (((Go.Value.pointer (Option.some (Go.Addr.mk 1000 0 Option.none))) = (Go.Value.pointer (Option.some (Go.Addr.mk 1000 0 Option.none)))) ∧
 (((vI x0) = (vI x0)) ∧
 (((Go.Value.pointer (Option.some (Go.Addr.mk 1000 0 Option.none))) = (Go.Value.pointer (Option.some (Go.Addr.mk 1000 0 Option.none)))) ∧
 (((Go.Value.pointer (Option.some (Go.Addr.mk 1000 0 Option.none))) = (Go.Value.pointer (Option.some (Go.Addr.mk 1000 0 Option.none)))) ∧
 True)))))))))) ∧
 (True ∧
 (k [(D.val (vI n1))])))))))))))))))) := by kernel_rfl
def gFs (C : Ct) (L : AtLoop) (n0 : Nat) (c0 : Nat) (l0 : List Value) (k : List D → Prop) : Prop := wpFn Try.prog (hU C) L 0 101 #[.slice (some ⟨500, 0, none⟩) n0 c0, .func (.func 102) #[] #[]] (heapOf [(500, .sym l0 false 3)]) (dataK k)
theorem gFs_text (C : Ct) (L : AtLoop) (n0 : Nat) (c0 : Nat) (l0 : List Go.Value) (k : List D → Prop) : gFs C L n0 c0 l0 k =
 (L 0 [(Prod.mk 1 (Go.Value.func (Go.Fn.func 102) [].toArray [].toArray)), (Prod.mk 9 (Go.Value.slice (Option.some (Go.Addr.mk 500 0 Option.none)) (n0) (c0))), (Prod.mk 10 (vI ((↑n0 : Int)))), (Prod.mk 11 (vI (0 : Int)))] [(Prod.mk 500 (AObj.sym (l0) false 3))]) := by kernel_rfl
abbrev zFs1 (n0 : Nat) (c1 : Nat) (x2 : Int) (x3 : Int) (l4 : List Value) : Slots × Blocks := ([(1, (Value.func (.func 102) #[] #[])), (9, (Value.slice (some ⟨500, 0, none⟩) n0 c1)), (10, (Value.int .i64 x2)), (11, (Value.int .i64 x3))], [(500, (AObj.sym l4 false 3))])
def rFs1 (C : Ct) (L : AtLoop) (n0 : Nat) (c1 : Nat) (x2 : Int) (x3 : Int) (l4 : List Value) (B : Bx) (X : Xx) (k : List D → Prop) : Prop := wpRound Try.prog (hU C) L 101 0 [(1, (Value.func (.func 102) #[] #[])), (9, (Value.slice (some ⟨500, 0, none⟩) n0 c1)), (10, (Value.int .i64 x2)), (11, (Value.int .i64 x3))] [(500, (AObj.sym l4 false 3))] B X (dataK k)
theorem rFs1_text (C : Ct) (L : AtLoop) (n0 : Nat) (c1 : Nat) (x2 : Int) (x3 : Int) (l4 : List Go.Value) (B : Bx) (X : Xx) (k : List D → Prop) : rFs1 C L n0 c1 x2 x3 l4 B X k =
 (bcase (decide (x3 < x2))
 (bcase (decide (0 ≤ x3))
 (bcase (decide (x3 < (↑n0 : Int)))
 (∃ n1 : Int,
 (∃ n2 : Int,
 (∃ n3 : Int,
 ((At (l4) (0 + Int.toNat x3 * 3) 3 [(vI n1), (vI n2), (vI n3)]) ∧
 (∃ n4 : Int,
 ((Says C 102 [(D.agg [(D.val (vI n1)), (D.val (vI n2)), (D.val (vI n3))])] [(D.val (vI n4))]) ∧
 (bcase (n4 != 0)
 (k [(D.val (vI x3)), (D.val (vI n4))])
 (B [(Prod.mk 1 (Go.Value.func (Go.Fn.func 102) [].toArray [].toArray)), (Prod.mk 9 (Go.Value.slice (Option.some (Go.Addr.mk 500 0 Option.none)) (n0) (c1))), (Prod.mk 10 (vI x2)), (Prod.mk 11 (vI (IntKind.wrap .i64 (x3 + 1))))] [(Prod.mk 500 (AObj.sym (l4) false 3))]))))))))
 False)
 False)
 (X 0 [] [])) := by kernel_rfl
def nFs2 (C : Ct) (L : AtLoop) (k : List D → Prop) : Prop := wpNext Try.prog (hU C) L 101 0 .normal [] [] (dataK k)
theorem nFs2_text (C : Ct) (L : AtLoop) (k : List D → Prop) : nFs2 C L k =
 (k [(D.val (vI (0 : Int))), (D.val (vI (0 : Int)))]) := by kernel_rfl
def gPh (C : Ct) (L : AtLoop) (x0 : Int) (x1 : Int) (x2 : Int) (x3 : Int) (x4 : Int) (k : List D → Prop) : Prop := wpFn Try.prog (hU C) L 0 99 #[.agg #[.int .i64 x0, .int .i64 x1, .int .i64 x2, .int .i64 x3], .int .i64 x4] (heapOf []) (dataK k)
theorem gPh_text (C : Ct) (L : AtLoop) (x0 : Int) (x1 : Int) (x2 : Int) (x3 : Int) (x4 : Int) (k : List D → Prop) : gPh C L x0 x1 x2 x3 x4 k =
 (bcase (decide (x0 ≤ x4))
 (bcase (decide (x4 ≤ x2))
 (k [(D.val (Value.bool true))])
 (k [(D.val (Value.bool false))]))
 (k [(D.val (Value.bool false))])) := by kernel_rfl
def gPt (C : Ct) (L : AtLoop) (x0 : Int) (x1 : Int) (x2 : Int) (x3 : Int) (x4 : Int) (k : List D → Prop) : Prop := wpFn Try.prog (hU C) L 0 100 #[.agg #[.int .i64 x0, .int .i64 x1, .int .i64 x2, .int .i64 x3], .int .i64 x4] (heapOf []) (dataK k)
theorem gPt_text (C : Ct) (L : AtLoop) (x0 : Int) (x1 : Int) (x2 : Int) (x3 : Int) (x4 : Int) (k : List D → Prop) : gPt C L x0 x1 x2 x3 x4 k =
 ((((vI (IntKind.wrap .i64 (x3 - x1))) = (vI (IntKind.wrap .i64 (x3 - x1)))) ∧
 (((vI x1) = (vI x1)) ∧
 (((Go.Value.pointer (Option.some (Go.Addr.mk 1000 1 Option.none))) = (Go.Value.pointer (Option.some (Go.Addr.mk 1000 1 Option.none)))) ∧
 (((Go.Value.pointer (Option.some (Go.Addr.mk 1000 0 Option.none))) = (Go.Value.pointer (Option.some (Go.Addr.mk 1000 0 Option.none)))) ∧
 (((vI x3) = (vI x3)) ∧
 (((Go.Value.pointer (Option.some (Go.Addr.mk 1000 3 Option.none))) = (Go.Value.pointer (Option.some (Go.Addr.mk 1000 3 Option.none)))) ∧
 (((Go.Value.pointer (Option.some (Go.Addr.mk 1000 2 Option.none))) = (Go.Value.pointer (Option.some (Go.Addr.mk 1000 2 Option.none)))) ∧
 (((vI (IntKind.wrap .i64 (x2 - x0))) = (vI (IntKind.wrap .i64 (x2 - x0)))) ∧
 (((vI x0) = (vI x0)) ∧
 (((Go.Value.pointer (Option.some (Go.Addr.mk 1000 0 Option.none))) = (Go.Value.pointer (Option.some (Go.Addr.mk 1000 0 Option.none)))) ∧
 (((Go.Value.pointer (Option.some (Go.Addr.mk 1000 0 Option.none))) = (Go.Value.pointer (Option.some (Go.Addr.mk 1000 0 Option.none)))) ∧
 (((vI x2) = (vI x2)) ∧
 (((Go.Value.pointer (Option.some (Go.Addr.mk 1000 2 Option.none))) = (Go.Value.pointer (Option.some (Go.Addr.mk 1000 2 Option.none)))) ∧
 (((Go.Value.pointer (Option.some (Go.Addr.mk 1000 2 Option.none))) = (Go.Value.pointer (Option.some (Go.Addr.mk 1000 2 Option.none)))) ∧
 True)))))))))))))) ∧
 ((((vI (IntKind.wrap .i64 (x3 - x1))) = (vI (IntKind.wrap .i64 (x3 - x1)))) ∧
 (((vI x1) = (vI x1)) ∧
 (((Go.Value.pointer (Option.some (Go.Addr.mk 1000 1 Option.none))) = (Go.Value.pointer (Option.some (Go.Addr.mk 1000 1 Option.none)))) ∧
 (((Go.Value.pointer (Option.some (Go.Addr.mk 1000 0 Option.none))) = (Go.Value.pointer (Option.some (Go.Addr.mk 1000 0 Option.none)))) ∧
 (((vI x3) = (vI x3)) ∧
 (((Go.Value.pointer (Option.some (Go.Addr.mk 1000 3 Option.none))) = (Go.Value.pointer (Option.some (Go.Addr.mk 1000 3 Option.none)))) ∧
 (((Go.Value.pointer (Option.some (Go.Addr.mk 1000 2 Option.none))) = (Go.Value.pointer (Option.some (Go.Addr.mk 1000 2 Option.none)))) ∧
 True))))))) ∧
 (True ∧
 (∃ n1 : Int,
 (∃ n2 : Int,
 ((Says C 66 [(D.val (vI (IntKind.wrap .i64 (IntKind.wrap .i64 (x1 * IntKind.wrap .i64 (x2 - x0)) + IntKind.wrap .i64 (IntKind.wrap .i64 (x3 - x1) * IntKind.wrap .i64 (x4 - x0)))))), (D.val (vI (IntKind.wrap .i64 (x2 - x0))))] [(D.agg [(D.val (vI n1)), (D.val (vI n2))])]) ∧
 (k [(D.agg [(D.val (vI n1)), (D.val (vI n2))])]))))))) := by kernel_rfl
def gWo (C : Ct) (L : AtLoop) (n0 : Nat) (c0 : Nat) (l0 : List Value) (n1 : Nat) (c1 : Nat) (l1 : List Value) (k : List D → Prop) : Prop := wpFn Try.prog (hU C) L 0 51 #[.slice (some ⟨500, 0, none⟩) n0 c0, .slice (some ⟨501, 0, none⟩) n1 c1] (heapOf [(500, .sym l0 false 2), (501, .sym l1 false 3)]) (dataK k)
theorem gWo_text (C : Ct) (L : AtLoop) (n0 : Nat) (c0 : Nat) (l0 : List Go.Value) (n1 : Nat) (c1 : Nat) (l1 : List Go.Value) (k : List D → Prop) : gWo C L n0 c0 l0 n1 c1 l1 k =
 (bcase (decide (0 + n0 * 2 ≤ List.length l0))
 (∃ n2 : Int,
 (∃ n3 : Int,
 ((Says C 48 [(D.sl (n0) 2 (List.take (n0 * 2) (List.drop 0 l0)))] [(D.val (vI n2)), (D.val (vI n3))]) ∧
 (bcase (decide (0 + n1 * 3 ≤ List.length l1))
 (∃ n4 : Int,
 (∃ n5 : Int,
 ((Says C 101 [(D.sl (n1) 3 (List.take (n1 * 3) (List.drop 0 l1))), (D.val (Go.Value.func (Go.Fn.func 102) [].toArray [].toArray))] [(D.val (vI n4)), (D.val (vI n5))]) ∧
 (∃ n6 : Int,
 ((Says C 68 [(D.val (vI ((↑n1 : Int)))), (D.val (vI (0 : Int))), (D.val (vI (20 : Int)))] [(D.val (vI n6))]) ∧
 (∃ n7 : Int,
 ((Says C 67 [(D.sl 3 1 [(vI n3), (vI n6), (vI n5)])] [(D.val (vI n7))]) ∧
 (bcase (n7 != 0)
 (k [D.nil, (D.val (vI n7))])
 (bcase (decide (0 + n0 * 2 ≤ List.length l0))
 ((Says C 103 [(D.sl (n0) 2 (List.take (n0 * 2) (List.drop 0 l0)))] [(D.sl (n0) 2 (List.take (n0 * 2) (List.drop 0 l0)))]) ∧
 (L 0 [(Prod.mk 10 (Go.Value.slice (Option.some (Go.Addr.mk 1000 0 Option.none)) (n0) (n0))), (Prod.mk 35 (Go.Value.slice (Option.some (Go.Addr.mk 501 0 Option.none)) (n1) (c1))), (Prod.mk 36 (vI ((↑n1 : Int)))), (Prod.mk 37 (vI (0 : Int)))] [(Prod.mk 1000 (AObj.sym (List.take (n0 * 2) (List.drop 0 l0)) true 2)), (Prod.mk 501 (AObj.sym (l1) false 3))]))
 False)))))))))
 False))))
 False) := by kernel_rfl
abbrev zWo1 (n0 : Nat) (n1 : Nat) (c2 : Nat) (x3 : Int) (x4 : Int) (l5 : List Value) (l6 : List Value) : Slots × Blocks := ([(10, (Value.slice (some ⟨1000, 0, none⟩) n0 n0)), (35, (Value.slice (some ⟨501, 0, none⟩) n1 c2)), (36, (Value.int .i64 x3)), (37, (Value.int .i64 x4))], [(1000, (AObj.sym l5 true 2)), (501, (AObj.sym l6 false 3))])
def rWo1 (C : Ct) (L : AtLoop) (n0 : Nat) (n1 : Nat) (c2 : Nat) (x3 : Int) (x4 : Int) (l5 : List Value) (l6 : List Value) (B : Bx) (X : Xx) (k : List D → Prop) : Prop := wpRound Try.prog (hU C) L 51 0 [(10, (Value.slice (some ⟨1000, 0, none⟩) n0 n0)), (35, (Value.slice (some ⟨501, 0, none⟩) n1 c2)), (36, (Value.int .i64 x3)), (37, (Value.int .i64 x4))] [(1000, (AObj.sym l5 true 2)), (501, (AObj.sym l6 false 3))] B X (dataK k)
theorem rWo1_text (C : Ct) (L : AtLoop) (n0 : Nat) (n1 : Nat) (c2 : Nat) (x3 : Int) (x4 : Int) (l5 : List Go.Value) (l6 : List Go.Value) (B : Bx) (X : Xx) (k : List D → Prop) : rWo1 C L n0 n1 c2 x3 x4 l5 l6 B X k =
 (bcase (decide (x4 < x3))
 (bcase (decide (0 ≤ x4))
 (bcase (decide (x4 < (↑n1 : Int)))
 (∃ n2 : Int,
 (∃ n3 : Int,
 (∃ n4 : Int,
 ((At (l6) (0 + Int.toNat x4 * 3) 3 [(vI n2), (vI n3), (vI n4)]) ∧
 ((0 < (n0)) ∧
 ((∃ l1 : List (Int × Int),
 (((l5) = (prs l1)) ∧
 (((n0) = (List.length l1)) ∧
 ((List.length l1) < 1000000000)))) ∧
 (∃ out1 : List Go.Value,
 ((Says wrC 0 [(D.val (vI n2)), (D.val (vI n3)), (D.val (vI n4)), (D.sl (n0) 2 (l5))] [(D.sl (n0) 2 (out1))]) ∧
 (B [(Prod.mk 10 (Go.Value.slice (Option.some (Go.Addr.mk 1000 0 Option.none)) (n0) (n0))), (Prod.mk 35 (Go.Value.slice (Option.some (Go.Addr.mk 501 0 Option.none)) (n1) (c2))), (Prod.mk 36 (vI x3)), (Prod.mk 37 (vI (IntKind.wrap .i64 (x4 + 1))))] [(Prod.mk 1000 (AObj.sym (out1) true 2)), (Prod.mk 501 (AObj.sym (l6) false 3))])))))))))
 False)
 False)
 (X 0 [(Prod.mk 10 (Go.Value.slice (Option.some (Go.Addr.mk 1000 0 Option.none)) (n0) (n0)))] [(Prod.mk 1000 (AObj.sym (l5) true 2))])) := by kernel_rfl
def nWo2 (C : Ct) (L : AtLoop) (n0 : Nat) (l1 : List Value) (k : List D → Prop) : Prop := wpNext Try.prog (hU C) L 51 0 .normal [(10, (Value.slice (some ⟨1000, 0, none⟩) n0 n0))] [(1000, (AObj.sym l1 true 2))] (dataK k)
theorem nWo2_text (C : Ct) (L : AtLoop) (n0 : Nat) (l1 : List Go.Value) (k : List D → Prop) : nWo2 C L n0 l1 k =
 ((((n0) = (n0)) ∧
 ((List.length l1) = (n0 * 2))) ∧
 (k [(D.sl (n0) 2 (l1)), (D.val (vI (0 : Int)))])) := by kernel_rfl
def gRKC (C : Ct) (L : AtLoop) (n0 : Nat) (c0 : Nat) (l0 : List Value) (k : List D → Prop) : Prop := wpFn Try.prog (hU C) L 0 53 #[.slice (some ⟨500, 0, none⟩) n0 c0] (heapOf [(500, .sym l0 false 2)]) (dataK k)
theorem gRKC_text (C : Ct) (L : AtLoop) (n0 : Nat) (c0 : Nat) (l0 : List Go.Value) (k : List D → Prop) : gRKC C L n0 c0 l0 k =
 (bcase (decide ((↑n0 : Int) < 2))
 (k [(D.val (vI (0 : Int))), (D.val (vI (10 : Int)))])
 (bcase (decide ((↑n0 : Int) > 10))
 (k [(D.val (vI (0 : Int))), (D.val (vI (8 : Int)))])
 (L 0 [(Prod.mk 0 (Go.Value.slice (Option.some (Go.Addr.mk 500 0 Option.none)) (n0) (c0))), (Prod.mk 4 (vI (0 : Int)))] [(Prod.mk 500 (AObj.sym (l0) false 2))]))) := by kernel_rfl
abbrev zRKC1 (n0 : Nat) (c1 : Nat) (x2 : Int) (l3 : List Value) : Slots × Blocks := ([(0, (Value.slice (some ⟨500, 0, none⟩) n0 c1)), (4, (Value.int .i64 x2))], [(500, (AObj.sym l3 false 2))])
def rRKC1 (C : Ct) (L : AtLoop) (n0 : Nat) (c1 : Nat) (x2 : Int) (l3 : List Value) (B : Bx) (X : Xx) (k : List D → Prop) : Prop := wpRound Try.prog (hU C) L 53 0 [(0, (Value.slice (some ⟨500, 0, none⟩) n0 c1)), (4, (Value.int .i64 x2))] [(500, (AObj.sym l3 false 2))] B X (dataK k)
theorem rRKC1_text (C : Ct) (L : AtLoop) (n0 : Nat) (c1 : Nat) (x2 : Int) (l3 : List Go.Value) (B : Bx) (X : Xx) (k : List D → Prop) : rRKC1 C L n0 c1 x2 l3 B X k =
 (bcase (decide (x2 < (↑n0 : Int)))
 (bcase (decide (0 ≤ x2))
 (bcase (decide (x2 < (↑n0 : Int)))
 (∃ n1 : Int,
 ((At (l3) (0 + Int.toNat x2 * 2) 1 [(vI n1)]) ∧
 (((Says C 23 [(D.val (vI n1)), (D.val (vI (0 : Int))), (D.val (vI (10000 : Int)))] [(D.val (Value.bool true))]) ∧
 (bcase (decide (0 ≤ x2))
 (bcase (decide (x2 < (↑n0 : Int)))
 (∃ n2 : Int,
 ((At (l3) (Go.Addr.off { block := 500, off := 0 + Int.toNat x2 * 2 } + 1) 1 [(vI n2)]) ∧
 (((Says C 23 [(D.val (vI n2)), (D.val (vI (-(99999 + 1) : Int))), (D.val (vI (100000 : Int)))] [(D.val (Value.bool true))]) ∧
 (bcase (decide (x2 > 0))
 (bcase (decide (0 ≤ x2))
 (bcase (decide (x2 < (↑n0 : Int)))
 (∃ n3 : Int,
 ((At (l3) (0 + Int.toNat x2 * 2) 1 [(vI n3)]) ∧
 (bcase (decide (0 ≤ IntKind.wrap .i64 (x2 - 1)))
 (bcase (decide (IntKind.wrap .i64 (x2 - 1) < (↑n0 : Int)))
 (∃ n4 : Int,
 ((At (l3) (0 + Int.toNat (IntKind.wrap .i64 (x2 - 1)) * 2) 1 [(vI n4)]) ∧
 (bcase (decide (n3 ≤ n4))
 ((((Value.bool true) = (Value.bool true)) ∧
 ((bcase (decide (n3 ≤ n4))
 ((Value.bool true) = (Value.bool true))
 ((Value.bool false) = (Value.bool true))) ∧
 ((∃ n5 : Int,
 ((At (l3) (0 + Int.toNat (IntKind.wrap .i64 (x2 - 1)) * 2) 1 [(vI n5)]) ∧
 ((vI n5) = (vI n4)))) ∧
 (((Go.Value.pointer (Option.some (Go.Addr.mk 500 (0 + Int.toNat (IntKind.wrap .i64 (x2 - 1)) * 2) Option.none))) = (Go.Value.pointer (Option.some (Go.Addr.mk 500 (0 + Int.toNat (IntKind.wrap .i64 (x2 - 1)) * 2) Option.none)))) ∧
 ((bcase (decide (0 ≤ IntKind.wrap .i64 (x2 - 1)))
 (bcase (decide (IntKind.wrap .i64 (x2 - 1) < (↑n0 : Int)))
 ((Go.Value.pointer (Option.some (Go.Addr.mk 500 (0 + Int.toNat (IntKind.wrap .i64 (x2 - 1)) * 2) Option.none))) = (Go.Value.pointer (Option.some (Go.Addr.mk 500 (0 + Int.toNat (IntKind.wrap .i64 (x2 - 1)) * 2) Option.none))))
 False)
 False) ∧
 (((vI (IntKind.wrap .i64 (x2 - 1))) = (vI (IntKind.wrap .i64 (x2 - 1)))) ∧
 (((vI x2) = (vI x2)) ∧
 (((Go.Value.slice (Option.some (Go.Addr.mk 500 0 Option.none)) (n0) (c1)) = (Go.Value.slice (Option.some (Go.Addr.mk 500 0 Option.none)) (n0) (c1))) ∧
 ((∃ n5 : Int,
 ((At (l3) (0 + Int.toNat x2 * 2) 1 [(vI n5)]) ∧
 ((vI n5) = (vI n3)))) ∧
 (((Go.Value.pointer (Option.some (Go.Addr.mk 500 (0 + Int.toNat x2 * 2) Option.none))) = (Go.Value.pointer (Option.some (Go.Addr.mk 500 (0 + Int.toNat x2 * 2) Option.none)))) ∧
 ((bcase (decide (0 ≤ x2))
 (bcase (decide (x2 < (↑n0 : Int)))
 ((Go.Value.pointer (Option.some (Go.Addr.mk 500 (0 + Int.toNat x2 * 2) Option.none))) = (Go.Value.pointer (Option.some (Go.Addr.mk 500 (0 + Int.toNat x2 * 2) Option.none))))
 False)
 False) ∧
 (((vI x2) = (vI x2)) ∧
 (((Go.Value.slice (Option.some (Go.Addr.mk 500 0 Option.none)) (n0) (c1)) = (Go.Value.slice (Option.some (Go.Addr.mk 500 0 Option.none)) (n0) (c1))) ∧
 (((Value.bool true) = (Value.bool true)) ∧
 ((bcase (decide (x2 > 0))
 ((Value.bool true) = (Value.bool true))
 ((Value.bool false) = (Value.bool true))) ∧
 (((vI x2) = (vI x2)) ∧
 True)))))))))))))))) ∧
 (k [(D.val (vI x2)), (D.val (vI (9 : Int)))]))
 ((((Value.bool false) = (Value.bool false)) ∧
 ((bcase (decide (n3 ≤ n4))
 ((Value.bool true) = (Value.bool false))
 ((Value.bool false) = (Value.bool false))) ∧
 ((∃ n5 : Int,
 ((At (l3) (0 + Int.toNat (IntKind.wrap .i64 (x2 - 1)) * 2) 1 [(vI n5)]) ∧
 ((vI n5) = (vI n4)))) ∧
 (((Go.Value.pointer (Option.some (Go.Addr.mk 500 (0 + Int.toNat (IntKind.wrap .i64 (x2 - 1)) * 2) Option.none))) = (Go.Value.pointer (Option.some (Go.Addr.mk 500 (0 + Int.toNat (IntKind.wrap .i64 (x2 - 1)) * 2) Option.none)))) ∧
 ((bcase (decide (0 ≤ IntKind.wrap .i64 (x2 - 1)))
 (bcase (decide (IntKind.wrap .i64 (x2 - 1) < (↑n0 : Int)))
 ((Go.Value.pointer (Option.some (Go.Addr.mk 500 (0 + Int.toNat (IntKind.wrap .i64 (x2 - 1)) * 2) Option.none))) = (Go.Value.pointer (Option.some (Go.Addr.mk 500 (0 + Int.toNat (IntKind.wrap .i64 (x2 - 1)) * 2) Option.none))))
 False)
 False) ∧
 (((vI (IntKind.wrap .i64 (x2 - 1))) = (vI (IntKind.wrap .i64 (x2 - 1)))) ∧
 (((vI x2) = (vI x2)) ∧
 (((Go.Value.slice (Option.some (Go.Addr.mk 500 0 Option.none)) (n0) (c1)) = (Go.Value.slice (Option.some (Go.Addr.mk 500 0 Option.none)) (n0) (c1))) ∧
 ((∃ n5 : Int,
 ((At (l3) (0 + Int.toNat x2 * 2) 1 [(vI n5)]) ∧
 ((vI n5) = (vI n3)))) ∧
 (((Go.Value.pointer (Option.some (Go.Addr.mk 500 (0 + Int.toNat x2 * 2) Option.none))) = (Go.Value.pointer (Option.some (Go.Addr.mk 500 (0 + Int.toNat x2 * 2) Option.none)))) ∧
 ((bcase (decide (0 ≤ x2))
 (bcase (decide (x2 < (↑n0 : Int)))
 ((Go.Value.pointer (Option.some (Go.Addr.mk 500 (0 + Int.toNat x2 * 2) Option.none))) = (Go.Value.pointer (Option.some (Go.Addr.mk 500 (0 + Int.toNat x2 * 2) Option.none))))
 False)
 False) ∧
 (((vI x2) = (vI x2)) ∧
 (((Go.Value.slice (Option.some (Go.Addr.mk 500 0 Option.none)) (n0) (c1)) = (Go.Value.slice (Option.some (Go.Addr.mk 500 0 Option.none)) (n0) (c1))) ∧
 (((Value.bool true) = (Value.bool true)) ∧
 ((bcase (decide (x2 > 0))
 ((Value.bool true) = (Value.bool true))
 ((Value.bool false) = (Value.bool true))) ∧
 (((vI x2) = (vI x2)) ∧
 True)))))))))))))))) ∧
 (B [(Prod.mk 0 (Go.Value.slice (Option.some (Go.Addr.mk 500 0 Option.none)) (n0) (c1))), (Prod.mk 4 (vI (IntKind.wrap .i64 (x2 + 1))))] [(Prod.mk 500 (AObj.sym (l3) false 2))])))))
 False)
 False)))
 False)
 False)
 ((((Value.bool false) = (Value.bool false)) ∧
 (((Go.Value.tuple [].toArray) = (Go.Value.tuple [].toArray)) ∧
 (((Go.Value.tuple [].toArray) = (Go.Value.tuple [].toArray)) ∧
 (((Go.Value.tuple [].toArray) = (Go.Value.tuple [].toArray)) ∧
 (((Go.Value.tuple [].toArray) = (Go.Value.tuple [].toArray)) ∧
 (((Go.Value.tuple [].toArray) = (Go.Value.tuple [].toArray)) ∧
 (((Go.Value.tuple [].toArray) = (Go.Value.tuple [].toArray)) ∧
 (((Go.Value.tuple [].toArray) = (Go.Value.tuple [].toArray)) ∧
 (((Go.Value.tuple [].toArray) = (Go.Value.tuple [].toArray)) ∧
 (((Go.Value.tuple [].toArray) = (Go.Value.tuple [].toArray)) ∧
 (((Go.Value.tuple [].toArray) = (Go.Value.tuple [].toArray)) ∧
 (((Go.Value.tuple [].toArray) = (Go.Value.tuple [].toArray)) ∧
 (((Go.Value.tuple [].toArray) = (Go.Value.tuple [].toArray)) ∧
 (((Value.bool false) = (Value.bool false)) ∧
 ((bcase (decide (x2 > 0))
 ((Value.bool true) = (Value.bool false))
 ((Value.bool false) = (Value.bool false))) ∧
 (((vI x2) = (vI x2)) ∧
 True)))))))))))))))) ∧
 (B [(Prod.mk 0 (Go.Value.slice (Option.some (Go.Addr.mk 500 0 Option.none)) (n0) (c1))), (Prod.mk 4 (vI (IntKind.wrap .i64 (x2 + 1))))] [(Prod.mk 500 (AObj.sym (l3) false 2))])))) ∨
 ((Says C 23 [(D.val (vI n2)), (D.val (vI (-(99999 + 1) : Int))), (D.val (vI (100000 : Int)))] [(D.val (Value.bool false))]) ∧
 (k [(D.val (vI x2)), (D.val (vI (2 : Int)))])))))
 False)
 False)) ∨
 ((Says C 23 [(D.val (vI n1)), (D.val (vI (0 : Int))), (D.val (vI (10000 : Int)))] [(D.val (Value.bool false))]) ∧
 (k [(D.val (vI x2)), (D.val (vI (2 : Int)))])))))
 False)
 False)
 (X 0 [] [])) := by kernel_rfl
def nRKC2 (C : Ct) (L : AtLoop) (k : List D → Prop) : Prop := wpNext Try.prog (hU C) L 53 0 .normal [] [] (dataK k)
theorem nRKC2_text (C : Ct) (L : AtLoop) (k : List D → Prop) : nRKC2 C L k =
 (k [(D.val (vI (0 : Int))), (D.val (vI (0 : Int)))]) := by kernel_rfl
def gRKCn (C : Ct) (L : AtLoop) (k : List D → Prop) : Prop := wpFn Try.prog (hU C) L 0 53 #[.slice none 0 0] (heapOf []) (dataK k)
theorem gRKCn_text (C : Ct) (L : AtLoop) (k : List D → Prop) : gRKCn C L k =
 (k [(D.val (vI (0 : Int))), (D.val (vI (10 : Int)))]) := by kernel_rfl
def gREC (C : Ct) (L : AtLoop) (n0 : Nat) (c0 : Nat) (l0 : List Value) (k : List D → Prop) : Prop := wpFn Try.prog (hU C) L 0 57 #[.slice (some ⟨500, 0, none⟩) n0 c0] (heapOf [(500, .sym l0 false 2)]) (dataK k)
theorem gREC_text (C : Ct) (L : AtLoop) (n0 : Nat) (c0 : Nat) (l0 : List Go.Value) (k : List D → Prop) : gREC C L n0 c0 l0 k =
 (bcase (decide (0 + n0 * 2 ≤ List.length l0))
 (∃ n1 : Int,
 (∃ n2 : Int,
 ((Says C 53 [(D.sl (n0) 2 (List.take (n0 * 2) (List.drop 0 l0)))] [(D.val (vI n1)), (D.val (vI n2))]) ∧
 (k [(D.val (vI n2))]))))
 False) := by kernel_rfl
def gRECn (C : Ct) (L : AtLoop) (k : List D → Prop) : Prop := wpFn Try.prog (hU C) L 0 57 #[.slice none 0 0] (heapOf []) (dataK k)
theorem gRECn_text (C : Ct) (L : AtLoop) (k : List D → Prop) : gRECn C L k =
 (∃ n1 : Int,
 (∃ n2 : Int,
 ((Says C 53 [D.nil] [(D.val (vI n1)), (D.val (vI n2))]) ∧
 (k [(D.val (vI n2))])))) := by kernel_rfl
def gSC (C : Ct) (L : AtLoop) (n0 : Nat) (c0 : Nat) (l0 : List Value) (n1 : Nat) (c1 : Nat) (l1 : List Value) (k : List D → Prop) : Prop := wpFn Try.prog (hU C) L 0 56 #[.slice (some ⟨500, 0, none⟩) n0 c0, .slice (some ⟨501, 0, none⟩) n1 c1] (heapOf [(500, .sym l0 false 2), (501, .sym l1 false 2)]) (dataK k)
theorem gSC_text (C : Ct) (L : AtLoop) (n0 : Nat) (c0 : Nat) (l0 : List Go.Value) (n1 : Nat) (c1 : Nat) (l1 : List Go.Value) (k : List D → Prop) : gSC C L n0 c0 l0 n1 c1 l1 k =
 (bcase ((↑n0 : Int) != (↑n1 : Int))
 (k [(D.val (Value.bool false))])
 (L 0 [(Prod.mk 0 (Go.Value.slice (Option.some (Go.Addr.mk 500 0 Option.none)) (n0) (c0))), (Prod.mk 1 (Go.Value.slice (Option.some (Go.Addr.mk 501 0 Option.none)) (n1) (c1))), (Prod.mk 5 (vI (0 : Int)))] [(Prod.mk 500 (AObj.sym (l0) false 2)), (Prod.mk 501 (AObj.sym (l1) false 2))])) := by kernel_rfl
abbrev zSC1 (n0 : Nat) (c1 : Nat) (n2 : Nat) (c3 : Nat) (x4 : Int) (l5 : List Value) (l6 : List Value) : Slots × Blocks := ([(0, (Value.slice (some ⟨500, 0, none⟩) n0 c1)), (1, (Value.slice (some ⟨501, 0, none⟩) n2 c3)), (5, (Value.int .i64 x4))], [(500, (AObj.sym l5 false 2)), (501, (AObj.sym l6 false 2))])
def rSC1 (C : Ct) (L : AtLoop) (n0 : Nat) (c1 : Nat) (n2 : Nat) (c3 : Nat) (x4 : Int) (l5 : List Value) (l6 : List Value) (B : Bx) (X : Xx) (k : List D → Prop) : Prop := wpRound Try.prog (hU C) L 56 0 [(0, (Value.slice (some ⟨500, 0, none⟩) n0 c1)), (1, (Value.slice (some ⟨501, 0, none⟩) n2 c3)), (5, (Value.int .i64 x4))] [(500, (AObj.sym l5 false 2)), (501, (AObj.sym l6 false 2))] B X (dataK k)
theorem rSC1_text (C : Ct) (L : AtLoop) (n0 : Nat) (c1 : Nat) (n2 : Nat) (c3 : Nat) (x4 : Int) (l5 : List Go.Value) (l6 : List Go.Value) (B : Bx) (X : Xx) (k : List D → Prop) : rSC1 C L n0 c1 n2 c3 x4 l5 l6 B X k =
 (bcase (decide (x4 < (↑n0 : Int)))
 (bcase (decide (0 ≤ x4))
 (bcase (decide (x4 < (↑n0 : Int)))
 (∃ n1 : Int,
 (∃ n3 : Int,
 ((At (l5) (0 + Int.toNat x4 * 2) 2 [(vI n1), (vI n3)]) ∧
 (bcase (decide (0 ≤ x4))
 (bcase (decide (x4 < (↑n2 : Int)))
 (∃ n4 : Int,
 (∃ n5 : Int,
 ((At (l6) (0 + Int.toNat x4 * 2) 2 [(vI n4), (vI n5)]) ∧
 (bcase (if Bool.true = Bool.true then !(n1 == n4 && (n3 == n5 && Bool.true)) else n1 == n4 && (n3 == n5 && Bool.true))
 (((bcase (if Bool.true = Bool.true then !(n1 == n4 && (n3 == n5 && Bool.true)) else n1 == n4 && (n3 == n5 && Bool.true))
 ((Value.bool true) = (Value.bool true))
 ((Value.bool false) = (Value.bool true))) ∧
 ((∃ n6 : Int,
 (∃ n7 : Int,
 ((At (l6) (0 + Int.toNat x4 * 2) 2 [(vI n6), (vI n7)]) ∧
 ((Go.Value.agg [(vI n6), (vI n7)].toArray) = (Go.Value.agg [(vI n4), (vI n5)].toArray))))) ∧
 ((bcase (decide (0 ≤ x4))
 (bcase (decide (x4 < (↑n2 : Int)))
 ((Go.Value.pointer (Option.some (Go.Addr.mk 501 (0 + Int.toNat x4 * 2) Option.none))) = (Go.Value.pointer (Option.some (Go.Addr.mk 501 (0 + Int.toNat x4 * 2) Option.none))))
 False)
 False) ∧
 (((vI x4) = (vI x4)) ∧
 (((Go.Value.slice (Option.some (Go.Addr.mk 501 0 Option.none)) (n2) (c3)) = (Go.Value.slice (Option.some (Go.Addr.mk 501 0 Option.none)) (n2) (c3))) ∧
 ((∃ n6 : Int,
 (∃ n7 : Int,
 ((At (l5) (0 + Int.toNat x4 * 2) 2 [(vI n6), (vI n7)]) ∧
 ((Go.Value.agg [(vI n6), (vI n7)].toArray) = (Go.Value.agg [(vI n1), (vI n3)].toArray))))) ∧
 ((bcase (decide (0 ≤ x4))
 (bcase (decide (x4 < (↑n0 : Int)))
 ((Go.Value.pointer (Option.some (Go.Addr.mk 500 (0 + Int.toNat x4 * 2) Option.none))) = (Go.Value.pointer (Option.some (Go.Addr.mk 500 (0 + Int.toNat x4 * 2) Option.none))))
 False)
 False) ∧
 (((vI x4) = (vI x4)) ∧
 (((Go.Value.slice (Option.some (Go.Addr.mk 500 0 Option.none)) (n0) (c1)) = (Go.Value.slice (Option.some (Go.Addr.mk 500 0 Option.none)) (n0) (c1))) ∧
 True))))))))) ∧
 (k [(D.val (Value.bool false))]))
 (((bcase (if Bool.true = Bool.true then !(n1 == n4 && (n3 == n5 && Bool.true)) else n1 == n4 && (n3 == n5 && Bool.true))
 ((Value.bool true) = (Value.bool false))
 ((Value.bool false) = (Value.bool false))) ∧
 ((∃ n6 : Int,
 (∃ n7 : Int,
 ((At (l6) (0 + Int.toNat x4 * 2) 2 [(vI n6), (vI n7)]) ∧
 ((Go.Value.agg [(vI n6), (vI n7)].toArray) = (Go.Value.agg [(vI n4), (vI n5)].toArray))))) ∧
 ((bcase (decide (0 ≤ x4))
 (bcase (decide (x4 < (↑n2 : Int)))
 ((Go.Value.pointer (Option.some (Go.Addr.mk 501 (0 + Int.toNat x4 * 2) Option.none))) = (Go.Value.pointer (Option.some (Go.Addr.mk 501 (0 + Int.toNat x4 * 2) Option.none))))
 False)
 False) ∧
 (((vI x4) = (vI x4)) ∧
 (((Go.Value.slice (Option.some (Go.Addr.mk 501 0 Option.none)) (n2) (c3)) = (Go.Value.slice (Option.some (Go.Addr.mk 501 0 Option.none)) (n2) (c3))) ∧
 ((∃ n6 : Int,
 (∃ n7 : Int,
 ((At (l5) (0 + Int.toNat x4 * 2) 2 [(vI n6), (vI n7)]) ∧
 ((Go.Value.agg [(vI n6), (vI n7)].toArray) = (Go.Value.agg [(vI n1), (vI n3)].toArray))))) ∧
 ((bcase (decide (0 ≤ x4))
 (bcase (decide (x4 < (↑n0 : Int)))
 ((Go.Value.pointer (Option.some (Go.Addr.mk 500 (0 + Int.toNat x4 * 2) Option.none))) = (Go.Value.pointer (Option.some (Go.Addr.mk 500 (0 + Int.toNat x4 * 2) Option.none))))
 False)
 False) ∧
 (((vI x4) = (vI x4)) ∧
 (((Go.Value.slice (Option.some (Go.Addr.mk 500 0 Option.none)) (n0) (c1)) = (Go.Value.slice (Option.some (Go.Addr.mk 500 0 Option.none)) (n0) (c1))) ∧
 True))))))))) ∧
 (B [(Prod.mk 0 (Go.Value.slice (Option.some (Go.Addr.mk 500 0 Option.none)) (n0) (c1))), (Prod.mk 1 (Go.Value.slice (Option.some (Go.Addr.mk 501 0 Option.none)) (n2) (c3))), (Prod.mk 5 (vI (IntKind.wrap .i64 (x4 + 1))))] [(Prod.mk 500 (AObj.sym (l5) false 2)), (Prod.mk 501 (AObj.sym (l6) false 2))]))))))
 False)
 False))))
 False)
 False)
 (X 0 [] [])) := by kernel_rfl
def nSC2 (C : Ct) (L : AtLoop) (k : List D → Prop) : Prop := wpNext Try.prog (hU C) L 56 0 .normal [] [] (dataK k)
theorem nSC2_text (C : Ct) (L : AtLoop) (k : List D → Prop) : nSC2 C L k =
 (k [(D.val (Value.bool true))]) := by kernel_rfl
def gCoC (C : Ct) (L : AtLoop) (n0 : Nat) (c0 : Nat) (l0 : List Value) (k : List D → Prop) : Prop := wpFn Try.prog (hE C) L 0 49 #[.slice (some ⟨500, 0, none⟩) n0 c0] (heapOf [(500, .sym l0 false 2)]) (dataK k)
theorem gCoC_text (C : Ct) (L : AtLoop) (n0 : Nat) (c0 : Nat) (l0 : List Go.Value) (k : List D → Prop) : gCoC C L n0 c0 l0 k =
 (bcase (decide (0 + n0 * 2 ≤ List.length l0))
 (bcase (n0 == 0)
 (((0 = 0) ∧
 (0 = 0)) ∧
 (k [(D.sl 0 2 [])]))
 (bcase (decide (0 < 0 + n0))
 (bcase (decide ((2 * (0 + n0) + 768) * 16 ≤ 281474976710656))
 (bcase (decide (0 + n0 ≤ 1099511627776))
 ((((0 + n0) = (0 + n0)) ∧
 ((List.length (List.take 0 (List.drop 0 []) ++ List.take (n0 * 2) (List.drop 0 l0))) = ((0 + n0) * 2))) ∧
 (k [(D.sl (0 + n0) 2 ([] ++ (List.take (n0 * 2) (List.drop 0 l0))))]))
 False)
 False)
 False))
 False) := by kernel_rfl
def gCoS (C : Ct) (L : AtLoop) (n0 : Nat) (c0 : Nat) (l0 : List Value) (k : List D → Prop) : Prop := wpFn Try.prog (hE C) L 0 52 #[.slice (some ⟨500, 0, none⟩) n0 c0] (heapOf [(500, .sym l0 false 3)]) (dataK k)
theorem gCoS_text (C : Ct) (L : AtLoop) (n0 : Nat) (c0 : Nat) (l0 : List Go.Value) (k : List D → Prop) : gCoS C L n0 c0 l0 k =
 (bcase (decide (0 + n0 * 3 ≤ List.length l0))
 (bcase (n0 == 0)
 (((0 = 0) ∧
 (0 = 0)) ∧
 (k [(D.sl 0 3 [])]))
 (bcase (decide (0 < 0 + n0))
 (bcase (decide ((2 * (0 + n0) + 768) * 24 ≤ 281474976710656))
 (bcase (decide (0 + n0 ≤ 1099511627776))
 ((((0 + n0) = (0 + n0)) ∧
 ((List.length (List.take 0 (List.drop 0 []) ++ List.take (n0 * 3) (List.drop 0 l0))) = ((0 + n0) * 3))) ∧
 (k [(D.sl (0 + n0) 3 ([] ++ (List.take (n0 * 3) (List.drop 0 l0))))]))
 False)
 False)
 False))
 False) := by kernel_rfl
def gCoSn (C : Ct) (L : AtLoop) (k : List D → Prop) : Prop := wpFn Try.prog (hE C) L 0 52 #[.slice none 0 0] (heapOf []) (dataK k)
theorem gCoSn_text (C : Ct) (L : AtLoop) (k : List D → Prop) : gCoSn C L k =
 (((0 = 0) ∧
 (0 = 0)) ∧
 (k [(D.sl 0 3 [])])) := by kernel_rfl
def gCoP (C : Ct) (L : AtLoop) (n0 : Nat) (c0 : Nat) (l0 : List Value) (k : List D → Prop) : Prop := wpFn Try.prog (hE C) L 0 103 #[.slice (some ⟨500, 0, none⟩) n0 c0] (heapOf [(500, .sym l0 false 2)]) (dataK k)
theorem gCoP_text (C : Ct) (L : AtLoop) (n0 : Nat) (c0 : Nat) (l0 : List Go.Value) (k : List D → Prop) : gCoP C L n0 c0 l0 k =
 (bcase (decide (0 + n0 * 2 ≤ List.length l0))
 (bcase (n0 == 0)
 (((0 = 0) ∧
 (0 = 0)) ∧
 (k [(D.sl 0 2 [])]))
 (bcase (decide (0 < 0 + n0))
 (bcase (decide ((2 * (0 + n0) + 768) * 16 ≤ 281474976710656))
 (bcase (decide (0 + n0 ≤ 1099511627776))
 ((((0 + n0) = (0 + n0)) ∧
 ((List.length (List.take 0 (List.drop 0 []) ++ List.take (n0 * 2) (List.drop 0 l0))) = ((0 + n0) * 2))) ∧
 (k [(D.sl (0 + n0) 2 ([] ++ (List.take (n0 * 2) (List.drop 0 l0))))]))
 False)
 False)
 False))
 False) := by kernel_rfl
def gCmp (C : Ct) (L : AtLoop) (x0 : Int) (x1 : Int) (x2 : Int) (x3 : Int) (k : List D → Prop) : Prop := wpFn Try.prog (hU C) L 0 58 #[.agg #[.int .i64 x0, .int .i64 x1], .agg #[.int .i64 x2, .int .i64 x3]] (heapOf []) (dataK k)
theorem gCmp_text (C : Ct) (L : AtLoop) (x0 : Int) (x1 : Int) (x2 : Int) (x3 : Int) (k : List D → Prop) : gCmp C L x0 x1 x2 x3 k =
 ((((vI (IntKind.wrap .i64 (x2 * x1))) = (vI (IntKind.wrap .i64 (x2 * x1)))) ∧
 (((vI x1) = (vI x1)) ∧
 (((Go.Value.pointer (Option.some (Go.Addr.mk 1000 1 Option.none))) = (Go.Value.pointer (Option.some (Go.Addr.mk 1000 1 Option.none)))) ∧
 (((vI x2) = (vI x2)) ∧
 (((Go.Value.pointer (Option.some (Go.Addr.mk 1001 0 Option.none))) = (Go.Value.pointer (Option.some (Go.Addr.mk 1001 0 Option.none)))) ∧
 (((vI (IntKind.wrap .i64 (x0 * x3))) = (vI (IntKind.wrap .i64 (x0 * x3)))) ∧
 (((vI x3) = (vI x3)) ∧
 (((Go.Value.pointer (Option.some (Go.Addr.mk 1001 1 Option.none))) = (Go.Value.pointer (Option.some (Go.Addr.mk 1001 1 Option.none)))) ∧
 (((vI x0) = (vI x0)) ∧
 (((Go.Value.pointer (Option.some (Go.Addr.mk 1000 0 Option.none))) = (Go.Value.pointer (Option.some (Go.Addr.mk 1000 0 Option.none)))) ∧
 True)))))))))) ∧
 ((((vI (IntKind.wrap .i64 (x2 * x1))) = (vI (IntKind.wrap .i64 (x2 * x1)))) ∧
 (((vI x1) = (vI x1)) ∧
 (((Go.Value.pointer (Option.some (Go.Addr.mk 1000 1 Option.none))) = (Go.Value.pointer (Option.some (Go.Addr.mk 1000 1 Option.none)))) ∧
 (((vI x2) = (vI x2)) ∧
 (((Go.Value.pointer (Option.some (Go.Addr.mk 1001 0 Option.none))) = (Go.Value.pointer (Option.some (Go.Addr.mk 1001 0 Option.none)))) ∧
 True))))) ∧
 (True ∧
 (bcase (decide (IntKind.wrap .i64 (x0 * x3) < IntKind.wrap .i64 (x2 * x1)))
 (k [(D.val (vI (-(0 + 1) : Int)))])
 (bcase (decide (IntKind.wrap .i64 (x0 * x3) > IntKind.wrap .i64 (x2 * x1)))
 (k [(D.val (vI (1 : Int)))])
 (k [(D.val (vI (0 : Int)))])))))) := by kernel_rfl
end Go.Proofs.G5f

/- Chapter 7: the first wrong point, worn points, and how functions are met. -/
namespace Go.Proofs.G5f
open Go Go.Abs Go.Proofs Go.Proofs.G7
set_option maxRecDepth 100000
/-! ### worn points -/
abbrev wrP (lo up w : Int) (p : Int × Int) : Int × Int := (p.1, wrV lo up w p.1 p.2)
theorem wrL_vp (lo up w : Int) : ∀ l : List (Int × Int), wrL lo up w (vp l) = vp (l.map (wrP lo up w))
  | [] => rfl
  | p :: r => by show Value.int .i64 p.1 :: Value.int .i64 (wrV lo up w p.1 p.2) :: wrL lo up w (vp r) = _; rw [wrL_vp lo up w r]; rfl
abbrev EwO (lo up w : Int) (l : List (Int × Int)) (n : Nat) : List Value := vp ((List.range n).map fun i => wrP lo up w (pt l i))
abbrev ewS (lo up w : Int) (l : List (Int × Int)) (cap : Nat) : Nat → Slots × Blocks
  | 0 => zEw1 l.length cap l.length 0 lo up w (vp l)
  | i + 1 => zEw2 (i + 1) l.length cap l.length ((i + 1 : Nat) : Int) lo up w (EwO lo up w l (i + 1)) (vp l)
abbrev EwK (lo up w : Int) (l : List (Int × Int)) : Value → Blocks → Prop := fun v b => v = .slice (some ⟨1000, 0, none⟩) l.length l.length ∧ b = [(1000, .sym (EwO lo up w l l.length) true 2), (900, .sym (vp l) true 2), (901, .cells [vI lo, vI up, vI w] 97 false 1)]
theorem wr_in {lo up w a h : Int} (h1 : lo ≤ a) (h2 : a ≤ up) : wrV lo up w a h = IntKind.wrap .i64 (h - w) := if_pos ⟨h1, h2⟩
theorem wr_out {lo up w a h : Int} (h1 : ¬ (lo ≤ a ∧ a ≤ up)) : wrV lo up w a h = h := if_neg h1
theorem runEw (lo up w : Int) (cap : Nat) (l : List (Int × Int)) (h0 : 0 < l.length) (hl : l.length < 1000000000) : CallS Try.prog 104 [.slice (some ⟨900, 0, none⟩) l.length cap, .func (.func 129) #[] #[.pointer (some ⟨901, 0, none⟩)]] [(900, .sym (vp l) true 2), (901, .cells [vI lo, vI up, vI w] 97 false 1)] (EwK lo up w l) := by
  refine callS_ofG (L := fun _ s b => ∃ i, i ≤ l.length ∧ ewS lo up w l cap i = (s, b)) hokE mixed Try.func104 rfl rfl (ids := [0]) (by kernel_rfl) rfl ?_ (fun id hid => ?_)
  · show gEw C5 _ lo up w l.length cap (vp l) _
    rw [gEw_text]
    exact ⟨0, Nat.zero_le _, rfl⟩
  · obtain rfl := List.mem_singleton.1 hid
    refine ⟨_, ewS lo up w l cap, fun i => i ≤ l.length, fun i => l.length - i, ⟨fun s b h => h, by kernel_rfl, ?_⟩⟩
    intro i hi
    have wi : i < l.length → IntKind.wrap .i64 ((i : Int) + 1) = ((i + 1 : Nat) : Int) := fun h => by rw [w64 (by omega) (by omega)]; rfl
    cases i with
    | zero =>
      show rEw1 C5 _ l.length cap l.length ((0 : Nat) : Int) lo up w (vp l) _ _ _
      rw [rEw1_text]
      simp only [bc_t (show ((0 : Nat) : Int) < (l.length : Int) by omega), bc_t (show (0 : Int) ≤ ((0 : Nat) : Int) by omega), Int.toNat_natCast, at2 (at_pt h0), wi h0]
      have fin : ∀ v : Int, v = wrV lo up w (pt l 0).1 (pt l 0).2 → ewS lo up w l cap 1 = (_, [(901, .cells [vI lo, vI up, vI w] 97 false 1), (1000, .sym [vI (pt l 0).1, vI v] true 2), (900, .sym (vp l) true 2)]) := fun v hv => by rw [hv]; rfl
      refine bc_dec (fun h1 => bc_dec (fun h2 => ?_) (fun h2 => ?_)) (fun h1 => ?_)
      · exact ⟨1, h0, by omega, fin _ (by rw [wr_in h1 h2])⟩
      · exact ⟨1, h0, by omega, fin _ (by rw [wr_out (by omega)])⟩
      · exact ⟨1, h0, by omega, fin _ (by rw [wr_out (by omega)])⟩
    | succ i =>
      show rEw2 C5 _ (i + 1) l.length cap l.length ((i + 1 : Nat) : Int) lo up w (EwO lo up w l (i + 1)) (vp l) _ _ _
      rw [rEw2_text]
      refine bc_dec (fun h => ?_) (fun h => ?_)
      · have hi1 : i + 1 < l.length := by omega
        simp only [bc_t h, bc_t (show (0 : Int) ≤ ((i + 1 : Nat) : Int) by omega), Int.toNat_natCast, at2 (at_pt hi1), wi hi1, bc_t (show i + 1 < i + 1 + 1 by omega), bc_t (show (2 * (i + 1 + 1) + 768) * 16 ≤ 281474976710656 by omega), bc_t (show i + 1 + 1 ≤ 1099511627776 by omega), bc_t (show 0 + (i + 1) * 2 ≤ (EwO lo up w l (i + 1)).length by simp), bc_t (show 0 + (i + 1) * 2 = (EwO lo up w l (i + 1)).length by simp), rp_take]
        have fin : ∀ v : Int, v = wrV lo up w (pt l (i + 1)).1 (pt l (i + 1)).2 → ewS lo up w l cap (i + 2) = (_, [(901, .cells [vI lo, vI up, vI w] 97 false 1), (1000, .sym (EwO lo up w l (i + 1) ++ [vI (pt l (i + 1)).1, vI v]) true 2), (900, .sym (vp l) true 2)]) := fun v hv => by
          have := rp_snoc (fun i => wrP lo up w (pt l i)) (i + 1)
          rw [hv, this]
        refine bc_dec (fun h1 => bc_dec (fun h2 => ?_) (fun h2 => ?_)) (fun h1 => ?_)
        · exact ⟨i + 2, hi1, by omega, fin _ (by rw [wr_in h1 h2])⟩
        · exact ⟨i + 2, hi1, by omega, fin _ (by rw [wr_out (by omega)])⟩
        · exact ⟨i + 2, hi1, by omega, fin _ (by rw [wr_out (by omega)])⟩
      · show (if 0 = 0 then _ else _)
        rw [if_pos rfl]
        show nEw4 C5 _ (i + 1) (EwO lo up w l (i + 1)) (vp l) lo up w _
        rw [nEw4_text]
        have : i + 1 = l.length := by omega
        exact ⟨by rw [this], by rw [this]⟩
theorem eachW_ok {args : List Value} {bs : Blocks} {K : Value → Blocks → Prop} (hk : eachW 129 97 args bs K) : CallS Try.prog 104 args bs K := by
  unfold eachW at hk
  split at hk
  · split at hk
    · split at hk
      · rename_i ha hc' hc
        simp only [Bool.and_eq_true, beq_iff_eq] at hc
        obtain ⟨⟨⟨⟨⟨⟨⟨⟨⟨rfl, rfl⟩, rfl⟩, rfl⟩, rfl⟩, rfl⟩, rfl⟩, rfl⟩, rfl⟩, rfl⟩ := hc
        obtain ⟨h0, ⟨l, rfl, rfl, hl⟩, out, ho, hK⟩ := hk
        have ho : out = wrL _ _ _ (prs l) := ho.out
        rw [prs_vp] at *
        obtain rfl := Array.ext' (ys := #[]) ha
        obtain rfl := Array.ext' (ys := #[Value.pointer (some ⟨901, 0, none⟩)]) hc'
        refine callS_mono (runEw _ _ _ _ l h0 hl) ?_
        rintro v b ⟨rfl, rfl⟩
        rw [ho, wrL_vp, ← map_range (wrP _ _ _) l (0, 0)] at hK
        exact hK
      · exact hk.elim
    · exact hk.elim
  · exact hk.elim
/-! ### the first wrong point -/
theorem fpL_at {l : List (Int × Int)} {i : Nat} (h : i < l.length) (bf k : Int) : fpL bf k (vp (l.drop i)) = if ptE (pt l i).1 (pt l i).2 = 0 then (if (pt l i).1 ≤ bf then (k, 9, bf) else fpL (pt l i).1 (k + 1) (vp (l.drop (i + 1)))) else (k, ptE (pt l i).1 (pt l i).2, (pt l i).1) := by
  rw [List.drop_eq_getElem_cons h, ← pt_at h]; rfl
abbrev FpK (bf : Int) (l : List (Int × Int)) : Value → Blocks → Prop := fun v b => v = .tuple #[vI (fpL bf 0 (vp l)).1, vI (fpL bf 0 (vp l)).2.1] ∧ b = [(900, .cells [vI (fpL bf 0 (vp l)).2.2] 3 false 1)]
theorem ptE_fst (a h : Int) : fst0 [rngE 0 10000 2 a, rngE (-100000) 100000 2 h] = ptE a h := by
  rw [fst0_two, ptE]
  by_cases h1 : 0 ≤ a ∧ a ≤ 10000
  · rw [rngE_yes h1, if_pos rfl]
    by_cases h2 : -100000 ≤ h ∧ h ≤ 100000
    · rw [rngE_yes h2, if_pos ⟨h1, h2⟩]
    · rw [rngE_no h2, if_neg (fun hh => h2 hh.2)]
  · rw [rngE_no h1, if_neg (by decide), if_neg (fun hh => h1 hh.1)]
theorem runFp (bf : Int) (cap : Nat) (l : List (Int × Int)) (hl : l.length < 1000000000) : CallS Try.prog 97 [.slice (some ⟨500, 0, none⟩) l.length cap, .func (.func 98) #[] #[.pointer (some ⟨900, 0, none⟩)]] [(500, .sym (vp l) false 2), (900, .cells [vI bf] 3 false 1)] (FpK bf l) := by
  refine callS_ofG (L := fun _ s b => ∃ x : Nat × Int, (x.1 ≤ l.length ∧ fpL bf 0 (vp l) = fpL x.2 x.1 (vp (l.drop x.1))) ∧ zFp1 l.length cap l.length x.1 x.2 (vp l) = (s, b)) hok mixed Try.func97 rfl rfl (ids := [0]) (by kernel_rfl) rfl ?_ (fun id hid => ?_)
  · show gFp C5 _ bf l.length cap (vp l) _
    rw [gFp_text]
    exact ⟨(0, bf), ⟨Nat.zero_le _, rfl⟩, rfl⟩
  · obtain rfl := List.mem_singleton.1 hid
    refine ⟨_, fun x : Nat × Int => zFp1 l.length cap l.length x.1 x.2 (vp l), fun x => x.1 ≤ l.length ∧ fpL bf 0 (vp l) = fpL x.2 x.1 (vp (l.drop x.1)), fun x => l.length - x.1, ⟨fun s b h => h, by kernel_rfl, ?_⟩⟩
    rintro ⟨i, b⟩ ⟨hi, hr⟩
    simp only at hi hr
    have wi : i < l.length → IntKind.wrap .i64 ((i : Int) + 1) = ((i + 1 : Nat) : Int) := fun h => by rw [w64 (by omega) (by omega)]; rfl
    show rFp1 C5 _ l.length cap l.length (i : Int) b (vp l) _ _ _
    rw [rFp1_text, m5]
    refine bc_dec (fun h => ?_) (fun h => ?_)
    · have hi1 : i < l.length := by omega
      rw [fpL_at hi1] at hr
      simp only [bc_t h, bc_t (show (0 : Int) ≤ (i : Int) by omega), Int.toNat_natCast, at2 (at_pt hi1), wi hi1, eq_self, true_and]
      refine ⟨_, wit_rng, _, wit_rng, _, ⟨conFE [rngE 0 10000 2 (pt l i).1, rngE (-100000) 100000 2 (pt l i).2] (by simp)⟩, ?_⟩
      rw [ptE_fst]
      refine bc_beq (fun h1 => ?_) (fun h1 => ?_)
      · rw [if_pos h1] at hr
        refine bc_dec (fun h2 => ?_) (fun h2 => ?_)
        · rw [if_pos h2] at hr
          exact ⟨by rw [hr], by rw [hr]⟩
        · rw [if_neg h2] at hr
          refine bc_bne (fun h3 => absurd h1 h3) (fun _ => ⟨(i + 1, (pt l i).1), ⟨hi1, ?_⟩, by show l.length - (i + 1) < l.length - i; omega, rfl⟩)
          rw [hr]; rfl
      · rw [if_neg h1] at hr
        refine bc_bne (fun _ => ?_) (fun h3 => absurd h3 h1)
        exact ⟨by rw [hr], by rw [hr]⟩
    · show (if 0 = 0 then _ else _)
      rw [if_pos rfl]
      show nFp2 C5 _ b _
      rw [nFp2_text]
      rw [List.drop_eq_nil_of_le (by omega)] at hr
      exact ⟨by rw [hr]; rfl, by rw [hr]; rfl⟩
end Go.Proofs.G5f

/- Chapter 7: how functions are met; laws, changes and answers, in data. -/
namespace Go.Proofs.G5f
open Go Go.Abs Go.Proofs Go.Proofs.G7
set_option maxRecDepth 100000
theorem firstP_ok {args : List Value} {bs : Blocks} {K : Value → Blocks → Prop} (hk : firstP 98 3 args bs K) : CallS Try.prog 97 args bs K := by
  unfold firstP at hk
  split at hk
  · split at hk
    · split at hk
      · rename_i ha hc' hc
        simp only [Bool.and_eq_true, beq_iff_eq] at hc
        obtain ⟨⟨⟨⟨⟨⟨⟨⟨⟨rfl, rfl⟩, rfl⟩, rfl⟩, rfl⟩, rfl⟩, rfl⟩, rfl⟩, rfl⟩, rfl⟩ := hc
        obtain ⟨⟨l, rfl, rfl, hl⟩, r1, r2, r3, ho, hK⟩ := hk
        have ho : (r1, r2, r3) = fpL _ 0 (prs l) := ho.out
        rw [prs_vp] at *
        obtain rfl := Array.ext' (ys := #[]) ha
        obtain rfl := Array.ext' (ys := #[Value.pointer (some ⟨900, 0, none⟩)]) hc'
        refine callS_mono (runFp _ _ l hl) ?_
        rintro v b ⟨rfl, rfl⟩
        rw [← ho]
        exact hK
      · exact hk.elim
    · exact hk.elim
  · exact hk.elim
theorem ite_so {c : Prop} [Decidable c] {α : Type} {x h : α} {r : Option α} (e : (if c then some x else r) = some h) : (c ∧ x = h) ∨ r = some h := by
  by_cases hc : c
  · rw [if_pos hc] at e; exact .inl ⟨hc, Option.some.inj e⟩
  · rw [if_neg hc] at e; exact .inr e
theorem preUOK : PreOK Try.prog (preU C5) := by
  intro g h he args ats H k hk
  unfold preU at he
  rcases ite_so he with ⟨e, rfl⟩ | he
  · rw [beq_iff_eq] at e
    subst e
    exact wpState_call (fun args bs K hk => wit_ok hk) hk
  rcases ite_so he with ⟨e, rfl⟩ | he
  · exact fixH_ok (fun _ _ _ h => h) _ _ _ _ _ hk
  rcases ite_so he with ⟨e, rfl⟩ | he
  · exact fixH_ok (fun _ _ _ h => h) _ _ _ _ _ hk
  rcases ite_so he with ⟨e, rfl⟩ | he
  · exact fixH_ok (fun _ _ _ h => h) _ _ _ _ _ hk
  rcases ite_so he with ⟨e, rfl⟩ | he
  · exact fixH_ok (fun _ _ _ h => h) _ _ _ _ _ hk
  rcases ite_so he with ⟨e, rfl⟩ | he
  · exact fixH_ok (fun _ _ _ h => h) _ _ _ _ _ hk
  rcases ite_so he with ⟨e, rfl⟩ | he
  · rw [beq_iff_eq] at e
    subst e
    exact wpState_call (fun args bs K hk => eachB_ok hk) hk
  rcases ite_so he with ⟨e, rfl⟩ | he
  · rw [beq_iff_eq] at e
    subst e
    exact wpState_call (fun args bs K hk => firstP_ok hk) hk
  rcases ite_so he with ⟨e, rfl⟩ | he
  · rw [beq_iff_eq] at e
    subst e
    exact wpState_call (fun args bs K hk => eachW_ok hk) hk
  rcases ite_so he with ⟨e, rfl⟩ | he
  · exact fixH_ok (fun _ _ _ h => h) _ _ _ _ _ hk
  rcases ite_so he with ⟨e, rfl⟩ | he
  · exact saidH_ok (fun _ _ _ h => h) _ _ _ _ _ hk
  · cases he
theorem hokU : HandlerOK Try.prog (hU C5) := handlerX_ok mixed preUOK (by decide) 6
/-! ### copies -/
/-! ### changes -/
def loF (f : Int × Int) : Prop := 0 < f.2 ∧ ((Int.gcd f.1 f.2 : Nat) : Int) = 1
instance (f : Int × Int) : Decidable (loF f) := by unfold loF; infer_instance
theorem pt_mem {l : List (Int × Int)} {i : Nat} (h : i < l.length) : pt l i ∈ l := by rw [← pt_at h]; exact List.getElem_mem h
/-! ### laws -/
structure LV (a b c d : Int) : Prop where
  a1 : 0 ≤ a ∧ a ≤ 10000
  b1 : 0 ≤ b ∧ b ≤ 10000
  c1 : 0 ≤ c ∧ c ≤ 10000
  d1 : 0 ≤ d ∧ d ≤ 10000
  ab : a ≤ b
  cd : c ≤ d
end Go.Proofs.G5f

/- Chapter 7: contours and heights, in data. -/
namespace Go.Proofs.G5f
open Go Go.Abs Go.Proofs Go.Proofs.G7
set_option maxRecDepth 100000
def ascL (bf : Int) : List (Int × Int) → Prop
  | [] => True
  | p :: r => bf < p.1 ∧ ascL p.1 r
theorem fpL_ok : ∀ {l : List (Int × Int)} {bf k : Int}, (fpL bf k (vp l)).2.1 = 0 ↔ (∀ p ∈ l, ptE p.1 p.2 = 0) ∧ ascL bf l
  | [], bf, k => by simp [vp, fpL, ascL]
  | p :: r, bf, k => by
    have e : fpL bf k (vp (p :: r)) = if ptE p.1 p.2 = 0 then (if p.1 ≤ bf then (k, 9, bf) else fpL p.1 (k + 1) (vp r)) else (k, ptE p.1 p.2, p.1) := rfl
    rw [e, List.forall_mem_cons (p := fun p : Int × Int => ptE p.1 p.2 = 0), ascL]
    by_cases h1 : ptE p.1 p.2 = 0
    · rw [if_pos h1]
      by_cases h2 : p.1 ≤ bf
      · rw [if_pos h2]
        exact ⟨fun h => by simp at h, fun h => by have := h.2.1; omega⟩
      · rw [if_neg h2, fpL_ok]
        exact ⟨fun h => ⟨⟨h1, h.1⟩, by omega, h.2⟩, fun h => ⟨h.1.2, h.2.2⟩⟩
    · rw [if_neg h1]
      exact ⟨fun h => absurd h h1, fun h => absurd h.1.1 h1⟩
theorem asc_at : ∀ {l : List (Int × Int)} {bf : Int} {i : Nat}, ascL bf l → i + 1 < l.length → (pt l i).1 < (pt l (i + 1)).1
  | [], _, _, _, h => by simp at h
  | [_], _, _, _, h => by simp at h
  | p :: q :: r, _, 0, h, _ => h.2.1
  | p :: q :: r, _, i + 1, h, hi => asc_at (l := q :: r) (i := i) h.2 (by simpa using hi)
structure CcV (l : List (Int × Int)) : Prop where
  n : 2 ≤ l.length ∧ l.length ≤ 10
  p : ∀ p ∈ l, ptE p.1 p.2 = 0
  a : ascL (-1) l
def ccI (l : List (Int × Int)) : Int := if cntE l.length 2 10 = 0 then (fpL (-1) 0 (vp l)).1 else 0
def ccE (l : List (Int × Int)) : Int := if cntE l.length 2 10 = 0 then (fpL (-1) 0 (vp l)).2.1 else cntE l.length 2 10
theorem ccE_ok {l : List (Int × Int)} : ccE l = 0 ↔ CcV l := by
  unfold ccE
  constructor
  · intro h
    split at h
    · rename_i h1
      have h2 := fpL_ok.1 h
      have h3 := cntE_ok.1 h1
      exact ⟨by omega, h2.1, h2.2⟩
    · rename_i h1; exact absurd h h1
  · intro h
    have h3 := h.n
    rw [if_pos (cntE_ok.2 (by omega))]
    exact fpL_ok.2 ⟨h.p, h.a⟩
theorem pt_bd {l : List (Int × Int)} (h : CcV l) {i : Nat} (hi : i < l.length) : (0 ≤ (pt l i).1 ∧ (pt l i).1 ≤ 10000) ∧ (-100000 ≤ (pt l i).2 ∧ (pt l i).2 ≤ 100000) := by
  have := h.p _ (pt_mem hi)
  unfold ptE at this
  split at this
  · assumption
  · omega
theorem conKC (l : List (Int × Int)) (hl : l.length ≤ 1000000) : C5 48 [.sl l.length 2 (vp l)] [dI (ccI l), dI (ccE l)] := by
  refine con_flat hokU mixed Try.func48 rfl (by show 1 ≤ 400; omega) rfl (by kernel_rfl) (fun caps => ?_)
  show gKC _ _ l.length (caps 500) (vp l) _
  rw [gKC_text]
  try simp only [eq_self, true_and]
  refine ⟨_, ⟨conCC _ _ _⟩, bc_bne (fun h => ?_) (fun h => ?_)⟩
  · rw [ccI, ccE, if_neg h, if_neg h] <;> trivial
  · refine ⟨⟨l, (prs_vp l).symm, rfl, by omega⟩, (fpL (-1) 0 (vp l)).1, (fpL (-1) 0 (vp l)).2.1, (fpL (-1) 0 (vp l)).2.2, ⟨rfl⟩, ?_⟩
    rw [ccI, ccE, if_pos h, if_pos h] <;> trivial
def bfA (l : List (Int × Int)) : Nat → Int
  | 0 => -1
  | i + 1 => (pt l i).1
theorem conRKC (l : List (Int × Int)) (hl : l.length ≤ 1000000) : C5 53 [.sl l.length 2 (vp l)] [dI (ccI l), dI (ccE l)] := by
  let inv : Nat × Nat → Prop := fun x => x.1 ≤ l.length ∧ cntE l.length 2 10 = 0 ∧ fpL (-1) 0 (vp l) = fpL (bfA l x.1) x.1 (vp (l.drop x.1))
  let st : Nat × Nat → Slots × Blocks := fun x => zRKC1 l.length x.2 x.1 (vp l)
  refine con_of (L := fun _ s b => ∃ x, inv x ∧ st x = (s, b)) hokU mixed Try.func53 rfl (by show 1 ≤ 400; omega) rfl (ids := [0]) (by kernel_rfl) rfl (fun caps => ?_) (fun id hid => ?_)
  · show gRKC _ _ l.length (caps 500) (vp l) _
    rw [gRKC_text]
    refine bc_dec (fun h => ?_) (fun h => bc_dec (fun h2 => ?_) (fun h2 => ?_))
    · have : cntE l.length 2 10 = 10 := by rw [cntE, if_pos h]
      show _ = _; rw [ccI, ccE, this, if_neg (by decide), if_neg (by decide)]
    · have : cntE l.length 2 10 = 8 := by rw [cntE, if_neg h, if_pos h2]
      show _ = _; rw [ccI, ccE, this, if_neg (by decide), if_neg (by decide)]
    · exact ⟨(0, caps 500), ⟨Nat.zero_le _, by rw [cntE, if_neg h, if_neg h2], rfl⟩, rfl⟩
  · obtain rfl := List.mem_singleton.1 hid
    refine ⟨Nat × Nat, st, inv, fun x => l.length - x.1, ⟨fun s b h => h, by kernel_rfl, ?_⟩⟩
    rintro ⟨i, cap⟩ ⟨hi, hc, hr⟩
    simp only at hi hr
    have hk1 : ccI l = (fpL (-1) 0 (vp l)).1 := by rw [ccI, if_pos hc]
    have hk2 : ccE l = (fpL (-1) 0 (vp l)).2.1 := by rw [ccE, if_pos hc]
    show rRKC1 _ _ l.length cap i (vp l) _ _ _
    rw [rRKC1_text, m5]
    refine bc_dec (fun h => ?_) (fun h => ?_)
    · have hi1 : i < l.length := by omega
      rw [fpL_at hi1] at hr
      have a1 : At (vp l) (0 + i * 2) 1 [vI (pt l i).1] := by rw [← pt_at hi1]; exact vp_one l i hi1
      have a2 : At (vp l) (Addr.off ⟨500, 0 + i * 2, none⟩ + 1) 1 [vI (pt l i).2] := by rw [← pt_at hi1]; exact vp_sndA l i hi1 500
      have wi : IntKind.wrap .i64 ((i : Int) + 1) = ((i + 1 : Nat) : Int) := by rw [w64 (by omega) (by omega)]; rfl
      simp only [bc_t h, bc_t (show (0 : Int) ≤ (i : Int) by omega), Int.toNat_natCast, at1 a1, at1 a2, wi]
      have bad : ptE (pt l i).1 (pt l i).2 = 2 → [dI (i : Int), dI 2] = [dI (ccI l), dI (ccE l)] := fun e => by
        rw [e, if_neg (by decide)] at hr
        rw [hk1, hk2, hr]
      by_cases h1 : 0 ≤ (pt l i).1 ∧ (pt l i).1 ≤ 10000
      · refine .inl ⟨sayWt h1, ?_⟩
        by_cases h2 : -100000 ≤ (pt l i).2 ∧ (pt l i).2 ≤ 100000
        · have e : ptE (pt l i).1 (pt l i).2 = 0 := by rw [ptE, if_pos ⟨h1, h2⟩]
          rw [if_pos e] at hr
          refine .inl ⟨sayWt h2, ?_⟩
          have fin : ¬ (pt l i).1 ≤ bfA l i → ∃ x, inv x ∧ l.length - x.1 < l.length - i ∧ st x = zRKC1 l.length cap ((i + 1 : Nat) : Int) (vp l) := fun hb => by
            rw [if_neg hb] at hr
            exact ⟨(i + 1, cap), ⟨hi1, hc, by rw [hr]; rfl⟩, by show l.length - (i + 1) < l.length - i; omega, rfl⟩
          cases i with
          | zero =>
            simp only [bc_f (show ¬ ((0 : Nat) : Int) > 0 by omega), true_and]
            exact fin (by show ¬ _ ≤ (-1 : Int); omega)
          | succ i =>
            have wm : IntKind.wrap .i64 (((i + 1 : Nat) : Int) - 1) = (i : Int) := by rw [w64 (by omega) (by omega)]; omega
            have a3 : At (vp l) (0 + i * 2) 1 [vI (pt l i).1] := by rw [← pt_at (show i < l.length by omega)]; exact vp_one l i (by omega)
            simp only [bc_t (show ((i + 1 : Nat) : Int) > 0 by omega), wm, bc_t (show (0 : Int) ≤ (i : Int) by omega), bc_t (show (i : Int) < (l.length : Int) by omega), Int.toNat_natCast, at1 a3, eq_self, true_and]
            refine bc_dec (fun h3 => ?_) (fun h3 => ?_)
            · simp only [bc_t h3, true_and]
              rw [if_pos (show (pt l (i + 1)).1 ≤ bfA l (i + 1) from h3)] at hr
              first | (show [_, _] = [_, _]; rw [hk1, hk2, hr]) | (rw [hk1, hk2, hr]; trivial)
            · simp only [bc_f h3, true_and]
              exact fin h3
        · exact .inr ⟨sayWf h2, bad (by rw [ptE, if_neg (fun h => h2 h.2)])⟩
      · exact .inr ⟨sayWf h1, bad (by rw [ptE, if_neg (fun h => h1 h.1)])⟩
    · show (if 0 = 0 then _ else _)
      rw [if_pos rfl]
      show nRKC2 _ _ _
      rw [nRKC2_text]
      rw [List.drop_eq_nil_of_le (by omega)] at hr
      show [_, _] = [_, _]; rw [hk1, hk2, hr]; rfl
theorem conRKCn : C5 53 [.nil] [dI 0, dI 10] := by
  refine con_of (L := fun _ _ _ => False) hokU mixed Try.func53 rfl (by show 0 ≤ 400; omega) rfl (ids := [0]) (by kernel_rfl) rfl (fun caps => ?_) (fun id hid => ?_)
  · show gRKCn _ _ _
    rw [gRKCn_text]
  · obtain rfl := List.mem_singleton.1 hid
    exact ⟨Nat, fun _ => ([], []), fun _ => False, fun _ => 0, ⟨fun s b h => h.elim, by kernel_rfl, fun j hj => hj.elim⟩⟩
theorem conREC (l : List (Int × Int)) (hl : l.length ≤ 1000000) : C5 57 [.sl l.length 2 (vp l)] [dI (ccE l)] := by
  refine con_flat hokU mixed Try.func57 rfl (by show 1 ≤ 400; omega) rfl (by kernel_rfl) (fun caps => ?_)
  show gREC _ _ l.length (caps 500) (vp l) _
  rw [gREC_text]
  simp only [bc_t (v2le l), vp_whole]
  exact ⟨_, _, ⟨conRKC l hl⟩, rfl⟩
/-! ### heights -/
def htF (at' : Int) (p q : Int × Int) : Int × Int := low (p.2 * (q.1 - at') + q.2 * (at' - p.1)) (q.1 - p.1)
def hgL (at' : Int) : List (Int × Int) → Option (Int × Int)
  | p :: q :: r => if p.1 ≤ at' ∧ at' ≤ q.1 then some (htF at' p q) else hgL at' (q :: r)
  | _ => none
def hgP : Option (Int × Int) → List D
  | some f => [dF f, dI 0]
  | none => [dF (0, 0), dI 21]
theorem hgL_at {l : List (Int × Int)} {i : Nat} (h : i + 1 < l.length) (at' : Int) : hgL at' (l.drop i) = if (pt l i).1 ≤ at' ∧ at' ≤ (pt l (i + 1)).1 then some (htF at' (pt l i) (pt l (i + 1))) else hgL at' (l.drop (i + 1)) := by
  have h1 : i < l.length := by omega
  rw [List.drop_eq_getElem_cons h1, List.drop_eq_getElem_cons h, ← pt_at h1, ← pt_at h]; rfl
theorem hgL_end {l : List (Int × Int)} {i : Nat} (h : ¬ i + 1 < l.length) (at' : Int) : hgL at' (l.drop i) = none := by
  by_cases h1 : i < l.length
  · rw [List.drop_eq_getElem_cons h1, List.drop_eq_nil_of_le (by omega)]; rfl
  · rw [List.drop_eq_nil_of_le (by omega)]; rfl
theorem at_p4 {l : List (Int × Int)} {i : Nat} (h : i + 1 < l.length) : At (vp l) (0 + i * 2) 4 [vI (pt l i).1, vI (pt l i).2, vI (pt l (i + 1)).1, vI (pt l (i + 1)).2] := by
  have h1 : i < l.length := by omega
  refine ⟨by rw [vp_length]; omega, ?_⟩
  rw [Nat.zero_add, vp_drop, List.drop_eq_getElem_cons h1, List.drop_eq_getElem_cons h, ← pt_at h1, ← pt_at h]
  rfl
theorem at4 {l : List Value} {k : Nat} {a b c d : Int} (h : At l k 4 [.int .i64 a, .int .i64 b, .int .i64 c, .int .i64 d]) {Q : Int → Int → Int → Int → Prop} : (∃ n m o p : Int, At l k 4 [.int .i64 n, .int .i64 m, .int .i64 o, .int .i64 p] ∧ Q n m o p) = Q a b c d := by
  apply propext
  constructor
  · rintro ⟨n, m, o, p, hn, hq⟩
    have e := hn.eq.symm.trans h.eq
    simp only [List.cons.injEq, Value.int.injEq, true_and, and_true] at e
    obtain ⟨rfl, rfl, rfl, rfl⟩ := e; exact hq
  · intro hq; exact ⟨a, b, c, d, h, hq⟩
structure Hb (at' : Int) (p q : Int × Int) : Prop where
  a : 0 < q.1 - p.1 ∧ q.1 - p.1 ≤ 10000
  b : 0 ≤ q.1 - at' ∧ q.1 - at' ≤ 10000
  c : 0 ≤ at' - p.1 ∧ at' - p.1 ≤ 10000
  h : -100000 ≤ p.2 ∧ p.2 ≤ 100000
  k : -100000 ≤ q.2 ∧ q.2 ≤ 100000
theorem hb_bd {at' : Int} {p q : Int × Int} (h : Hb at' p q) : (-1000000000 ≤ p.2 * (q.1 - at') ∧ p.2 * (q.1 - at') ≤ 1000000000) ∧ (-1000000000 ≤ q.2 * (at' - p.1) ∧ q.2 * (at' - p.1) ≤ 1000000000) ∧ (-1000000000 ≤ p.2 * (q.1 - p.1) ∧ p.2 * (q.1 - p.1) ≤ 1000000000) ∧ (-2000000000 ≤ (q.2 - p.2) * (at' - p.1) ∧ (q.2 - p.2) * (at' - p.1) ≤ 2000000000) := by
  have h1 := h.h; have h2 := h.k
  have k1 := mul_le (a := p.2) (b := q.1 - at') (A := 100000) (B := 10000) (by omega) h.b
  have k2 := mul_le (a := q.2) (b := at' - p.1) (A := 100000) (B := 10000) (by omega) h.c
  have k3 := mul_le (a := p.2) (b := q.1 - p.1) (A := 100000) (B := 10000) (by omega) ⟨by have := h.a; omega, h.a.2⟩
  have k4 := mul_le (a := q.2 - p.2) (b := at' - p.1) (A := 200000) (B := 10000) (by omega) h.c
  omega
theorem conPh (p q : Int × Int) (at' : Int) : C5 99 [.agg [dI p.1, dI p.2, dI q.1, dI q.2], dI at'] [.val (.bool (decide (p.1 ≤ at' ∧ at' ≤ q.1)))] := by
  refine con_flat hokU mixed Try.func99 rfl (by show 0 ≤ 400; omega) rfl (by kernel_rfl) (fun caps => ?_)
  show gPh _ _ p.1 p.2 q.1 q.2 at' _
  rw [gPh_text]
  refine bc_dec (fun h => bc_dec (fun h2 => ?_) (fun h2 => ?_)) (fun h => ?_)
  · show _ = _; rw [decide_eq_true (show p.1 ≤ at' ∧ at' ≤ q.1 from ⟨h, h2⟩)]
  · show _ = _; rw [decide_eq_false (show ¬ (p.1 ≤ at' ∧ at' ≤ q.1) by omega)]
  · show _ = _; rw [decide_eq_false (show ¬ (p.1 ≤ at' ∧ at' ≤ q.1) by omega)]
theorem conPt {p q : Int × Int} {at' : Int} (h : Hb at' p q) : C5 100 [.agg [dI p.1, dI p.2, dI q.1, dI q.2], dI at'] [dF (htF at' p q)] := by
  refine con_flat hokU mixed Try.func100 rfl (by show 0 ≤ 400; omega) rfl (by kernel_rfl) (fun caps => ?_)
  show gPt _ _ p.1 p.2 q.1 q.2 at' _
  rw [gPt_text]
  have ha := h.a; have hc := h.c; have hh := h.h; have hk := h.k
  have hb := hb_bd h
  rw [w64 (z := q.1 - p.1) (by omega) (by omega), w64 (z := q.2 - p.2) (by omega) (by omega), w64 (z := at' - p.1) (by omega) (by omega), w64 (z := p.2 * (q.1 - p.1)) (by omega) (by omega), w64 (z := (q.2 - p.2) * (at' - p.1)) (by omega) (by omega), w64 (by omega) (by omega)]
  have e : p.2 * (q.1 - p.1) + (q.2 - p.2) * (at' - p.1) = p.2 * (q.1 - at') + q.2 * (at' - p.1) := by
    simp only [Int.mul_sub, Int.sub_mul]; omega
  rw [e]
  simp only [eq_self, true_and]
  exact ⟨_, _, ⟨conLT _ _ (by omega) (by omega) ha.1⟩, by first | rfl | trivial⟩
theorem hb_of {l : List (Int × Int)} (hv : CcV l) {i : Nat} (hi : i + 1 < l.length) {at' : Int} (h : (pt l i).1 ≤ at' ∧ at' ≤ (pt l (i + 1)).1) : Hb at' (pt l i) (pt l (i + 1)) := by
  have h1 := pt_bd hv (i := i) (by omega)
  have h2 := pt_bd hv hi
  have h3 := asc_at hv.a hi
  exact ⟨by omega, by omega, by omega, by omega, by omega⟩
def haP (l : List (Int × Int)) (at' : Int) : List D := if ccE l = 0 then hgP (hgL at' l) else [dF (0, 0), dI (ccE l)]
theorem conHA (l : List (Int × Int)) (at' : Int) (hl : l.length ≤ 1000000) : C5 50 [.sl l.length 2 (vp l), dI at'] (haP l at') := by
  let inv : Nat × Nat → Prop := fun x => x.1 + 1 ≤ l.length ∧ l.length ≤ x.2 ∧ CcV l ∧ hgL at' l = hgL at' (l.drop x.1)
  let st : Nat × Nat → Slots × Blocks := fun x => zHA1 l.length x.2 at' ((l.length - 1 : Nat) : Int) x.1 (vp l) 0 0
  refine con_ofC (L := fun _ s b => ∃ x, inv x ∧ st x = (s, b)) hokU mixed Try.func50 rfl (by show 1 ≤ 400; omega) rfl (ids := [0]) (by kernel_rfl) rfl (fun caps hcap => ?_) (fun id hid => ?_)
  · show gHA _ _ l.length (caps 500) (vp l) at' _
    rw [gHA_text]
    simp only [bc_t (v2le l), vp_whole]
    refine ⟨_, _, ⟨conKC l hl⟩, bc_bne (fun h => ?_) (fun h => ?_)⟩
    · rw [haP, if_neg h]
    · have hv := ccE_ok.1 h
      have hn := hv.n
      have hc : l.length ≤ caps 500 := by simp [capsL, layVals, layCells] at hcap; exact hcap
      refine ⟨(0, caps 500), ⟨by omega, hc, hv, rfl⟩, ?_⟩
      rw [w64 (by omega) (by omega), show (l.length : Int) - 1 = ((l.length - 1 : Nat) : Int) by omega]; rfl
  · obtain rfl := List.mem_singleton.1 hid
    refine ⟨Nat × Nat, st, inv, fun x => l.length - x.1, ⟨fun s b h => h, by kernel_rfl, ?_⟩⟩
    rintro ⟨i, cap⟩ ⟨hi, hcap, hv, hr⟩
    simp only at hi hcap hr
    have hn := hv.n
    show rHA1 _ _ l.length cap at' ((l.length - 1 : Nat) : Int) i (vp l) 0 0 _ _ _
    rw [rHA1_text]
    refine bc_dec (fun h => ?_) (fun h => ?_)
    · have hi1 : i + 1 < l.length := by omega
      have w2 : IntKind.wrap .i64 ((i : Int) + 2) = ((i + 2 : Nat) : Int) := by rw [w64 (by omega) (by omega)]; rfl
      have w1 : IntKind.wrap .i64 ((i : Int) + 1) = ((i + 1 : Nat) : Int) := by rw [w64 (by omega) (by omega)]; rfl
      rw [hgL_at hi1] at hr
      simp only [w2, w1, bc_t (show (0 : Int) ≤ ((i + 2 : Nat) : Int) by omega), bc_t (show ((i + 2 : Nat) : Int) ≤ (cap : Int) by omega), bc_t (show (0 : Int) ≤ (i : Int) by omega), Int.toNat_natCast, bc_t (show (i : Int) ≤ ((i + 2 : Nat) : Int) by omega), bc_t (show 2 ≤ i + 2 - i by omega), at4 (at_p4 hi1)]
      refine bc_beq (fun hh => absurd hh (by omega)) (fun _ => ?_)
      have hp := conPh (pt l i) (pt l (i + 1)) at'
      by_cases hq : (pt l i).1 ≤ at' ∧ at' ≤ (pt l (i + 1)).1
      · rw [decide_eq_true hq] at hp
        rw [if_pos hq] at hr
        refine .inl ⟨⟨hp⟩, _, _, ⟨conPt (hb_of hv hi1 hq)⟩, ?_⟩
        show _ = _
        rw [haP, if_pos (ccE_ok.2 hv), hr]; rfl
      · rw [decide_eq_false hq] at hp
        rw [if_neg hq] at hr
        exact .inr ⟨⟨hp⟩, (i + 1, cap), ⟨hi1, hcap, hv, hr⟩, by show l.length - (i + 1) < l.length - i; omega, rfl⟩
    · show (if 0 = 0 then _ else _)
      rw [if_pos rfl]
      show nHA2 _ _ 0 0 _
      rw [nHA2_text]
      rw [hgL_end (by omega)] at hr
      show _ = _
      rw [haP, if_pos (ccE_ok.2 hv), hr]; rfl
end Go.Proofs.G5f

/- Chapter 7: strips and worn contours, in data. -/
namespace Go.Proofs.G5f
open Go Go.Abs Go.Proofs Go.Proofs.G7
set_option maxRecDepth 100000
abbrev Tr := Int × Int × Int
def vt : List Tr → List Value
  | [] => []
  | s :: r => .int .i64 s.1 :: .int .i64 s.2.1 :: .int .i64 s.2.2 :: vt r
@[simp] theorem vt_length : ∀ l : List Tr, (vt l).length = l.length * 3
  | [] => rfl
  | p :: r => by simp only [vt, List.length_cons, vt_length r]; omega
theorem vt_drop : ∀ (l : List Tr) (i : Nat), (vt l).drop (i * 3) = vt (l.drop i)
  | l, 0 => by simp
  | [], i + 1 => by simp [vt]
  | p :: r, i + 1 => by
    rw [Nat.add_mul]
    simp only [vt, Nat.one_mul, List.drop_succ_cons]
    exact vt_drop r i
abbrev sp (l : List Tr) (i : Nat) : Tr := l.getD i (0, 0, 0)
theorem sp_at {l : List Tr} {i : Nat} (h : i < l.length) : l[i] = sp l i := by rw [sp, List.getD_eq_getElem?_getD, List.getElem?_eq_getElem h]; rfl
theorem sp_mem {l : List Tr} {i : Nat} (h : i < l.length) : sp l i ∈ l := by rw [← sp_at h]; exact List.getElem_mem h
theorem at_sp {l : List Tr} {i : Nat} (h : i < l.length) : At (vt l) (0 + i * 3) 3 [vI (sp l i).1, vI (sp l i).2.1, vI (sp l i).2.2] := by
  refine ⟨by rw [vt_length]; omega, ?_⟩
  rw [Nat.zero_add, vt_drop, List.drop_eq_getElem_cons h, ← sp_at h]
  rfl
theorem vt_whole (l : List Tr) : List.take (l.length * 3) (List.drop 0 (vt l)) = vt l := by simp [List.take_of_length_le]
theorem v3le (l : List Tr) : 0 + l.length * 3 ≤ (vt l).length := by simp
theorem at3 {l : List Value} {k : Nat} {a b c : Int} (h : At l k 3 [.int .i64 a, .int .i64 b, .int .i64 c]) {Q : Int → Int → Int → Prop} : (∃ n m o : Int, At l k 3 [.int .i64 n, .int .i64 m, .int .i64 o] ∧ Q n m o) = Q a b c := by
  apply propext
  constructor
  · rintro ⟨n, m, o, hn, hq⟩
    have e := hn.eq.symm.trans h.eq
    simp only [List.cons.injEq, Value.int.injEq, true_and, and_true] at e
    obtain ⟨rfl, rfl, rfl⟩ := e; exact hq
  · intro hq; exact ⟨a, b, c, h, hq⟩
/-! ### copies and comparisons -/
theorem conCoC (l : List (Int × Int)) (hl : l.length ≤ 1000000) : C5 49 [.sl l.length 2 (vp l)] [.sl l.length 2 (vp l)] := by
  refine con_flat hokE mixed Try.func49 rfl (by show 1 ≤ 400; omega) rfl (by kernel_rfl) (fun caps => ?_)
  show gCoC _ _ l.length (caps 500) (vp l) _
  rw [gCoC_text]
  refine bc_yes (by simp) (bc_beq (fun h0 => ⟨⟨rfl, rfl⟩, ?_⟩) (fun h0 => bc_yes (by omega) (bc_yes (by omega) (bc_yes (by omega) ⟨⟨rfl, by simp⟩, ?_⟩))))
  · obtain rfl : l = [] := List.length_eq_zero_iff.1 h0
    rfl
  · rw [vp_whole, Nat.zero_add, List.nil_append]
theorem conCoS (l : List Tr) (hl : l.length ≤ 1000000) : C5 52 [.sl l.length 3 (vt l)] [.sl l.length 3 (vt l)] := by
  refine con_flat hokE mixed Try.func52 rfl (by show 1 ≤ 400; omega) rfl (by kernel_rfl) (fun caps => ?_)
  show gCoS _ _ l.length (caps 500) (vt l) _
  rw [gCoS_text]
  refine bc_yes (by simp) (bc_beq (fun h0 => ⟨⟨rfl, rfl⟩, ?_⟩) (fun h0 => bc_yes (by omega) (bc_yes (by omega) (bc_yes (by omega) ⟨⟨rfl, by simp⟩, ?_⟩))))
  · obtain rfl : l = [] := List.length_eq_zero_iff.1 h0
    rfl
  · rw [vt_whole, Nat.zero_add, List.nil_append]
theorem conCoSn : C5 52 [.nil] [.sl 0 3 []] := by
  refine con_flat hokE mixed Try.func52 rfl (by show 0 ≤ 400; omega) rfl (by kernel_rfl) (fun caps => ?_)
  show gCoSn _ _ _
  rw [gCoSn_text]
  exact ⟨⟨rfl, rfl⟩, rfl⟩
theorem conCoP (l : List (Int × Int)) (hl : l.length ≤ 1000000) : C5 103 [.sl l.length 2 (vp l)] [.sl l.length 2 (vp l)] := by
  refine con_flat hokE mixed Try.func103 rfl (by show 1 ≤ 400; omega) rfl (by kernel_rfl) (fun caps => ?_)
  show gCoP _ _ l.length (caps 500) (vp l) _
  rw [gCoP_text]
  refine bc_yes (by simp) (bc_beq (fun h0 => ⟨⟨rfl, rfl⟩, ?_⟩) (fun h0 => bc_yes (by omega) (bc_yes (by omega) (bc_yes (by omega) ⟨⟨rfl, by simp⟩, ?_⟩))))
  · obtain rfl : l = [] := List.length_eq_zero_iff.1 h0
    rfl
  · rw [vp_whole, Nat.zero_add, List.nil_append]
theorem conSC (l m : List (Int × Int)) (hl : l.length < 1000000000) : C5 56 [.sl l.length 2 (vp l), .sl m.length 2 (vp m)] [.val (.bool (decide (l = m)))] := by
  let inv : Nat × Nat × Nat → Prop := fun x => x.1 ≤ l.length ∧ l.length = m.length ∧ (l = m ↔ l.drop x.1 = m.drop x.1)
  let st : Nat × Nat × Nat → Slots × Blocks := fun x => zSC1 l.length x.2.1 m.length x.2.2 x.1 (vp l) (vp m)
  refine con_of (L := fun _ s b => ∃ x, inv x ∧ st x = (s, b)) hokU mixed Try.func56 rfl (by show 2 ≤ 400; omega) rfl (ids := [0]) (by kernel_rfl) rfl (fun caps => ?_) (fun id hid => ?_)
  · show gSC _ _ l.length (caps 500) (vp l) m.length (caps 501) (vp m) _
    rw [gSC_text]
    refine bc_bne (fun h => ?_) (fun h => ?_)
    · show _ = _
      rw [decide_eq_false (fun e => h (by rw [e]))]
    · exact ⟨(0, caps 500, caps 501), ⟨Nat.zero_le _, by show l.length = m.length; omega, Iff.rfl⟩, rfl⟩
  · obtain rfl := List.mem_singleton.1 hid
    refine ⟨Nat × Nat × Nat, st, inv, fun x => l.length - x.1, ⟨fun s b h => h, by kernel_rfl, ?_⟩⟩
    rintro ⟨i, c1, c2⟩ ⟨hi, hlm, hr⟩
    simp only at hi hr
    show rSC1 _ _ l.length c1 m.length c2 (i : Int) (vp l) (vp m) _ _ _
    rw [rSC1_text]
    refine bc_dec (fun h => ?_) (fun h => ?_)
    · have h1 : i < l.length := by omega
      have h2 : i < m.length := by omega
      rw [List.drop_eq_getElem_cons h1, List.drop_eq_getElem_cons h2] at hr
      simp only [bc_t h, bc_t (show (i : Int) < (m.length : Int) by omega), bc_t (show (0 : Int) ≤ (i : Int) by omega), Int.toNat_natCast, at2 (vp_two l i h1), at2 (vp_two m i h2), if_true, eq_self, true_and, and_true]
      by_cases hc : l[i].1 = m[i].1 ∧ l[i].2 = m[i].2
      · rw [bp_eq hc, bp_eq hc]
        refine ⟨trivial, ⟨i + 1, c1, c2⟩, ⟨by show i + 1 ≤ l.length; omega, hlm, ?_⟩, by show l.length - (i + 1) < l.length - i; omega, ?_⟩
        · show l = m ↔ l.drop (i + 1) = m.drop (i + 1)
          refine hr.trans ?_
          have : l[i] = m[i] := Prod.ext hc.1 hc.2
          rw [this]
          exact ⟨fun e => (List.cons.inj e).2, fun e => by rw [e]⟩
        · rw [w64 (by omega) (by omega)]; rfl
      · rw [bp_ne hc, bp_ne hc]
        refine ⟨trivial, ?_⟩
        show _ = _
        rw [decide_eq_false (fun e => hc (by have := (List.cons.inj (hr.1 e)).1; rw [this]; exact ⟨rfl, rfl⟩))]
    · show (if 0 = 0 then _ else _)
      rw [if_pos rfl]
      show nSC2 _ _ _
      rw [nSC2_text]
      show _ = _
      have e1 : l.drop i = [] := List.drop_eq_nil_of_le (by omega)
      have e2 : m.drop i = [] := List.drop_eq_nil_of_le (by omega)
      rw [decide_eq_true (hr.2 (by rw [e1, e2]))]
/-! ### strips -/
def stE (s : Tr) : Int := fst0 [if (0 ≤ s.1 ∧ s.1 ≤ 10000) ∧ (0 ≤ s.2.1 ∧ s.2.1 ≤ 10000) then 0 else 2, if s.1 > s.2.1 then 9 else 0, rngE 0 1000 2 s.2.2]
theorem conKS (s : Tr) : C5 102 [.agg [dI s.1, dI s.2.1, dI s.2.2]] [dI (stE s)] := by
  refine con_flat hokU mixed Try.func102 rfl (by show 0 ≤ 400; omega) rfl (by kernel_rfl) (fun caps => ?_)
  show gKS _ _ s.1 s.2.1 s.2.2 _
  rw [gKS_text]
  try simp only [eq_self, true_and]
  refine ⟨_, wit2_say, bc_dec (fun h => ⟨_, wit_rng, _, ⟨conFE [_, 9, rngE 0 1000 2 s.2.2] (by simp)⟩, ?_⟩) (fun h => ⟨_, wit_rng, _, ⟨conFE [_, 0, rngE 0 1000 2 s.2.2] (by simp)⟩, ?_⟩)⟩
  · rw [stE, if_pos h] <;> trivial
  · rw [stE, if_neg h] <;> trivial
def fsG : Int → List Tr → Int × Int
  | _, [] => (0, 0)
  | i, s :: r => if stE s = 0 then fsG (i + 1) r else (i, stE s)
theorem fsG_zero : ∀ {l : List Tr} {i : Int}, (fsG i l).2 = 0 ↔ ∀ s ∈ l, stE s = 0
  | [], i => by simp [fsG]
  | f :: r, i => by
    rw [fsG, List.forall_mem_cons (p := fun s : Tr => stE s = 0)]
    split
    · rename_i h; rw [fsG_zero]; exact ⟨fun x => ⟨h, x⟩, fun x => x.2⟩
    · rename_i h; exact ⟨fun x => absurd x h, fun x => absurd x.1 h⟩
theorem fsG_at {l : List Tr} {i : Nat} (h : i < l.length) (k : Int) : fsG k (l.drop i) = if stE (sp l i) = 0 then fsG (k + 1) (l.drop (i + 1)) else (k, stE (sp l i)) := by
  rw [List.drop_eq_getElem_cons h, ← sp_at h]; rfl
theorem conFs (l : List Tr) (hl : l.length < 1000000000) : C5 101 [.sl l.length 3 (vt l), .val (.func (.func 102) #[] #[])] [dI (fsG 0 l).1, dI (fsG 0 l).2] := by
  let inv : Nat × Nat → Prop := fun x => x.1 ≤ l.length ∧ fsG 0 l = fsG x.1 (l.drop x.1)
  let st : Nat × Nat → Slots × Blocks := fun x => zFs1 l.length x.2 l.length x.1 (vt l)
  refine con_of (L := fun _ s b => ∃ x, inv x ∧ st x = (s, b)) hokU mixed Try.func101 rfl (by show 1 ≤ 400; omega) rfl (ids := [0]) (by kernel_rfl) rfl (fun caps => ?_) (fun id hid => ?_)
  · show gFs _ _ l.length (caps 500) (vt l) _
    rw [gFs_text]
    exact ⟨(0, caps 500), ⟨Nat.zero_le _, rfl⟩, rfl⟩
  · obtain rfl := List.mem_singleton.1 hid
    refine ⟨Nat × Nat, st, inv, fun x => l.length - x.1, ⟨fun s b h => h, by kernel_rfl, ?_⟩⟩
    rintro ⟨i, cap⟩ ⟨hi, hr⟩
    simp only at hi hr
    show rFs1 _ _ l.length cap l.length i (vt l) _ _ _
    rw [rFs1_text]
    refine bc_dec (fun h => ?_) (fun h => ?_)
    · have hi1 : i < l.length := by omega
      rw [fsG_at hi1] at hr
      simp only [bc_t h, bc_t (show (0 : Int) ≤ (i : Int) by omega), Int.toNat_natCast, at3 (at_sp hi1)]
      refine ⟨_, ⟨conKS _⟩, bc_bne (fun h1 => ?_) (fun h1 => ?_)⟩
      · rw [if_neg h1] at hr
        show [_, _] = [_, _]
        rw [hr]
      · rw [if_pos h1] at hr
        refine ⟨(i + 1, cap), ⟨hi1, by rw [hr]; rfl⟩, by show l.length - (i + 1) < l.length - i; omega, ?_⟩
        rw [w64 (by omega) (by omega)]; rfl
    · show (if 0 = 0 then _ else _)
      rw [if_pos rfl]
      show nFs2 _ _ _
      rw [nFs2_text]
      rw [List.drop_eq_nil_of_le (by omega)] at hr
      show [_, _] = [_, _]
      rw [hr]; rfl
/-! ### worn contours -/
abbrev wr1 (s : Tr) (c : List (Int × Int)) : List (Int × Int) := c.map (wrP s.1 s.2.1 s.2.2)
def wrnL : List Tr → List (Int × Int) → List (Int × Int)
  | [], c => c
  | s :: r, c => wrnL r (wr1 s c)
@[simp] theorem wrnL_length : ∀ {l : List Tr} {c : List (Int × Int)}, (wrnL l c).length = c.length
  | [], _ => rfl
  | s :: r, c => by rw [wrnL, wrnL_length, List.length_map]
theorem wrnL_app : ∀ (a b : List Tr) (c : List (Int × Int)), wrnL (a ++ b) c = wrnL b (wrnL a c)
  | [], _, _ => rfl
  | s :: r, b, c => by rw [List.cons_append, wrnL, wrnL, wrnL_app]
theorem wrnL_take {l : List Tr} {i : Nat} (h : i < l.length) (c : List (Int × Int)) : wrnL (l.take (i + 1)) c = wr1 (sp l i) (wrnL (l.take i) c) := by
  rw [List.take_succ_eq_append_getElem h, wrnL_app, ← sp_at h]; rfl
def woE (c : List (Int × Int)) (l : List Tr) : Int := fst0 [ccE c, cntE l.length 0 20, (fsG 0 l).2]
def woP (c : List (Int × Int)) (l : List Tr) : List D := if woE c l = 0 then [.sl c.length 2 (vp (wrnL l c)), dI 0] else [.nil, dI (woE c l)]
structure WV (c : List (Int × Int)) (l : List Tr) : Prop where
  c : CcV c
  n : l.length ≤ 20
  s : ∀ s ∈ l, stE s = 0
theorem woE_ok {c : List (Int × Int)} {l : List Tr} : woE c l = 0 ↔ WV c l := by
  unfold woE
  rw [fst0_zero]
  simp only [List.forall_mem_cons, List.not_mem_nil, false_imp_iff, implies_true, and_true]
  rw [ccE_ok, cntE_ok, fsG_zero]
  constructor
  · rintro ⟨h1, h2, h3⟩; exact ⟨h1, by omega, h3⟩
  · intro h; exact ⟨h.c, by have := h.n; omega, h.s⟩
theorem conWo (c : List (Int × Int)) (l : List Tr) (hc : c.length ≤ 1000000) (hl : l.length ≤ 1000000) : C5 51 [.sl c.length 2 (vp c), .sl l.length 3 (vt l)] (woP c l) := by
  let inv : Nat × Nat → Prop := fun x => x.1 ≤ l.length ∧ WV c l
  let st : Nat × Nat → Slots × Blocks := fun x => zWo1 c.length l.length x.2 l.length x.1 (vp (wrnL (l.take x.1) c)) (vt l)
  refine con_of (L := fun _ s b => ∃ x, inv x ∧ st x = (s, b)) hokU mixed Try.func51 rfl (by show 2 ≤ 400; omega) rfl (ids := [0]) (by kernel_rfl) rfl (fun caps => ?_) (fun id hid => ?_)
  · show gWo _ _ c.length (caps 500) (vp c) l.length (caps 501) (vt l) _
    rw [gWo_text]
    simp only [bc_t (v2le c), bc_t (v3le l), vp_whole, vt_whole]
    refine ⟨_, _, ⟨conKC c hc⟩, _, _, ⟨conFs l (by omega)⟩, _, ⟨conCC _ _ _⟩, _, ⟨conFE [ccE c, cntE l.length 0 20, (fsG 0 l).2] (by simp)⟩, ?_⟩
    show bcase (woE c l != 0) _ _
    refine bc_bne (fun h => ?_) (fun h => ?_)
    · rw [woP, if_neg h]; first | rfl | trivial
    · exact ⟨⟨conCoP c hc⟩, (0, caps 501), ⟨Nat.zero_le _, woE_ok.1 h⟩, rfl⟩
  · obtain rfl := List.mem_singleton.1 hid
    refine ⟨Nat × Nat, st, inv, fun x => l.length - x.1, ⟨fun s b h => h, by kernel_rfl, ?_⟩⟩
    rintro ⟨i, cap⟩ ⟨hi, hv⟩
    simp only at hi
    have hn := hv.c.n
    show rWo1 _ _ c.length l.length cap l.length i (vp (wrnL (l.take i) c)) (vt l) _ _ _
    rw [rWo1_text]
    refine bc_dec (fun h => ?_) (fun h => ?_)
    · have hi1 : i < l.length := by omega
      simp only [bc_t h, bc_t (show (0 : Int) ≤ (i : Int) by omega), Int.toNat_natCast, at3 (at_sp hi1)]
      refine ⟨by omega, ⟨wrnL (l.take i) c, (prs_vp _).symm, by simp, by simp; omega⟩, vp (wr1 (sp l i) (wrnL (l.take i) c)), ⟨?_⟩, (i + 1, cap), ⟨hi1, hv⟩, by show l.length - (i + 1) < l.length - i; omega, ?_⟩
      · show vp (wr1 (sp l i) (wrnL (l.take i) c)) = wrL _ _ _ (vp (wrnL (l.take i) c))
        rw [wrL_vp]
      · rw [w64 (by omega) (by omega), ← wrnL_take hi1]; rfl
    · show (if 0 = 0 then _ else _)
      rw [if_pos rfl]
      show nWo2 _ _ c.length (vp (wrnL (l.take i) c)) _
      rw [nWo2_text, List.take_of_length_le (by omega)]
      refine ⟨⟨rfl, by simp⟩, ?_⟩
      show _ = _
      rw [woP, if_pos (woE_ok.2 hv)]
end Go.Proofs.G5f

/- Chapter 7: lists of strips as arguments. -/
namespace Go.Proofs.Ytpjfmeijfkbfaaa.K
open Go Go.Abs Go.RowKit Go.ChangeShapes Go.WideShapes Go.ChangeAt Go.Proofs Go.Flat Go.Proofs.G5f
set_option maxRecDepth 100000
theorem flat_vt : ∀ l : List Tr, (l.flatMap fun p => [Value.int .i64 p.1, Value.int .i64 p.2.1, Value.int .i64 p.2.2]) = vt l
  | [] => rfl
  | a :: r => by rw [List.flatMap_cons, flat_vt r]; rfl
theorem leaf_trs {t e : TypeId} {d : D} (ht : Try.prog.underlying t = some (.slice e)) (he : leaves Try.prog 10 e = some [.int .i64, .int .i64, .int .i64]) (h : LeafD Try.prog t d) : d = .nil ∨ ∃ l : List Tr, d = .sl l.length 3 (vt l) := by
  unfold LeafD at h
  rw [ht] at h
  simp only at h
  rcases h with h | ⟨n, cs, L, rfl, hL, hn, hl, hc⟩
  · exact .inl h
  · rw [he] at hL
    obtain rfl := Option.some.inj hL
    simp only [List.length_cons, List.length_nil, Nat.zero_add] at hl hc ⊢
    obtain ⟨ps, hp, rfl⟩ := chunks_of (f := fun p : Tr => [Value.int .i64 p.1, Value.int .i64 p.2.1, Value.int .i64 p.2.2]) (k := 3) (fun _ => rfl) n cs hl (fun i hi => by
      have := hc i hi
      generalize (cs.drop (i * 3)).take 3 = x at this ⊢
      cases this with | cons h1 t => cases t with | cons h2 t => cases t with | cons h3 t =>
      cases t
      obtain ⟨a, rfl, _⟩ := h1
      obtain ⟨b, rfl, _⟩ := h2
      obtain ⟨c, rfl, _⟩ := h3
      exact ⟨(a, b, c), rfl⟩)
    exact .inr ⟨ps, by rw [hp, flat_vt]⟩
end Go.Proofs.Ytpjfmeijfkbfaaa.K

/- What is left to show of each function, written out; the kernel reckons it. -/
namespace Go.Proofs.G5f
open Go Go.Abs Go.Proofs
set_option maxRecDepth 100000
set_option linter.unusedVariables false
end Go.Proofs.G5f

/- Chapter 7: worn contours by the definition, and FlatContours, in data. -/
namespace Go.Proofs.G5f
open Go Go.Abs Go.Proofs Go.Proofs.G7
set_option maxRecDepth 100000
theorem pt_map (f : Int × Int → Int × Int) {l : List (Int × Int)} {i : Nat} (h : i < l.length) : pt (l.map f) i = f (pt l i) := by
  rw [← pt_at (by simpa using h), ← pt_at h]; simp
def partL (s : Tr) (c : List (Int × Int)) (k : Nat) : List (Int × Int) := (List.range c.length).map fun j => if j < k then wrP s.1 s.2.1 s.2.2 (pt c j) else pt c j
@[simp] theorem partL_length {s : Tr} {c : List (Int × Int)} {k : Nat} : (partL s c k).length = c.length := by simp [partL]
/-! ### strips by the definition -/
theorem stE_1 {s : Tr} (h : ¬ ((0 ≤ s.1 ∧ s.1 ≤ 10000) ∧ (0 ≤ s.2.1 ∧ s.2.1 ≤ 10000))) : stE s = 2 := by rw [stE, if_neg h, fst0, if_neg (by decide)]
theorem stE_2 {s : Tr} (h : (0 ≤ s.1 ∧ s.1 ≤ 10000) ∧ (0 ≤ s.2.1 ∧ s.2.1 ≤ 10000)) (h2 : s.1 > s.2.1) : stE s = 9 := by rw [stE, if_pos h, if_pos h2, fst0, if_pos rfl, fst0, if_neg (by decide)]
theorem stE_3 {s : Tr} (h : (0 ≤ s.1 ∧ s.1 ≤ 10000) ∧ (0 ≤ s.2.1 ∧ s.2.1 ≤ 10000)) (h2 : ¬ s.1 > s.2.1) : stE s = rngE 0 1000 2 s.2.2 := by rw [stE, if_pos h, if_neg h2, fst0, if_pos rfl, fst0_two, if_pos rfl]
end Go.Proofs.G5f

/- Chapter 7: FlatContours, in data. -/
namespace Go.Proofs.G5f
open Go Go.Abs Go.Proofs Go.Proofs.G7
set_option maxRecDepth 100000
end Go.Proofs.G5f

/- Chapter 7: FlatChanges, in data. -/
namespace Go.Proofs.G5f
open Go Go.Abs Go.Proofs Go.Proofs.G7
set_option maxRecDepth 100000
end Go.Proofs.G5f

/- What is left to show of each function, written out; the kernel reckons it. -/
namespace Go.Proofs.G5f
open Go Go.Abs Go.Proofs
set_option maxRecDepth 100000
set_option linter.unusedVariables false
def gLw (C : Ct) (L : AtLoop) (n0 : Nat) (c0 : Nat) (l0 : List Value) (n1 : Nat) (c1 : Nat) (l1 : List Value) (x2 : Int) (k : List D → Prop) : Prop := wpFn Try.prog (hU C) L 0 9 #[.slice (some ⟨500, 0, none⟩) n0 c0, .slice (some ⟨501, 0, none⟩) n1 c1, .int .i64 x2] (heapOf [(500, .sym l0 false 2), (501, .sym l1 false 3)]) (dataK k)
theorem gLw_text (C : Ct) (L : AtLoop) (n0 : Nat) (c0 : Nat) (l0 : List Go.Value) (n1 : Nat) (c1 : Nat) (l1 : List Go.Value) (x2 : Int) (k : List D → Prop) : gLw C L n0 c0 l0 n1 c1 l1 x2 k =
 (((Says C 12 [] [(D.val (Value.bool true))]) ∧
 (bcase (decide ((↑n0 : Int) ≤ 12))
 (bcase (decide (0 + n0 * 2 ≤ List.length l0))
 (∃ n2 : Int,
 ((Says C 57 [(D.sl (n0) 2 (List.take (n0 * 2) (List.drop 0 l0)))] [(D.val (vI n2))]) ∧
 (bcase (n2 != 0)
 (k [(D.val (Value.bool true))])
 (bcase (decide ((↑n1 : Int) > 20))
 (k [(D.val (Value.bool true))])
 (bcase (decide (0 + n0 * 2 ≤ List.length l0))
 ((Says C 49 [(D.sl (n0) 2 (List.take (n0 * 2) (List.drop 0 l0)))] [(D.sl (n0) 2 (List.take (n0 * 2) (List.drop 0 l0)))]) ∧
 (bcase (decide (0 + n1 * 3 ≤ List.length l1))
 ((Says C 52 [(D.sl (n1) 3 (List.take (n1 * 3) (List.drop 0 l1)))] [(D.sl (n1) 3 (List.take (n1 * 3) (List.drop 0 l1)))]) ∧
 (bcase (decide (0 + n0 * 2 ≤ List.length (List.take (n0 * 2) (List.drop 0 l0))))
 (bcase (decide (0 + n1 * 3 ≤ List.length (List.take (n1 * 3) (List.drop 0 l1))))
 ((∃ n3 : Int,
 ((Says C 51 [(D.sl (n0) 2 (List.take (n0 * 2) (List.drop 0 (List.take (n0 * 2) (List.drop 0 l0))))), (D.sl (n1) 3 (List.take (n1 * 3) (List.drop 0 (List.take (n1 * 3) (List.drop 0 l1)))))] [D.nil, (D.val (vI n3))]) ∧
 (bcase (n3 != 0)
 (k [(D.val (Value.bool true))])
 (bcase (decide (0 + n0 * 2 ≤ List.length l0))
 ((Says C 49 [(D.sl (n0) 2 (List.take (n0 * 2) (List.drop 0 l0)))] [(D.sl (n0) 2 (List.take (n0 * 2) (List.drop 0 l0)))]) ∧
 (L 0 [(Prod.mk 0 (Go.Value.slice (Option.some (Go.Addr.mk 500 0 Option.none)) (n0) (c0))), (Prod.mk 1 (Go.Value.slice (Option.some (Go.Addr.mk 501 0 Option.none)) (n1) (c1))), (Prod.mk 2 (vI x2)), (Prod.mk 7 (Go.Value.slice Option.none 0 0)), (Prod.mk 9 (Go.Value.slice Option.none 0 0)), (Prod.mk 10 (Go.Value.slice (Option.some (Go.Addr.mk 1000 0 Option.none)) (n0) (n0))), (Prod.mk 11 (vI (IntKind.wrap .i64 ((↑n1 : Int) - 1))))] [(Prod.mk 500 (AObj.sym (l0) false 2)), (Prod.mk 501 (AObj.sym (l1) false 3)), (Prod.mk 1000 (AObj.sym (List.take (n0 * 2) (List.drop 0 l0)) true 2))]))
 False)))) ∨
 (∃ n3 : Nat,
 (∃ cs1 : List Go.Value,
 (∃ n4 : Int,
 ((Says C 51 [(D.sl (n0) 2 (List.take (n0 * 2) (List.drop 0 (List.take (n0 * 2) (List.drop 0 l0))))), (D.sl (n1) 3 (List.take (n1 * 3) (List.drop 0 (List.take (n1 * 3) (List.drop 0 l1)))))] [(D.sl (n3) 2 (cs1)), (D.val (vI n4))]) ∧
 (bcase (n4 != 0)
 (bcase ((↑n3 : Int) == 0)
 (k [(D.val (Value.bool true))])
 (k [(D.val (Value.bool false))]))
 (bcase (decide (0 + n0 * 2 ≤ List.length l0))
 ((Says C 49 [(D.sl (n0) 2 (List.take (n0 * 2) (List.drop 0 l0)))] [(D.sl (n0) 2 (List.take (n0 * 2) (List.drop 0 l0)))]) ∧
 (L 0 [(Prod.mk 0 (Go.Value.slice (Option.some (Go.Addr.mk 500 0 Option.none)) (n0) (c0))), (Prod.mk 1 (Go.Value.slice (Option.some (Go.Addr.mk 501 0 Option.none)) (n1) (c1))), (Prod.mk 2 (vI x2)), (Prod.mk 7 (Go.Value.slice (Option.some (Go.Addr.mk 1000 0 Option.none)) (n3) (n3))), (Prod.mk 9 (Go.Value.slice Option.none 0 0)), (Prod.mk 10 (Go.Value.slice (Option.some (Go.Addr.mk 1001 0 Option.none)) (n0) (n0))), (Prod.mk 11 (vI (IntKind.wrap .i64 ((↑n1 : Int) - 1))))] [(Prod.mk 500 (AObj.sym (l0) false 2)), (Prod.mk 501 (AObj.sym (l1) false 3)), (Prod.mk 1000 (AObj.sym (cs1) true 2)), (Prod.mk 1001 (AObj.sym (List.take (n0 * 2) (List.drop 0 l0)) true 2))]))
 False)))))))
 False)
 False))
 False))
 False)))))
 False)
 (k [(D.val (Value.bool true))]))) ∨
 ((Says C 12 [] [(D.val (Value.bool false))]) ∧
 (k [(D.val (Value.bool false))]))) := by kernel_rfl
abbrev zLw1 (n0 : Nat) (c1 : Nat) (n2 : Nat) (c3 : Nat) (x4 : Int) (n5 : Nat) (n6 : Nat) (x7 : Int) (l8 : List Value) (l9 : List Value) (l10 : List Value) (l11 : List Value) : Slots × Blocks := ([(0, (Value.slice (some ⟨500, 0, none⟩) n0 c1)), (1, (Value.slice (some ⟨501, 0, none⟩) n2 c3)), (2, (Value.int .i64 x4)), (7, (Value.slice (some ⟨1000, 0, none⟩) n5 n5)), (9, (Value.slice none 0 0)), (10, (Value.slice (some ⟨1001, 0, none⟩) n6 n6)), (11, (Value.int .i64 x7))], [(500, (AObj.sym l8 false 2)), (501, (AObj.sym l9 false 3)), (1000, (AObj.sym l10 true 2)), (1001, (AObj.sym l11 true 2))])
def rLw1 (C : Ct) (L : AtLoop) (n0 : Nat) (c1 : Nat) (n2 : Nat) (c3 : Nat) (x4 : Int) (n5 : Nat) (n6 : Nat) (x7 : Int) (l8 : List Value) (l9 : List Value) (l10 : List Value) (l11 : List Value) (B : Bx) (X : Xx) (k : List D → Prop) : Prop := wpRound Try.prog (hU C) L 9 0 [(0, (Value.slice (some ⟨500, 0, none⟩) n0 c1)), (1, (Value.slice (some ⟨501, 0, none⟩) n2 c3)), (2, (Value.int .i64 x4)), (7, (Value.slice (some ⟨1000, 0, none⟩) n5 n5)), (9, (Value.slice none 0 0)), (10, (Value.slice (some ⟨1001, 0, none⟩) n6 n6)), (11, (Value.int .i64 x7))] [(500, (AObj.sym l8 false 2)), (501, (AObj.sym l9 false 3)), (1000, (AObj.sym l10 true 2)), (1001, (AObj.sym l11 true 2))] B X (dataK k)
theorem rLw1_text (C : Ct) (L : AtLoop) (n0 : Nat) (c1 : Nat) (n2 : Nat) (c3 : Nat) (x4 : Int) (n5 : Nat) (n6 : Nat) (x7 : Int) (l8 : List Go.Value) (l9 : List Go.Value) (l10 : List Go.Value) (l11 : List Go.Value) (B : Bx) (X : Xx) (k : List D → Prop) : rLw1 C L n0 c1 n2 c3 x4 n5 n6 x7 l8 l9 l10 l11 B X k =
 (bcase (decide (x7 ≥ 0))
 (bcase (decide (0 ≤ x7))
 (bcase (decide (x7 < (↑n2 : Int)))
 (∃ n1 : Int,
 (∃ n3 : Int,
 (∃ n4 : Int,
 ((At (l9) (0 + Int.toNat x7 * 3) 3 [(vI n1), (vI n3), (vI n4)]) ∧
 (bcase (decide (0 + n6 * 2 ≤ List.length l11))
 (∃ n7 : Int,
 ((Says C 57 [(D.sl (n6) 2 (List.take (n6 * 2) (List.drop 0 l11)))] [(D.val (vI n7))]) ∧
 (bcase (n7 != 0)
 (k [(D.val (Value.bool true))])
 (bcase (decide (0 ≤ x7))
 (bcase (decide (x7 < (↑n2 : Int)))
 (∃ n8 : Int,
 (∃ n9 : Int,
 (∃ n10 : Int,
 ((At (l9) (0 + Int.toNat x7 * 3) 3 [(vI n8), (vI n9), (vI n10)]) ∧
 (bcase (decide (0 + n6 * 2 ≤ List.length l11))
 ((∃ n11 : Int,
 ((Says C 51 [(D.sl (n6) 2 (List.take (n6 * 2) (List.drop 0 l11))), (D.sl 1 3 [(vI n8), (vI n9), (vI n10)])] [D.nil, (D.val (vI n11))]) ∧
 (bcase (n11 != 0)
 (k [(D.val (Value.bool false))])
 ((Says C 49 [D.nil] [(D.sl 0 2 [])]) ∧
 (B [(Prod.mk 0 (Go.Value.slice (Option.some (Go.Addr.mk 500 0 Option.none)) (n0) (c1))), (Prod.mk 1 (Go.Value.slice (Option.some (Go.Addr.mk 501 0 Option.none)) (n2) (c3))), (Prod.mk 2 (vI x4)), (Prod.mk 7 (Go.Value.slice (Option.some (Go.Addr.mk 1000 0 Option.none)) (n5) (n5))), (Prod.mk 9 (Go.Value.slice (Option.some (Go.Addr.mk 1001 0 Option.none)) 1 1)), (Prod.mk 10 (Go.Value.slice (Option.some (Go.Addr.mk 1002 0 Option.none)) 0 0)), (Prod.mk 11 (vI (IntKind.wrap .i64 (x7 - 1))))] [(Prod.mk 500 (AObj.sym (l8) false 2)), (Prod.mk 501 (AObj.sym (l9) false 3)), (Prod.mk 1000 (AObj.sym (l10) true 2)), (Prod.mk 1001 (AObj.sym [(vI n1), (vI n3), (vI n4)] true 3)), (Prod.mk 1002 (AObj.sym [] true 2))]))))) ∨
 (∃ n11 : Nat,
 (∃ cs1 : List Go.Value,
 (∃ n12 : Int,
 ((Says C 51 [(D.sl (n6) 2 (List.take (n6 * 2) (List.drop 0 l11))), (D.sl 1 3 [(vI n8), (vI n9), (vI n10)])] [(D.sl (n11) 2 (cs1)), (D.val (vI n12))]) ∧
 (bcase (n12 != 0)
 (k [(D.val (Value.bool false))])
 (bcase (decide (0 + n11 * 2 ≤ List.length cs1))
 ((Says C 49 [(D.sl (n11) 2 (List.take (n11 * 2) (List.drop 0 cs1)))] [(D.sl (n11) 2 (List.take (n11 * 2) (List.drop 0 cs1)))]) ∧
 (B [(Prod.mk 0 (Go.Value.slice (Option.some (Go.Addr.mk 500 0 Option.none)) (n0) (c1))), (Prod.mk 1 (Go.Value.slice (Option.some (Go.Addr.mk 501 0 Option.none)) (n2) (c3))), (Prod.mk 2 (vI x4)), (Prod.mk 7 (Go.Value.slice (Option.some (Go.Addr.mk 1000 0 Option.none)) (n5) (n5))), (Prod.mk 9 (Go.Value.slice (Option.some (Go.Addr.mk 1001 0 Option.none)) 1 1)), (Prod.mk 10 (Go.Value.slice (Option.some (Go.Addr.mk 1002 0 Option.none)) (n11) (n11))), (Prod.mk 11 (vI (IntKind.wrap .i64 (x7 - 1))))] [(Prod.mk 500 (AObj.sym (l8) false 2)), (Prod.mk 501 (AObj.sym (l9) false 3)), (Prod.mk 1000 (AObj.sym (l10) true 2)), (Prod.mk 1001 (AObj.sym [(vI n1), (vI n3), (vI n4)] true 3)), (Prod.mk 1002 (AObj.sym (List.take (n11 * 2) (List.drop 0 cs1)) true 2))]))
 False)))))))
 False)))))
 False)
 False))))
 False)))))
 False)
 False)
 (X 0 [(Prod.mk 0 (Go.Value.slice (Option.some (Go.Addr.mk 500 0 Option.none)) (n0) (c1))), (Prod.mk 2 (vI x4)), (Prod.mk 7 (Go.Value.slice (Option.some (Go.Addr.mk 1000 0 Option.none)) (n5) (n5))), (Prod.mk 9 (Go.Value.slice Option.none 0 0)), (Prod.mk 10 (Go.Value.slice (Option.some (Go.Addr.mk 1001 0 Option.none)) (n6) (n6)))] [(Prod.mk 500 (AObj.sym (l8) false 2)), (Prod.mk 1000 (AObj.sym (l10) true 2)), (Prod.mk 1001 (AObj.sym (l11) true 2))])) := by kernel_rfl
abbrev zLw2 (n0 : Nat) (c1 : Nat) (n2 : Nat) (c3 : Nat) (x4 : Int) (n5 : Nat) (n6 : Nat) (n7 : Nat) (x8 : Int) (l9 : List Value) (l10 : List Value) (l11 : List Value) (l12 : List Value) (l13 : List Value) : Slots × Blocks := ([(0, (Value.slice (some ⟨500, 0, none⟩) n0 c1)), (1, (Value.slice (some ⟨501, 0, none⟩) n2 c3)), (2, (Value.int .i64 x4)), (7, (Value.slice (some ⟨1000, 0, none⟩) n5 n5)), (9, (Value.slice (some ⟨1001, 0, none⟩) n6 n6)), (10, (Value.slice (some ⟨1002, 0, none⟩) n7 n7)), (11, (Value.int .i64 x8))], [(500, (AObj.sym l9 false 2)), (501, (AObj.sym l10 false 3)), (1000, (AObj.sym l11 true 2)), (1001, (AObj.sym l12 true 3)), (1002, (AObj.sym l13 true 2))])
def rLw2 (C : Ct) (L : AtLoop) (n0 : Nat) (c1 : Nat) (n2 : Nat) (c3 : Nat) (x4 : Int) (n5 : Nat) (n6 : Nat) (n7 : Nat) (x8 : Int) (l9 : List Value) (l10 : List Value) (l11 : List Value) (l12 : List Value) (l13 : List Value) (B : Bx) (X : Xx) (k : List D → Prop) : Prop := wpRound Try.prog (hU C) L 9 0 [(0, (Value.slice (some ⟨500, 0, none⟩) n0 c1)), (1, (Value.slice (some ⟨501, 0, none⟩) n2 c3)), (2, (Value.int .i64 x4)), (7, (Value.slice (some ⟨1000, 0, none⟩) n5 n5)), (9, (Value.slice (some ⟨1001, 0, none⟩) n6 n6)), (10, (Value.slice (some ⟨1002, 0, none⟩) n7 n7)), (11, (Value.int .i64 x8))] [(500, (AObj.sym l9 false 2)), (501, (AObj.sym l10 false 3)), (1000, (AObj.sym l11 true 2)), (1001, (AObj.sym l12 true 3)), (1002, (AObj.sym l13 true 2))] B X (dataK k)
theorem rLw2_text (C : Ct) (L : AtLoop) (n0 : Nat) (c1 : Nat) (n2 : Nat) (c3 : Nat) (x4 : Int) (n5 : Nat) (n6 : Nat) (n7 : Nat) (x8 : Int) (l9 : List Go.Value) (l10 : List Go.Value) (l11 : List Go.Value) (l12 : List Go.Value) (l13 : List Go.Value) (B : Bx) (X : Xx) (k : List D → Prop) : rLw2 C L n0 c1 n2 c3 x4 n5 n6 n7 x8 l9 l10 l11 l12 l13 B X k =
 (bcase (decide (x8 ≥ 0))
 (bcase (decide (0 ≤ x8))
 (bcase (decide (x8 < (↑n2 : Int)))
 (∃ n1 : Int,
 (∃ n3 : Int,
 (∃ n4 : Int,
 ((At (l10) (0 + Int.toNat x8 * 3) 3 [(vI n1), (vI n3), (vI n4)]) ∧
 (bcase (decide (n6 < n6 + 1))
 (bcase (decide ((2 * (n6 + 1) + 768) * 24 ≤ 281474976710656))
 (bcase (decide (n6 + 1 ≤ 1099511627776))
 (bcase (decide (0 + n6 * 3 ≤ List.length l12))
 (bcase (decide (0 + n6 * 3 = List.length l12))
 (bcase (decide (0 + n7 * 2 ≤ List.length l13))
 (∃ n8 : Int,
 ((Says C 57 [(D.sl (n7) 2 (List.take (n7 * 2) (List.drop 0 l13)))] [(D.val (vI n8))]) ∧
 (bcase (n8 != 0)
 (k [(D.val (Value.bool true))])
 (bcase (decide (0 ≤ x8))
 (bcase (decide (x8 < (↑n2 : Int)))
 (∃ n9 : Int,
 (∃ n10 : Int,
 (∃ n11 : Int,
 ((At (l10) (0 + Int.toNat x8 * 3) 3 [(vI n9), (vI n10), (vI n11)]) ∧
 (bcase (decide (0 + n7 * 2 ≤ List.length l13))
 ((∃ n12 : Int,
 ((Says C 51 [(D.sl (n7) 2 (List.take (n7 * 2) (List.drop 0 l13))), (D.sl 1 3 [(vI n9), (vI n10), (vI n11)])] [D.nil, (D.val (vI n12))]) ∧
 (bcase (n12 != 0)
 (k [(D.val (Value.bool false))])
 ((Says C 49 [D.nil] [(D.sl 0 2 [])]) ∧
 (B [(Prod.mk 0 (Go.Value.slice (Option.some (Go.Addr.mk 500 0 Option.none)) (n0) (c1))), (Prod.mk 1 (Go.Value.slice (Option.some (Go.Addr.mk 501 0 Option.none)) (n2) (c3))), (Prod.mk 2 (vI x4)), (Prod.mk 7 (Go.Value.slice (Option.some (Go.Addr.mk 1000 0 Option.none)) (n5) (n5))), (Prod.mk 9 (Go.Value.slice (Option.some (Go.Addr.mk 1001 0 Option.none)) (n6 + 1) (n6 + 1))), (Prod.mk 10 (Go.Value.slice (Option.some (Go.Addr.mk 1002 0 Option.none)) 0 0)), (Prod.mk 11 (vI (IntKind.wrap .i64 (x8 - 1))))] [(Prod.mk 500 (AObj.sym (l9) false 2)), (Prod.mk 501 (AObj.sym (l10) false 3)), (Prod.mk 1000 (AObj.sym (l11) true 2)), (Prod.mk 1001 (AObj.sym ((List.take (n6 * 3) (List.drop 0 l12)) ++ [(vI n1), (vI n3), (vI n4)]) true 3)), (Prod.mk 1002 (AObj.sym [] true 2))]))))) ∨
 (∃ n12 : Nat,
 (∃ cs1 : List Go.Value,
 (∃ n13 : Int,
 ((Says C 51 [(D.sl (n7) 2 (List.take (n7 * 2) (List.drop 0 l13))), (D.sl 1 3 [(vI n9), (vI n10), (vI n11)])] [(D.sl (n12) 2 (cs1)), (D.val (vI n13))]) ∧
 (bcase (n13 != 0)
 (k [(D.val (Value.bool false))])
 (bcase (decide (0 + n12 * 2 ≤ List.length cs1))
 ((Says C 49 [(D.sl (n12) 2 (List.take (n12 * 2) (List.drop 0 cs1)))] [(D.sl (n12) 2 (List.take (n12 * 2) (List.drop 0 cs1)))]) ∧
 (B [(Prod.mk 0 (Go.Value.slice (Option.some (Go.Addr.mk 500 0 Option.none)) (n0) (c1))), (Prod.mk 1 (Go.Value.slice (Option.some (Go.Addr.mk 501 0 Option.none)) (n2) (c3))), (Prod.mk 2 (vI x4)), (Prod.mk 7 (Go.Value.slice (Option.some (Go.Addr.mk 1000 0 Option.none)) (n5) (n5))), (Prod.mk 9 (Go.Value.slice (Option.some (Go.Addr.mk 1001 0 Option.none)) (n6 + 1) (n6 + 1))), (Prod.mk 10 (Go.Value.slice (Option.some (Go.Addr.mk 1002 0 Option.none)) (n12) (n12))), (Prod.mk 11 (vI (IntKind.wrap .i64 (x8 - 1))))] [(Prod.mk 500 (AObj.sym (l9) false 2)), (Prod.mk 501 (AObj.sym (l10) false 3)), (Prod.mk 1000 (AObj.sym (l11) true 2)), (Prod.mk 1001 (AObj.sym ((List.take (n6 * 3) (List.drop 0 l12)) ++ [(vI n1), (vI n3), (vI n4)]) true 3)), (Prod.mk 1002 (AObj.sym (List.take (n12 * 2) (List.drop 0 cs1)) true 2))]))
 False)))))))
 False)))))
 False)
 False))))
 False)
 False)
 False)
 False)
 False)
 False)))))
 False)
 False)
 (X 0 [(Prod.mk 0 (Go.Value.slice (Option.some (Go.Addr.mk 500 0 Option.none)) (n0) (c1))), (Prod.mk 2 (vI x4)), (Prod.mk 7 (Go.Value.slice (Option.some (Go.Addr.mk 1000 0 Option.none)) (n5) (n5))), (Prod.mk 9 (Go.Value.slice (Option.some (Go.Addr.mk 1001 0 Option.none)) (n6) (n6))), (Prod.mk 10 (Go.Value.slice (Option.some (Go.Addr.mk 1002 0 Option.none)) (n7) (n7)))] [(Prod.mk 500 (AObj.sym (l9) false 2)), (Prod.mk 1000 (AObj.sym (l11) true 2)), (Prod.mk 1001 (AObj.sym (l12) true 3)), (Prod.mk 1002 (AObj.sym (l13) true 2))])) := by kernel_rfl
def nLw3 (C : Ct) (L : AtLoop) (n0 : Nat) (c1 : Nat) (x2 : Int) (n3 : Nat) (n4 : Nat) (l5 : List Value) (l6 : List Value) (l7 : List Value) (k : List D → Prop) : Prop := wpNext Try.prog (hU C) L 9 0 .normal [(0, (Value.slice (some ⟨500, 0, none⟩) n0 c1)), (2, (Value.int .i64 x2)), (7, (Value.slice (some ⟨1000, 0, none⟩) n3 n3)), (9, (Value.slice none 0 0)), (10, (Value.slice (some ⟨1001, 0, none⟩) n4 n4))] [(500, (AObj.sym l5 false 2)), (1000, (AObj.sym l6 true 2)), (1001, (AObj.sym l7 true 2))] (dataK k)
theorem nLw3_text (C : Ct) (L : AtLoop) (n0 : Nat) (c1 : Nat) (x2 : Int) (n3 : Nat) (n4 : Nat) (l5 : List Go.Value) (l6 : List Go.Value) (l7 : List Go.Value) (k : List D → Prop) : nLw3 C L n0 c1 x2 n3 n4 l5 l6 l7 k =
 (bcase (decide (0 + n0 * 2 ≤ List.length l5))
 ((Says C 49 [(D.sl (n0) 2 (List.take (n0 * 2) (List.drop 0 l5)))] [(D.sl (n0) 2 (List.take (n0 * 2) (List.drop 0 l5)))]) ∧
 (bcase (decide (0 + n0 * 2 ≤ List.length (List.take (n0 * 2) (List.drop 0 l5))))
 ((∃ n1 : Int,
 ((Says C 51 [(D.sl (n0) 2 (List.take (n0 * 2) (List.drop 0 (List.take (n0 * 2) (List.drop 0 l5))))), D.nil] [D.nil, (D.val (vI n1))]) ∧
 (bcase (n1 != 0)
 (k [(D.val (Value.bool false))])
 (bcase (decide (0 + n3 * 2 ≤ List.length l6))
 (((Says C 56 [(D.sl (n3) 2 (List.take (n3 * 2) (List.drop 0 l6))), D.nil] [(D.val (Value.bool true))]) ∧
 (bcase (decide (0 + n3 * 2 ≤ List.length l6))
 (bcase (decide (0 + n4 * 2 ≤ List.length l7))
 (((Says C 56 [(D.sl (n3) 2 (List.take (n3 * 2) (List.drop 0 l6))), (D.sl (n4) 2 (List.take (n4 * 2) (List.drop 0 l7)))] [(D.val (Value.bool true))]) ∧
 (bcase (decide (0 + n3 * 2 ≤ List.length l6))
 (∃ n2 : Int,
 ((Says C 57 [(D.sl (n3) 2 (List.take (n3 * 2) (List.drop 0 l6)))] [(D.val (vI n2))]) ∧
 (bcase (n2 != 0)
 (k [(D.val (Value.bool true))])
 (bcase (decide (0 + n0 * 2 ≤ List.length l5))
 ((Says C 49 [(D.sl (n0) 2 (List.take (n0 * 2) (List.drop 0 l5)))] [(D.sl (n0) 2 (List.take (n0 * 2) (List.drop 0 l5)))]) ∧
 (bcase (decide (0 + n0 * 2 ≤ List.length (List.take (n0 * 2) (List.drop 0 l5))))
 (∃ n5 : Int,
 (∃ n6 : Int,
 (∃ n7 : Int,
 ((Says C 50 [(D.sl (n0) 2 (List.take (n0 * 2) (List.drop 0 (List.take (n0 * 2) (List.drop 0 l5))))), (D.val (vI x2))] [(D.agg [(D.val (vI n5)), (D.val (vI n6))]), (D.val (vI n7))]) ∧
 (bcase (decide (0 + n3 * 2 ≤ List.length l6))
 ((Says C 49 [(D.sl (n3) 2 (List.take (n3 * 2) (List.drop 0 l6)))] [(D.sl (n3) 2 (List.take (n3 * 2) (List.drop 0 l6)))]) ∧
 (bcase (decide (0 + n3 * 2 ≤ List.length (List.take (n3 * 2) (List.drop 0 l6))))
 (∃ n8 : Int,
 (∃ n9 : Int,
 (∃ n10 : Int,
 ((Says C 50 [(D.sl (n3) 2 (List.take (n3 * 2) (List.drop 0 (List.take (n3 * 2) (List.drop 0 l6))))), (D.val (vI x2))] [(D.agg [(D.val (vI n8)), (D.val (vI n9))]), (D.val (vI n10))]) ∧
 (bcase (n7 != n10)
 (k [(D.val (Value.bool false))])
 (bcase (n7 != 0)
 (k [(D.val (Value.bool true))])
 (((Says C 27 [(D.agg [(D.val (vI n5)), (D.val (vI n6))])] [(D.val (Value.bool true))]) ∧
 (((Says C 27 [(D.agg [(D.val (vI n8)), (D.val (vI n9))])] [(D.val (Value.bool true))]) ∧
 (∃ n11 : Int,
 ((Says C 58 [(D.agg [(D.val (vI n8)), (D.val (vI n9))]), (D.agg [(D.val (vI n5)), (D.val (vI n6))])] [(D.val (vI n11))]) ∧
 (bcase (decide (n11 ≤ 0))
 (k [(D.val (Value.bool true))])
 (k [(D.val (Value.bool false))]))))) ∨
 ((Says C 27 [(D.agg [(D.val (vI n8)), (D.val (vI n9))])] [(D.val (Value.bool false))]) ∧
 (k [(D.val (Value.bool false))])))) ∨
 ((Says C 27 [(D.agg [(D.val (vI n5)), (D.val (vI n6))])] [(D.val (Value.bool false))]) ∧
 (k [(D.val (Value.bool false))])))))))))
 False))
 False)))))
 False))
 False))))
 False)) ∨
 ((Says C 56 [(D.sl (n3) 2 (List.take (n3 * 2) (List.drop 0 l6))), (D.sl (n4) 2 (List.take (n4 * 2) (List.drop 0 l7)))] [(D.val (Value.bool false))]) ∧
 (k [(D.val (Value.bool false))])))
 False)
 False)) ∨
 ((Says C 56 [(D.sl (n3) 2 (List.take (n3 * 2) (List.drop 0 l6))), D.nil] [(D.val (Value.bool false))]) ∧
 (k [(D.val (Value.bool false))])))
 False)))) ∨
 (∃ n1 : Nat,
 (∃ cs1 : List Go.Value,
 (∃ n2 : Int,
 ((Says C 51 [(D.sl (n0) 2 (List.take (n0 * 2) (List.drop 0 (List.take (n0 * 2) (List.drop 0 l5))))), D.nil] [(D.sl (n1) 2 (cs1)), (D.val (vI n2))]) ∧
 (bcase (n2 != 0)
 (k [(D.val (Value.bool false))])
 (bcase (decide (0 + n3 * 2 ≤ List.length l6))
 (bcase (decide (0 + n1 * 2 ≤ List.length cs1))
 (((Says C 56 [(D.sl (n3) 2 (List.take (n3 * 2) (List.drop 0 l6))), (D.sl (n1) 2 (List.take (n1 * 2) (List.drop 0 cs1)))] [(D.val (Value.bool true))]) ∧
 (bcase (decide (0 + n3 * 2 ≤ List.length l6))
 (bcase (decide (0 + n4 * 2 ≤ List.length l7))
 (((Says C 56 [(D.sl (n3) 2 (List.take (n3 * 2) (List.drop 0 l6))), (D.sl (n4) 2 (List.take (n4 * 2) (List.drop 0 l7)))] [(D.val (Value.bool true))]) ∧
 (bcase (decide (0 + n3 * 2 ≤ List.length l6))
 (∃ n5 : Int,
 ((Says C 57 [(D.sl (n3) 2 (List.take (n3 * 2) (List.drop 0 l6)))] [(D.val (vI n5))]) ∧
 (bcase (n5 != 0)
 (k [(D.val (Value.bool true))])
 (bcase (decide (0 + n0 * 2 ≤ List.length l5))
 ((Says C 49 [(D.sl (n0) 2 (List.take (n0 * 2) (List.drop 0 l5)))] [(D.sl (n0) 2 (List.take (n0 * 2) (List.drop 0 l5)))]) ∧
 (bcase (decide (0 + n0 * 2 ≤ List.length (List.take (n0 * 2) (List.drop 0 l5))))
 (∃ n6 : Int,
 (∃ n7 : Int,
 (∃ n8 : Int,
 ((Says C 50 [(D.sl (n0) 2 (List.take (n0 * 2) (List.drop 0 (List.take (n0 * 2) (List.drop 0 l5))))), (D.val (vI x2))] [(D.agg [(D.val (vI n6)), (D.val (vI n7))]), (D.val (vI n8))]) ∧
 (bcase (decide (0 + n3 * 2 ≤ List.length l6))
 ((Says C 49 [(D.sl (n3) 2 (List.take (n3 * 2) (List.drop 0 l6)))] [(D.sl (n3) 2 (List.take (n3 * 2) (List.drop 0 l6)))]) ∧
 (bcase (decide (0 + n3 * 2 ≤ List.length (List.take (n3 * 2) (List.drop 0 l6))))
 (∃ n9 : Int,
 (∃ n10 : Int,
 (∃ n11 : Int,
 ((Says C 50 [(D.sl (n3) 2 (List.take (n3 * 2) (List.drop 0 (List.take (n3 * 2) (List.drop 0 l6))))), (D.val (vI x2))] [(D.agg [(D.val (vI n9)), (D.val (vI n10))]), (D.val (vI n11))]) ∧
 (bcase (n8 != n11)
 (k [(D.val (Value.bool false))])
 (bcase (n8 != 0)
 (k [(D.val (Value.bool true))])
 (((Says C 27 [(D.agg [(D.val (vI n6)), (D.val (vI n7))])] [(D.val (Value.bool true))]) ∧
 (((Says C 27 [(D.agg [(D.val (vI n9)), (D.val (vI n10))])] [(D.val (Value.bool true))]) ∧
 (∃ n12 : Int,
 ((Says C 58 [(D.agg [(D.val (vI n9)), (D.val (vI n10))]), (D.agg [(D.val (vI n6)), (D.val (vI n7))])] [(D.val (vI n12))]) ∧
 (bcase (decide (n12 ≤ 0))
 (k [(D.val (Value.bool true))])
 (k [(D.val (Value.bool false))]))))) ∨
 ((Says C 27 [(D.agg [(D.val (vI n9)), (D.val (vI n10))])] [(D.val (Value.bool false))]) ∧
 (k [(D.val (Value.bool false))])))) ∨
 ((Says C 27 [(D.agg [(D.val (vI n6)), (D.val (vI n7))])] [(D.val (Value.bool false))]) ∧
 (k [(D.val (Value.bool false))])))))))))
 False))
 False)))))
 False))
 False))))
 False)) ∨
 ((Says C 56 [(D.sl (n3) 2 (List.take (n3 * 2) (List.drop 0 l6))), (D.sl (n4) 2 (List.take (n4 * 2) (List.drop 0 l7)))] [(D.val (Value.bool false))]) ∧
 (k [(D.val (Value.bool false))])))
 False)
 False)) ∨
 ((Says C 56 [(D.sl (n3) 2 (List.take (n3 * 2) (List.drop 0 l6))), (D.sl (n1) 2 (List.take (n1 * 2) (List.drop 0 cs1)))] [(D.val (Value.bool false))]) ∧
 (k [(D.val (Value.bool false))])))
 False)
 False)))))))
 False))
 False) := by kernel_rfl
def nLw4 (C : Ct) (L : AtLoop) (n0 : Nat) (c1 : Nat) (x2 : Int) (n3 : Nat) (n4 : Nat) (n5 : Nat) (l6 : List Value) (l7 : List Value) (l8 : List Value) (l9 : List Value) (k : List D → Prop) : Prop := wpNext Try.prog (hU C) L 9 0 .normal [(0, (Value.slice (some ⟨500, 0, none⟩) n0 c1)), (2, (Value.int .i64 x2)), (7, (Value.slice (some ⟨1000, 0, none⟩) n3 n3)), (9, (Value.slice (some ⟨1001, 0, none⟩) n4 n4)), (10, (Value.slice (some ⟨1002, 0, none⟩) n5 n5))] [(500, (AObj.sym l6 false 2)), (1000, (AObj.sym l7 true 2)), (1001, (AObj.sym l8 true 3)), (1002, (AObj.sym l9 true 2))] (dataK k)
theorem nLw4_text (C : Ct) (L : AtLoop) (n0 : Nat) (c1 : Nat) (x2 : Int) (n3 : Nat) (n4 : Nat) (n5 : Nat) (l6 : List Go.Value) (l7 : List Go.Value) (l8 : List Go.Value) (l9 : List Go.Value) (k : List D → Prop) : nLw4 C L n0 c1 x2 n3 n4 n5 l6 l7 l8 l9 k =
 (bcase (decide (0 + n0 * 2 ≤ List.length l6))
 ((Says C 49 [(D.sl (n0) 2 (List.take (n0 * 2) (List.drop 0 l6)))] [(D.sl (n0) 2 (List.take (n0 * 2) (List.drop 0 l6)))]) ∧
 (bcase (decide (0 + n0 * 2 ≤ List.length (List.take (n0 * 2) (List.drop 0 l6))))
 (bcase (decide (0 + n4 * 3 ≤ List.length l8))
 ((∃ n1 : Int,
 ((Says C 51 [(D.sl (n0) 2 (List.take (n0 * 2) (List.drop 0 (List.take (n0 * 2) (List.drop 0 l6))))), (D.sl (n4) 3 (List.take (n4 * 3) (List.drop 0 l8)))] [D.nil, (D.val (vI n1))]) ∧
 (bcase (n1 != 0)
 (k [(D.val (Value.bool false))])
 (bcase (decide (0 + n3 * 2 ≤ List.length l7))
 (((Says C 56 [(D.sl (n3) 2 (List.take (n3 * 2) (List.drop 0 l7))), D.nil] [(D.val (Value.bool true))]) ∧
 (bcase (decide (0 + n3 * 2 ≤ List.length l7))
 (bcase (decide (0 + n5 * 2 ≤ List.length l9))
 (((Says C 56 [(D.sl (n3) 2 (List.take (n3 * 2) (List.drop 0 l7))), (D.sl (n5) 2 (List.take (n5 * 2) (List.drop 0 l9)))] [(D.val (Value.bool true))]) ∧
 (bcase (decide (0 + n3 * 2 ≤ List.length l7))
 (∃ n2 : Int,
 ((Says C 57 [(D.sl (n3) 2 (List.take (n3 * 2) (List.drop 0 l7)))] [(D.val (vI n2))]) ∧
 (bcase (n2 != 0)
 (k [(D.val (Value.bool true))])
 (bcase (decide (0 + n0 * 2 ≤ List.length l6))
 ((Says C 49 [(D.sl (n0) 2 (List.take (n0 * 2) (List.drop 0 l6)))] [(D.sl (n0) 2 (List.take (n0 * 2) (List.drop 0 l6)))]) ∧
 (bcase (decide (0 + n0 * 2 ≤ List.length (List.take (n0 * 2) (List.drop 0 l6))))
 (∃ n6 : Int,
 (∃ n7 : Int,
 (∃ n8 : Int,
 ((Says C 50 [(D.sl (n0) 2 (List.take (n0 * 2) (List.drop 0 (List.take (n0 * 2) (List.drop 0 l6))))), (D.val (vI x2))] [(D.agg [(D.val (vI n6)), (D.val (vI n7))]), (D.val (vI n8))]) ∧
 (bcase (decide (0 + n3 * 2 ≤ List.length l7))
 ((Says C 49 [(D.sl (n3) 2 (List.take (n3 * 2) (List.drop 0 l7)))] [(D.sl (n3) 2 (List.take (n3 * 2) (List.drop 0 l7)))]) ∧
 (bcase (decide (0 + n3 * 2 ≤ List.length (List.take (n3 * 2) (List.drop 0 l7))))
 (∃ n9 : Int,
 (∃ n10 : Int,
 (∃ n11 : Int,
 ((Says C 50 [(D.sl (n3) 2 (List.take (n3 * 2) (List.drop 0 (List.take (n3 * 2) (List.drop 0 l7))))), (D.val (vI x2))] [(D.agg [(D.val (vI n9)), (D.val (vI n10))]), (D.val (vI n11))]) ∧
 (bcase (n8 != n11)
 (k [(D.val (Value.bool false))])
 (bcase (n8 != 0)
 (k [(D.val (Value.bool true))])
 (((Says C 27 [(D.agg [(D.val (vI n6)), (D.val (vI n7))])] [(D.val (Value.bool true))]) ∧
 (((Says C 27 [(D.agg [(D.val (vI n9)), (D.val (vI n10))])] [(D.val (Value.bool true))]) ∧
 (∃ n12 : Int,
 ((Says C 58 [(D.agg [(D.val (vI n9)), (D.val (vI n10))]), (D.agg [(D.val (vI n6)), (D.val (vI n7))])] [(D.val (vI n12))]) ∧
 (bcase (decide (n12 ≤ 0))
 (k [(D.val (Value.bool true))])
 (k [(D.val (Value.bool false))]))))) ∨
 ((Says C 27 [(D.agg [(D.val (vI n9)), (D.val (vI n10))])] [(D.val (Value.bool false))]) ∧
 (k [(D.val (Value.bool false))])))) ∨
 ((Says C 27 [(D.agg [(D.val (vI n6)), (D.val (vI n7))])] [(D.val (Value.bool false))]) ∧
 (k [(D.val (Value.bool false))])))))))))
 False))
 False)))))
 False))
 False))))
 False)) ∨
 ((Says C 56 [(D.sl (n3) 2 (List.take (n3 * 2) (List.drop 0 l7))), (D.sl (n5) 2 (List.take (n5 * 2) (List.drop 0 l9)))] [(D.val (Value.bool false))]) ∧
 (k [(D.val (Value.bool false))])))
 False)
 False)) ∨
 ((Says C 56 [(D.sl (n3) 2 (List.take (n3 * 2) (List.drop 0 l7))), D.nil] [(D.val (Value.bool false))]) ∧
 (k [(D.val (Value.bool false))])))
 False)))) ∨
 (∃ n1 : Nat,
 (∃ cs1 : List Go.Value,
 (∃ n2 : Int,
 ((Says C 51 [(D.sl (n0) 2 (List.take (n0 * 2) (List.drop 0 (List.take (n0 * 2) (List.drop 0 l6))))), (D.sl (n4) 3 (List.take (n4 * 3) (List.drop 0 l8)))] [(D.sl (n1) 2 (cs1)), (D.val (vI n2))]) ∧
 (bcase (n2 != 0)
 (k [(D.val (Value.bool false))])
 (bcase (decide (0 + n3 * 2 ≤ List.length l7))
 (bcase (decide (0 + n1 * 2 ≤ List.length cs1))
 (((Says C 56 [(D.sl (n3) 2 (List.take (n3 * 2) (List.drop 0 l7))), (D.sl (n1) 2 (List.take (n1 * 2) (List.drop 0 cs1)))] [(D.val (Value.bool true))]) ∧
 (bcase (decide (0 + n3 * 2 ≤ List.length l7))
 (bcase (decide (0 + n5 * 2 ≤ List.length l9))
 (((Says C 56 [(D.sl (n3) 2 (List.take (n3 * 2) (List.drop 0 l7))), (D.sl (n5) 2 (List.take (n5 * 2) (List.drop 0 l9)))] [(D.val (Value.bool true))]) ∧
 (bcase (decide (0 + n3 * 2 ≤ List.length l7))
 (∃ n6 : Int,
 ((Says C 57 [(D.sl (n3) 2 (List.take (n3 * 2) (List.drop 0 l7)))] [(D.val (vI n6))]) ∧
 (bcase (n6 != 0)
 (k [(D.val (Value.bool true))])
 (bcase (decide (0 + n0 * 2 ≤ List.length l6))
 ((Says C 49 [(D.sl (n0) 2 (List.take (n0 * 2) (List.drop 0 l6)))] [(D.sl (n0) 2 (List.take (n0 * 2) (List.drop 0 l6)))]) ∧
 (bcase (decide (0 + n0 * 2 ≤ List.length (List.take (n0 * 2) (List.drop 0 l6))))
 (∃ n7 : Int,
 (∃ n8 : Int,
 (∃ n9 : Int,
 ((Says C 50 [(D.sl (n0) 2 (List.take (n0 * 2) (List.drop 0 (List.take (n0 * 2) (List.drop 0 l6))))), (D.val (vI x2))] [(D.agg [(D.val (vI n7)), (D.val (vI n8))]), (D.val (vI n9))]) ∧
 (bcase (decide (0 + n3 * 2 ≤ List.length l7))
 ((Says C 49 [(D.sl (n3) 2 (List.take (n3 * 2) (List.drop 0 l7)))] [(D.sl (n3) 2 (List.take (n3 * 2) (List.drop 0 l7)))]) ∧
 (bcase (decide (0 + n3 * 2 ≤ List.length (List.take (n3 * 2) (List.drop 0 l7))))
 (∃ n10 : Int,
 (∃ n11 : Int,
 (∃ n12 : Int,
 ((Says C 50 [(D.sl (n3) 2 (List.take (n3 * 2) (List.drop 0 (List.take (n3 * 2) (List.drop 0 l7))))), (D.val (vI x2))] [(D.agg [(D.val (vI n10)), (D.val (vI n11))]), (D.val (vI n12))]) ∧
 (bcase (n9 != n12)
 (k [(D.val (Value.bool false))])
 (bcase (n9 != 0)
 (k [(D.val (Value.bool true))])
 (((Says C 27 [(D.agg [(D.val (vI n7)), (D.val (vI n8))])] [(D.val (Value.bool true))]) ∧
 (((Says C 27 [(D.agg [(D.val (vI n10)), (D.val (vI n11))])] [(D.val (Value.bool true))]) ∧
 (∃ n13 : Int,
 ((Says C 58 [(D.agg [(D.val (vI n10)), (D.val (vI n11))]), (D.agg [(D.val (vI n7)), (D.val (vI n8))])] [(D.val (vI n13))]) ∧
 (bcase (decide (n13 ≤ 0))
 (k [(D.val (Value.bool true))])
 (k [(D.val (Value.bool false))]))))) ∨
 ((Says C 27 [(D.agg [(D.val (vI n10)), (D.val (vI n11))])] [(D.val (Value.bool false))]) ∧
 (k [(D.val (Value.bool false))])))) ∨
 ((Says C 27 [(D.agg [(D.val (vI n7)), (D.val (vI n8))])] [(D.val (Value.bool false))]) ∧
 (k [(D.val (Value.bool false))])))))))))
 False))
 False)))))
 False))
 False))))
 False)) ∨
 ((Says C 56 [(D.sl (n3) 2 (List.take (n3 * 2) (List.drop 0 l7))), (D.sl (n5) 2 (List.take (n5 * 2) (List.drop 0 l9)))] [(D.val (Value.bool false))]) ∧
 (k [(D.val (Value.bool false))])))
 False)
 False)) ∨
 ((Says C 56 [(D.sl (n3) 2 (List.take (n3 * 2) (List.drop 0 l7))), (D.sl (n1) 2 (List.take (n1 * 2) (List.drop 0 cs1)))] [(D.val (Value.bool false))]) ∧
 (k [(D.val (Value.bool false))])))
 False)
 False)))))))
 False)
 False))
 False) := by kernel_rfl
def gLwn (C : Ct) (L : AtLoop) (n1 : Nat) (c1 : Nat) (l1 : List Value) (x2 : Int) (k : List D → Prop) : Prop := wpFn Try.prog (hU C) L 0 9 #[.slice none 0 0, .slice (some ⟨500, 0, none⟩) n1 c1, .int .i64 x2] (heapOf [(500, .sym l1 false 3)]) (dataK k)
theorem gLwn_text (C : Ct) (L : AtLoop) (n1 : Nat) (c1 : Nat) (l1 : List Go.Value) (x2 : Int) (k : List D → Prop) : gLwn C L n1 c1 l1 x2 k =
 (((Says C 12 [] [(D.val (Value.bool true))]) ∧
 (∃ n2 : Int,
 ((Says C 57 [D.nil] [(D.val (vI n2))]) ∧
 (bcase (n2 != 0)
 (k [(D.val (Value.bool true))])
 (bcase (decide ((↑n1 : Int) > 20))
 (k [(D.val (Value.bool true))])
 ((Says C 49 [D.nil] [(D.sl 0 2 [])]) ∧
 (bcase (decide (0 + n1 * 3 ≤ List.length l1))
 ((Says C 52 [(D.sl (n1) 3 (List.take (n1 * 3) (List.drop 0 l1)))] [(D.sl (n1) 3 (List.take (n1 * 3) (List.drop 0 l1)))]) ∧
 (bcase (decide (0 + n1 * 3 ≤ List.length (List.take (n1 * 3) (List.drop 0 l1))))
 ((∃ n3 : Int,
 ((Says C 51 [(D.sl 0 2 []), (D.sl (n1) 3 (List.take (n1 * 3) (List.drop 0 (List.take (n1 * 3) (List.drop 0 l1)))))] [D.nil, (D.val (vI n3))]) ∧
 (bcase (n3 != 0)
 (k [(D.val (Value.bool true))])
 ((Says C 49 [D.nil] [(D.sl 0 2 [])]) ∧
 (L 0 [(Prod.mk 0 (Go.Value.slice Option.none 0 0)), (Prod.mk 1 (Go.Value.slice (Option.some (Go.Addr.mk 500 0 Option.none)) (n1) (c1))), (Prod.mk 2 (vI x2)), (Prod.mk 7 (Go.Value.slice Option.none 0 0)), (Prod.mk 9 (Go.Value.slice Option.none 0 0)), (Prod.mk 10 (Go.Value.slice (Option.some (Go.Addr.mk 1000 0 Option.none)) 0 0)), (Prod.mk 11 (vI (IntKind.wrap .i64 ((↑n1 : Int) - 1))))] [(Prod.mk 500 (AObj.sym (l1) false 3)), (Prod.mk 1000 (AObj.sym [] true 2))]))))) ∨
 (∃ n3 : Nat,
 (∃ cs1 : List Go.Value,
 (∃ n4 : Int,
 ((Says C 51 [(D.sl 0 2 []), (D.sl (n1) 3 (List.take (n1 * 3) (List.drop 0 (List.take (n1 * 3) (List.drop 0 l1)))))] [(D.sl (n3) 2 (cs1)), (D.val (vI n4))]) ∧
 (bcase (n4 != 0)
 (bcase ((↑n3 : Int) == 0)
 (k [(D.val (Value.bool true))])
 (k [(D.val (Value.bool false))]))
 ((Says C 49 [D.nil] [(D.sl 0 2 [])]) ∧
 (L 0 [(Prod.mk 0 (Go.Value.slice Option.none 0 0)), (Prod.mk 1 (Go.Value.slice (Option.some (Go.Addr.mk 500 0 Option.none)) (n1) (c1))), (Prod.mk 2 (vI x2)), (Prod.mk 7 (Go.Value.slice (Option.some (Go.Addr.mk 1000 0 Option.none)) (n3) (n3))), (Prod.mk 9 (Go.Value.slice Option.none 0 0)), (Prod.mk 10 (Go.Value.slice (Option.some (Go.Addr.mk 1001 0 Option.none)) 0 0)), (Prod.mk 11 (vI (IntKind.wrap .i64 ((↑n1 : Int) - 1))))] [(Prod.mk 500 (AObj.sym (l1) false 3)), (Prod.mk 1000 (AObj.sym (cs1) true 2)), (Prod.mk 1001 (AObj.sym [] true 2))]))))))))
 False))
 False))))))) ∨
 ((Says C 12 [] [(D.val (Value.bool false))]) ∧
 (k [(D.val (Value.bool false))]))) := by kernel_rfl
def gLwz (C : Ct) (L : AtLoop) (x2 : Int) (k : List D → Prop) : Prop := wpFn Try.prog (hU C) L 0 9 #[.slice none 0 0, .slice none 0 0, .int .i64 x2] (heapOf []) (dataK k)
theorem gLwz_text (C : Ct) (L : AtLoop) (x2 : Int) (k : List D → Prop) : gLwz C L x2 k =
 (((Says C 12 [] [(D.val (Value.bool true))]) ∧
 (∃ n1 : Int,
 ((Says C 57 [D.nil] [(D.val (vI n1))]) ∧
 (bcase (n1 != 0)
 (k [(D.val (Value.bool true))])
 ((Says C 49 [D.nil] [(D.sl 0 2 [])]) ∧
 ((Says C 52 [D.nil] [(D.sl 0 3 [])]) ∧
 ((∃ n2 : Int,
 ((Says C 51 [(D.sl 0 2 []), (D.sl 0 3 [])] [D.nil, (D.val (vI n2))]) ∧
 (bcase (n2 != 0)
 (k [(D.val (Value.bool true))])
 ((Says C 49 [D.nil] [(D.sl 0 2 [])]) ∧
 (L 0 [(Prod.mk 0 (Go.Value.slice Option.none 0 0)), (Prod.mk 1 (Go.Value.slice Option.none 0 0)), (Prod.mk 2 (vI x2)), (Prod.mk 7 (Go.Value.slice Option.none 0 0)), (Prod.mk 9 (Go.Value.slice Option.none 0 0)), (Prod.mk 10 (Go.Value.slice (Option.some (Go.Addr.mk 1000 0 Option.none)) 0 0)), (Prod.mk 11 (vI (-(0 + 1) : Int)))] [(Prod.mk 1000 (AObj.sym [] true 2))]))))) ∨
 (∃ n2 : Nat,
 (∃ cs1 : List Go.Value,
 (∃ n3 : Int,
 ((Says C 51 [(D.sl 0 2 []), (D.sl 0 3 [])] [(D.sl (n2) 2 (cs1)), (D.val (vI n3))]) ∧
 (bcase (n3 != 0)
 (bcase ((↑n2 : Int) == 0)
 (k [(D.val (Value.bool true))])
 (k [(D.val (Value.bool false))]))
 ((Says C 49 [D.nil] [(D.sl 0 2 [])]) ∧
 (L 0 [(Prod.mk 0 (Go.Value.slice Option.none 0 0)), (Prod.mk 1 (Go.Value.slice Option.none 0 0)), (Prod.mk 2 (vI x2)), (Prod.mk 7 (Go.Value.slice (Option.some (Go.Addr.mk 1000 0 Option.none)) (n2) (n2))), (Prod.mk 9 (Go.Value.slice Option.none 0 0)), (Prod.mk 10 (Go.Value.slice (Option.some (Go.Addr.mk 1001 0 Option.none)) 0 0)), (Prod.mk 11 (vI (-(0 + 1) : Int)))] [(Prod.mk 1000 (AObj.sym (cs1) true 2)), (Prod.mk 1001 (AObj.sym [] true 2))])))))))))))))) ∨
 ((Says C 12 [] [(D.val (Value.bool false))]) ∧
 (k [(D.val (Value.bool false))]))) := by kernel_rfl
def gLwa (C : Ct) (L : AtLoop) (n0 : Nat) (c0 : Nat) (l0 : List Value) (x2 : Int) (k : List D → Prop) : Prop := wpFn Try.prog (hU C) L 0 9 #[.slice (some ⟨500, 0, none⟩) n0 c0, .slice none 0 0, .int .i64 x2] (heapOf [(500, .sym l0 false 2)]) (dataK k)
theorem gLwa_text (C : Ct) (L : AtLoop) (n0 : Nat) (c0 : Nat) (l0 : List Go.Value) (x2 : Int) (k : List D → Prop) : gLwa C L n0 c0 l0 x2 k =
 (((Says C 12 [] [(D.val (Value.bool true))]) ∧
 (bcase (decide ((↑n0 : Int) ≤ 12))
 (bcase (decide (0 + n0 * 2 ≤ List.length l0))
 (∃ n1 : Int,
 ((Says C 57 [(D.sl (n0) 2 (List.take (n0 * 2) (List.drop 0 l0)))] [(D.val (vI n1))]) ∧
 (bcase (n1 != 0)
 (k [(D.val (Value.bool true))])
 (bcase (decide (0 + n0 * 2 ≤ List.length l0))
 ((Says C 49 [(D.sl (n0) 2 (List.take (n0 * 2) (List.drop 0 l0)))] [(D.sl (n0) 2 (List.take (n0 * 2) (List.drop 0 l0)))]) ∧
 ((Says C 52 [D.nil] [(D.sl 0 3 [])]) ∧
 (bcase (decide (0 + n0 * 2 ≤ List.length (List.take (n0 * 2) (List.drop 0 l0))))
 ((∃ n2 : Int,
 ((Says C 51 [(D.sl (n0) 2 (List.take (n0 * 2) (List.drop 0 (List.take (n0 * 2) (List.drop 0 l0))))), (D.sl 0 3 [])] [D.nil, (D.val (vI n2))]) ∧
 (bcase (n2 != 0)
 (k [(D.val (Value.bool true))])
 (bcase (decide (0 + n0 * 2 ≤ List.length l0))
 ((Says C 49 [(D.sl (n0) 2 (List.take (n0 * 2) (List.drop 0 l0)))] [(D.sl (n0) 2 (List.take (n0 * 2) (List.drop 0 l0)))]) ∧
 (L 0 [(Prod.mk 0 (Go.Value.slice (Option.some (Go.Addr.mk 500 0 Option.none)) (n0) (c0))), (Prod.mk 1 (Go.Value.slice Option.none 0 0)), (Prod.mk 2 (vI x2)), (Prod.mk 7 (Go.Value.slice Option.none 0 0)), (Prod.mk 9 (Go.Value.slice Option.none 0 0)), (Prod.mk 10 (Go.Value.slice (Option.some (Go.Addr.mk 1000 0 Option.none)) (n0) (n0))), (Prod.mk 11 (vI (-(0 + 1) : Int)))] [(Prod.mk 500 (AObj.sym (l0) false 2)), (Prod.mk 1000 (AObj.sym (List.take (n0 * 2) (List.drop 0 l0)) true 2))]))
 False)))) ∨
 (∃ n2 : Nat,
 (∃ cs1 : List Go.Value,
 (∃ n3 : Int,
 ((Says C 51 [(D.sl (n0) 2 (List.take (n0 * 2) (List.drop 0 (List.take (n0 * 2) (List.drop 0 l0))))), (D.sl 0 3 [])] [(D.sl (n2) 2 (cs1)), (D.val (vI n3))]) ∧
 (bcase (n3 != 0)
 (bcase ((↑n2 : Int) == 0)
 (k [(D.val (Value.bool true))])
 (k [(D.val (Value.bool false))]))
 (bcase (decide (0 + n0 * 2 ≤ List.length l0))
 ((Says C 49 [(D.sl (n0) 2 (List.take (n0 * 2) (List.drop 0 l0)))] [(D.sl (n0) 2 (List.take (n0 * 2) (List.drop 0 l0)))]) ∧
 (L 0 [(Prod.mk 0 (Go.Value.slice (Option.some (Go.Addr.mk 500 0 Option.none)) (n0) (c0))), (Prod.mk 1 (Go.Value.slice Option.none 0 0)), (Prod.mk 2 (vI x2)), (Prod.mk 7 (Go.Value.slice (Option.some (Go.Addr.mk 1000 0 Option.none)) (n2) (n2))), (Prod.mk 9 (Go.Value.slice Option.none 0 0)), (Prod.mk 10 (Go.Value.slice (Option.some (Go.Addr.mk 1001 0 Option.none)) (n0) (n0))), (Prod.mk 11 (vI (-(0 + 1) : Int)))] [(Prod.mk 500 (AObj.sym (l0) false 2)), (Prod.mk 1000 (AObj.sym (cs1) true 2)), (Prod.mk 1001 (AObj.sym (List.take (n0 * 2) (List.drop 0 l0)) true 2))]))
 False)))))))
 False)))
 False))))
 False)
 (k [(D.val (Value.bool true))]))) ∨
 ((Says C 12 [] [(D.val (Value.bool false))]) ∧
 (k [(D.val (Value.bool false))]))) := by kernel_rfl
abbrev zLwa1 (n0 : Nat) (c1 : Nat) (x2 : Int) (n3 : Nat) (n4 : Nat) (x5 : Int) (l6 : List Value) (l7 : List Value) (l8 : List Value) : Slots × Blocks := ([(0, (Value.slice (some ⟨500, 0, none⟩) n0 c1)), (1, (Value.slice none 0 0)), (2, (Value.int .i64 x2)), (7, (Value.slice (some ⟨1000, 0, none⟩) n3 n3)), (9, (Value.slice none 0 0)), (10, (Value.slice (some ⟨1001, 0, none⟩) n4 n4)), (11, (Value.int .i64 x5))], [(500, (AObj.sym l6 false 2)), (1000, (AObj.sym l7 true 2)), (1001, (AObj.sym l8 true 2))])
def rLwa1 (C : Ct) (L : AtLoop) (n0 : Nat) (c1 : Nat) (x2 : Int) (n3 : Nat) (n4 : Nat) (x5 : Int) (l6 : List Value) (l7 : List Value) (l8 : List Value) (B : Bx) (X : Xx) (k : List D → Prop) : Prop := wpRound Try.prog (hU C) L 9 0 [(0, (Value.slice (some ⟨500, 0, none⟩) n0 c1)), (1, (Value.slice none 0 0)), (2, (Value.int .i64 x2)), (7, (Value.slice (some ⟨1000, 0, none⟩) n3 n3)), (9, (Value.slice none 0 0)), (10, (Value.slice (some ⟨1001, 0, none⟩) n4 n4)), (11, (Value.int .i64 x5))] [(500, (AObj.sym l6 false 2)), (1000, (AObj.sym l7 true 2)), (1001, (AObj.sym l8 true 2))] B X (dataK k)
theorem rLwa1_text (C : Ct) (L : AtLoop) (n0 : Nat) (c1 : Nat) (x2 : Int) (n3 : Nat) (n4 : Nat) (x5 : Int) (l6 : List Go.Value) (l7 : List Go.Value) (l8 : List Go.Value) (B : Bx) (X : Xx) (k : List D → Prop) : rLwa1 C L n0 c1 x2 n3 n4 x5 l6 l7 l8 B X k =
 (bcase (decide (x5 ≥ 0))
 False
 (X 0 [(Prod.mk 0 (Go.Value.slice (Option.some (Go.Addr.mk 500 0 Option.none)) (n0) (c1))), (Prod.mk 2 (vI x2)), (Prod.mk 7 (Go.Value.slice (Option.some (Go.Addr.mk 1000 0 Option.none)) (n3) (n3))), (Prod.mk 9 (Go.Value.slice Option.none 0 0)), (Prod.mk 10 (Go.Value.slice (Option.some (Go.Addr.mk 1001 0 Option.none)) (n4) (n4)))] [(Prod.mk 500 (AObj.sym (l6) false 2)), (Prod.mk 1000 (AObj.sym (l7) true 2)), (Prod.mk 1001 (AObj.sym (l8) true 2))])) := by kernel_rfl
end Go.Proofs.G5f

/- What is left to show of each function, written out; the kernel reckons it. -/
namespace Go.Proofs.G5f
open Go Go.Abs Go.Proofs
set_option maxRecDepth 100000
set_option linter.unusedVariables false
def gWon (C : Ct) (L : AtLoop) (n0 : Nat) (c0 : Nat) (l0 : List Value) (k : List D → Prop) : Prop := wpFn Try.prog (hU C) L 0 51 #[.slice (some ⟨500, 0, none⟩) n0 c0, .slice none 0 0] (heapOf [(500, .sym l0 false 2)]) (dataK k)
theorem gWon_text (C : Ct) (L : AtLoop) (n0 : Nat) (c0 : Nat) (l0 : List Go.Value) (k : List D → Prop) : gWon C L n0 c0 l0 k =
 (bcase (decide (0 + n0 * 2 ≤ List.length l0))
 (∃ n1 : Int,
 (∃ n2 : Int,
 ((Says C 48 [(D.sl (n0) 2 (List.take (n0 * 2) (List.drop 0 l0)))] [(D.val (vI n1)), (D.val (vI n2))]) ∧
 (∃ n3 : Int,
 (∃ n4 : Int,
 ((Says C 101 [D.nil, (D.val (Go.Value.func (Go.Fn.func 102) [].toArray [].toArray))] [(D.val (vI n3)), (D.val (vI n4))]) ∧
 (∃ n5 : Int,
 ((Says C 68 [(D.val (vI (0 : Int))), (D.val (vI (0 : Int))), (D.val (vI (20 : Int)))] [(D.val (vI n5))]) ∧
 (∃ n6 : Int,
 ((Says C 67 [(D.sl 3 1 [(vI n2), (vI n5), (vI n4)])] [(D.val (vI n6))]) ∧
 (bcase (n6 != 0)
 (k [D.nil, (D.val (vI n6))])
 (bcase (decide (0 + n0 * 2 ≤ List.length l0))
 ((Says C 103 [(D.sl (n0) 2 (List.take (n0 * 2) (List.drop 0 l0)))] [(D.sl (n0) 2 (List.take (n0 * 2) (List.drop 0 l0)))]) ∧
 (L 0 [(Prod.mk 10 (Go.Value.slice (Option.some (Go.Addr.mk 1000 0 Option.none)) (n0) (n0))), (Prod.mk 35 (Go.Value.slice Option.none 0 0)), (Prod.mk 36 (vI (0 : Int))), (Prod.mk 37 (vI (0 : Int)))] [(Prod.mk 1000 (AObj.sym (List.take (n0 * 2) (List.drop 0 l0)) true 2))]))
 False))))))))))))
 False) := by kernel_rfl
abbrev zWon1 (n0 : Nat) (x1 : Int) (x2 : Int) (l3 : List Value) : Slots × Blocks := ([(10, (Value.slice (some ⟨1000, 0, none⟩) n0 n0)), (35, (Value.slice none 0 0)), (36, (Value.int .i64 x1)), (37, (Value.int .i64 x2))], [(1000, (AObj.sym l3 true 2))])
def rWon1 (C : Ct) (L : AtLoop) (n0 : Nat) (x1 : Int) (x2 : Int) (l3 : List Value) (B : Bx) (X : Xx) (k : List D → Prop) : Prop := wpRound Try.prog (hU C) L 51 0 [(10, (Value.slice (some ⟨1000, 0, none⟩) n0 n0)), (35, (Value.slice none 0 0)), (36, (Value.int .i64 x1)), (37, (Value.int .i64 x2))] [(1000, (AObj.sym l3 true 2))] B X (dataK k)
theorem rWon1_text (C : Ct) (L : AtLoop) (n0 : Nat) (x1 : Int) (x2 : Int) (l3 : List Go.Value) (B : Bx) (X : Xx) (k : List D → Prop) : rWon1 C L n0 x1 x2 l3 B X k =
 (bcase (decide (x2 < x1))
 False
 (X 0 [(Prod.mk 10 (Go.Value.slice (Option.some (Go.Addr.mk 1000 0 Option.none)) (n0) (n0)))] [(Prod.mk 1000 (AObj.sym (l3) true 2))])) := by kernel_rfl
def nWon2 (C : Ct) (L : AtLoop) (n0 : Nat) (l1 : List Value) (k : List D → Prop) : Prop := wpNext Try.prog (hU C) L 51 0 .normal [(10, (Value.slice (some ⟨1000, 0, none⟩) n0 n0))] [(1000, (AObj.sym l1 true 2))] (dataK k)
theorem nWon2_text (C : Ct) (L : AtLoop) (n0 : Nat) (l1 : List Go.Value) (k : List D → Prop) : nWon2 C L n0 l1 k =
 ((((n0) = (n0)) ∧
 ((List.length l1) = (n0 * 2))) ∧
 (k [(D.sl (n0) 2 (l1)), (D.val (vI (0 : Int)))])) := by kernel_rfl
def gFsn (C : Ct) (L : AtLoop) (k : List D → Prop) : Prop := wpFn Try.prog (hU C) L 0 101 #[.slice none 0 0, .func (.func 102) #[] #[]] (heapOf []) (dataK k)
theorem gFsn_text (C : Ct) (L : AtLoop) (k : List D → Prop) : gFsn C L k =
 (L 0 [(Prod.mk 1 (Go.Value.func (Go.Fn.func 102) [].toArray [].toArray)), (Prod.mk 9 (Go.Value.slice Option.none 0 0)), (Prod.mk 10 (vI (0 : Int))), (Prod.mk 11 (vI (0 : Int)))] []) := by kernel_rfl
abbrev zFsn1 (x0 : Int) (x1 : Int) : Slots × Blocks := ([(1, (Value.func (.func 102) #[] #[])), (9, (Value.slice none 0 0)), (10, (Value.int .i64 x0)), (11, (Value.int .i64 x1))], [])
def rFsn1 (C : Ct) (L : AtLoop) (x0 : Int) (x1 : Int) (B : Bx) (X : Xx) (k : List D → Prop) : Prop := wpRound Try.prog (hU C) L 101 0 [(1, (Value.func (.func 102) #[] #[])), (9, (Value.slice none 0 0)), (10, (Value.int .i64 x0)), (11, (Value.int .i64 x1))] [] B X (dataK k)
theorem rFsn1_text (C : Ct) (L : AtLoop) (x0 : Int) (x1 : Int) (B : Bx) (X : Xx) (k : List D → Prop) : rFsn1 C L x0 x1 B X k =
 (bcase (decide (x1 < x0))
 False
 (X 0 [] [])) := by kernel_rfl
def nFsn2 (C : Ct) (L : AtLoop) (k : List D → Prop) : Prop := wpNext Try.prog (hU C) L 101 0 .normal [] [] (dataK k)
theorem nFsn2_text (C : Ct) (L : AtLoop) (k : List D → Prop) : nFsn2 C L k =
 (k [(D.val (vI (0 : Int))), (D.val (vI (0 : Int)))]) := by kernel_rfl
end Go.Proofs.G5f

/- Chapter 7: FlatWorn: the order of strips, and heights that never become greater. -/
namespace Go.Proofs.G5f
open Go Go.Abs Go.Proofs Go.Proofs.G7
set_option maxRecDepth 100000
/-! ### mathematics -/
theorem wrap_w (x w : Int) : IntKind.wrap .i64 (IntKind.wrap .i64 x - w) = IntKind.wrap .i64 (x - w) := by
  have e1 : (2 : Int) ^ 64 = 18446744073709551616 := by decide
  have e2 : (2 : Int) ^ (64 - 1) = 9223372036854775808 := by decide
  simp only [IntKind.wrap, IntKind.bits, IntKind.signed, Bool.true_and, e1, e2, ge_iff_le, decide_eq_true_eq]
  repeat' split
  all_goals omega
theorem wrP_comm (s t : Tr) (p : Int × Int) : wrP s.1 s.2.1 s.2.2 (wrP t.1 t.2.1 t.2.2 p) = wrP t.1 t.2.1 t.2.2 (wrP s.1 s.2.1 s.2.2 p) := by
  refine Prod.ext rfl ?_
  show wrV s.1 s.2.1 s.2.2 p.1 (wrV t.1 t.2.1 t.2.2 p.1 p.2) = wrV t.1 t.2.1 t.2.2 p.1 (wrV s.1 s.2.1 s.2.2 p.1 p.2)
  by_cases h1 : s.1 ≤ p.1 ∧ p.1 ≤ s.2.1
  · rw [wr_in h1.1 h1.2, wr_in h1.1 h1.2]
    by_cases h2 : t.1 ≤ p.1 ∧ p.1 ≤ t.2.1
    · rw [wr_in h2.1 h2.2, wr_in h2.1 h2.2, wrap_w, wrap_w]
      congr 1; omega
    · rw [wr_out h2, wr_out h2]
  · rw [wr_out h1, wr_out h1]
theorem wr1_comm (s t : Tr) (c : List (Int × Int)) : wr1 s (wr1 t c) = wr1 t (wr1 s c) := by
  simp only [List.map_map]
  exact List.map_congr_left fun p _ => wrP_comm s t p
theorem wrnL_wr1 (s : Tr) : ∀ (l : List Tr) (c : List (Int × Int)), wrnL l (wr1 s c) = wr1 s (wrnL l c)
  | [], _ => rfl
  | t :: r, c => by rw [wrnL, wrnL, wr1_comm, wrnL_wr1 s r]
theorem wrnL_rev : ∀ (l : List Tr) (c : List (Int × Int)), wrnL l.reverse c = wrnL l c
  | [], _ => rfl
  | s :: r, c => by
    rw [List.reverse_cons, wrnL_app, wrnL_rev r]
    show wr1 s (wrnL r c) = wrnL r (wr1 s c)
    rw [wrnL_wr1]
/-- positions stay, heights do not become greater -/
structure Lo (B : Int) (m c : List (Int × Int)) : Prop where
  n : m.length = c.length
  a : ∀ i, i < c.length → (pt m i).1 = (pt c i).1 ∧ (pt m i).2 ≤ (pt c i).2 ∧ B ≤ (pt m i).2
theorem stE_w {s : Tr} (h : stE s = 0) : 0 ≤ s.2.2 ∧ s.2.2 ≤ 1000 := by
  by_cases h1 : (0 ≤ s.1 ∧ s.1 ≤ 10000) ∧ (0 ≤ s.2.1 ∧ s.2.1 ≤ 10000)
  · by_cases h2 : s.1 > s.2.1
    · rw [stE_2 h1 h2] at h; omega
    · rw [stE_3 h1 h2] at h
      exact (rngE0 (by decide)).1 h
  · rw [stE_1 h1] at h; omega
theorem lo_wrn {c : List (Int × Int)} (hc : CcV c) : ∀ (l : List Tr) (B : Int) (m : List (Int × Int)), (∀ s ∈ l, stE s = 0) → -1000000000 ≤ B - 1000 * l.length → Lo B m c → Lo (B - 1000 * l.length) (wrnL l m) c
  | [], B, m, _, _, h => by simpa [wrnL] using h
  | s :: r, B, m, hs, hB, h => by
    have hw := stE_w (hs s (List.mem_cons_self ..))
    rw [wrnL]
    rw [List.length_cons] at hB ⊢
    push_cast at hB ⊢
    have key : Lo (B - 1000) (wr1 s m) c := ⟨by rw [List.length_map, h.n], fun i hi => by
      have hp := pt_bd hc hi
      obtain ⟨h1, h2, h3⟩ := h.a i hi
      rw [pt_map _ (by rw [h.n]; exact hi)]
      refine ⟨h1, ?_⟩
      show wrV _ _ _ _ _ ≤ _ ∧ _ ≤ wrV _ _ _ _ _
      by_cases hh : s.1 ≤ (pt m i).1 ∧ (pt m i).1 ≤ s.2.1
      · rw [wr_in hh.1 hh.2, w64 (by omega) (by omega)]; omega
      · rw [wr_out hh]; omega⟩
    have := lo_wrn hc r (B - 1000) (wr1 s m) (fun s' h' => hs s' (List.mem_cons_of_mem _ h')) (by omega) key
    have e : B - 1000 - 1000 * (r.length : Int) = B - 1000 * ((r.length : Int) + 1) := by omega
    rwa [e] at this
theorem lo_all {c : List (Int × Int)} {l : List Tr} (h : WV c l) : Lo (-100000 - 1000 * l.length) (wrnL l c) c :=
  lo_wrn h.c l (-100000) c h.s (by have := h.n; omega) ⟨rfl, fun i hi => ⟨rfl, Int.le_refl _, (pt_bd h.c hi).2.1⟩⟩
/-! ### heights -/
theorem ht_bd {at' : Int} {p q : Int × Int} (h : Hb at' p q) : -1000000000 ≤ p.2 * (q.1 - at') + q.2 * (at' - p.1) ∧ p.2 * (q.1 - at') + q.2 * (at' - p.1) ≤ 1000000000 := by
  have h1 := h.h; have h2 := h.k; have hb := h.b; have hc := h.c; have ha := h.a
  have k1 : p.2 * (q.1 - at') ≤ 100000 * (q.1 - at') := Int.mul_le_mul_of_nonneg_right h1.2 hb.1
  have k2 : q.2 * (at' - p.1) ≤ 100000 * (at' - p.1) := Int.mul_le_mul_of_nonneg_right h2.2 hc.1
  have k3 : -100000 * (q.1 - at') ≤ p.2 * (q.1 - at') := Int.mul_le_mul_of_nonneg_right h1.1 hb.1
  have k4 : -100000 * (at' - p.1) ≤ q.2 * (at' - p.1) := Int.mul_le_mul_of_nonneg_right h2.1 hc.1
  omega
theorem low_num {n d B : Int} (hd : 0 < d) (h : -B ≤ n ∧ n ≤ B) : -B ≤ (low n d).1 ∧ (low n d).1 ≤ B := by
  obtain ⟨g, hg, h1, _, _⟩ := low_parts (n := n) hd
  generalize (low n d).1 = a at h1 ⊢
  have k1 : 0 ≤ a → 1 * a ≤ g * a := fun h => Int.mul_le_mul_of_nonneg_right (by omega) h
  have k2 : a ≤ 0 → g * a ≤ 1 * a := fun h => Int.mul_le_mul_of_nonpos_right (by omega) h
  rcases Int.le_total 0 a with h5 | h5
  · have := k1 h5; omega
  · have := k2 h5; omega
theorem ht_sm {at' : Int} {p q : Int × Int} (h : Hb at' p q) : 0 < (htF at' p q).2 ∧ sm (htF at' p q) := by
  have hb := ht_bd h
  have hd := low_den (n := p.2 * (q.1 - at') + q.2 * (at' - p.1)) h.a.1
  have hn := low_num (B := 1000000000) h.a.1 hb
  have ha := h.a
  exact ⟨hd.1, hn, by show _ ≤ (low _ _).2 ∧ (low _ _).2 ≤ _; omega⟩
theorem ht_le {at' : Int} {p q p' q' : Int × Int} (h : Hb at' p q) (e1 : p'.1 = p.1) (e2 : q'.1 = q.1) (h1 : p'.2 ≤ p.2) (h2 : q'.2 ≤ q.2) : (htF at' p' q').1 * (htF at' p q).2 ≤ (htF at' p q).1 * (htF at' p' q').2 := by
  unfold htF
  rw [e1, e2]
  have k1 : p'.2 * (q.1 - at') ≤ p.2 * (q.1 - at') := Int.mul_le_mul_of_nonneg_right h1 h.b.1
  have k2 : q'.2 * (at' - p.1) ≤ q.2 * (at' - p.1) := Int.mul_le_mul_of_nonneg_right h2 h.c.1
  rcases Int.lt_or_eq_of_le (show p'.2 * (q.1 - at') + q'.2 * (at' - p.1) ≤ p.2 * (q.1 - at') + q.2 * (at' - p.1) by omega) with hlt | heq
  · exact Int.le_of_lt ((low_lt h.a.1 h.a.1).2 (Int.mul_lt_mul_of_pos_right hlt h.a.1))
  · rw [heq]; exact Int.le_refl _
inductive HP (at' : Int) (c m : Option (Int × Int)) : Prop where
  | no : c = none → m = none → HP at' c m
  | yes (p q p' q' : Int × Int) : c = some (htF at' p q) → m = some (htF at' p' q') → Hb at' p q → Hb at' p' q' → p'.1 = p.1 → q'.1 = q.1 → p'.2 ≤ p.2 → q'.2 ≤ q.2 → HP at' c m
theorem hg_lo {c m : List (Int × Int)} {B : Int} (hc : CcV c) (hm : CcV m) (h : Lo B m c) (at' : Int) : ∀ k i, c.length - i = k → HP at' (hgL at' (c.drop i)) (hgL at' (m.drop i)) := by
  intro k
  induction k with
  | zero =>
    intro i hi
    exact .no (hgL_end (by omega) at') (hgL_end (by have := h.n; omega) at')
  | succ k ih =>
    intro i hi
    have hl := h.n
    by_cases h1 : i + 1 < c.length
    · rw [hgL_at h1, hgL_at (l := m) (by omega)]
      obtain ⟨a1, a2, _⟩ := h.a i (by omega)
      obtain ⟨b1, b2, _⟩ := h.a (i + 1) h1
      rw [a1, b1]
      by_cases h2 : (pt c i).1 ≤ at' ∧ at' ≤ (pt c (i + 1)).1
      · rw [if_pos h2, if_pos h2]
        exact .yes _ _ _ _ rfl rfl (hb_of hc h1 h2) (hb_of hm (by omega) (by rw [a1, b1]; exact h2)) a1 b1 a2 b2
      · rw [if_neg h2, if_neg h2]
        exact ih (i + 1) (by omega)
    · exact .no (hgL_end h1 at') (hgL_end (by omega) at')
end Go.Proofs.G5f
