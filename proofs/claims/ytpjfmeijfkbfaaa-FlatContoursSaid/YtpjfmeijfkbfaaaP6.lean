/- Texts of the proof, put together: Gf7T3, Gf7L, Gf7P, Gf7T5, Gf7Q, Gf7R, Gf7KR, AbsEachD. -/
import Derived.Test.YtpjfmeijfkbfaaaP4
import Derived.Test.YtpjfmeijfkbfaaaGf7A
import Derived.Test.YtpjfmeijfkbfaaaP3
/- What is left to show of each function, written out; the kernel reckons it. -/
namespace Go.Proofs.G5f
open Go Go.Abs Go.Proofs
set_option maxRecDepth 100000
set_option linter.unusedVariables false
def gSh (C : Ct) (L : AtLoop) (n0 : Nat) (c0 : Nat) (l0 : List Value) (k : List D → Prop) : Prop := wpFn Try.prog (hF7 C) L 0 13 #[.slice (some ⟨500, 0, none⟩) n0 c0] (heapOf [(500, .sym l0 false 1)]) (dataK k)
theorem gSh_text (C : Ct) (L : AtLoop) (n0 : Nat) (c0 : Nat) (l0 : List Go.Value) (k : List D → Prop) : gSh C L n0 c0 l0 k =
 (bcase (decide ((↑n0 : Int) ≤ 12))
 (k [(D.val (Value.bool true))])
 (k [(D.val (Value.bool false))])) := by kernel_rfl
def gShn (C : Ct) (L : AtLoop) (k : List D → Prop) : Prop := wpFn Try.prog (hF7 C) L 0 13 #[.slice none 0 0] (heapOf []) (dataK k)
theorem gShn_text (C : Ct) (L : AtLoop) (k : List D → Prop) : gShn C L k =
 (k [(D.val (Value.bool true))]) := by kernel_rfl
def gCP (C : Ct) (L : AtLoop) (n0 : Nat) (c0 : Nat) (l0 : List Value) (k : List D → Prop) : Prop := wpFn Try.prog (hF7 C) L 0 18 #[.slice (some ⟨500, 0, none⟩) n0 c0] (heapOf [(500, .sym l0 false 1)]) (dataK k)
theorem gCP_text (C : Ct) (L : AtLoop) (n0 : Nat) (c0 : Nat) (l0 : List Go.Value) (k : List D → Prop) : gCP C L n0 c0 l0 k =
 (bcase (Int.tmod (↑n0 : Int) 2 == 0)
 (k [(D.val (vI (10 : Int)))])
 (∃ n1 : Int,
 ((Says C 68 [(D.val (vI ((↑n0 : Int)))), (D.val (vI (3 : Int))), (D.val (vI (9 : Int)))] [(D.val (vI n1))]) ∧
 (∃ l1 : List Int,
 (((l0) = (List.map (vI) l1)) ∧
 (((n0) = (List.length l1)) ∧
 (((List.length l1) < 1000000000) ∧
 (∃ r1 : Int,
 ((Says witC 0 [(D.val (vI (1 : Int))), (D.val (vI (100000 : Int))), (D.val (vI (2 : Int))), (D.sl (n0) 1 (l0))] [(D.val (vI r1))]) ∧
 (∃ n2 : Int,
 ((Says C 67 [(D.sl 2 1 [(vI n1), (vI r1)])] [(D.val (vI n2))]) ∧
 (k [(D.val (vI n2))])))))))))))) := by kernel_rfl
def gRP (C : Ct) (L : AtLoop) (n0 : Nat) (c0 : Nat) (l0 : List Value) (k : List D → Prop) : Prop := wpFn Try.prog (hF7 C) L 0 17 #[.slice (some ⟨500, 0, none⟩) n0 c0] (heapOf [(500, .sym l0 false 1)]) (dataK k)
theorem gRP_text (C : Ct) (L : AtLoop) (n0 : Nat) (c0 : Nat) (l0 : List Go.Value) (k : List D → Prop) : gRP C L n0 c0 l0 k =
 (bcase (decide ((↑n0 : Int) < 3))
 (k [(D.val (vI (10 : Int)))])
 (bcase (Int.tmod (↑n0 : Int) 2 == 0)
 (k [(D.val (vI (10 : Int)))])
 (bcase (decide ((↑n0 : Int) > 9))
 (k [(D.val (vI (8 : Int)))])
 (L 0 [(Prod.mk 0 (Go.Value.slice (Option.some (Go.Addr.mk 500 0 Option.none)) (n0) (c0))), (Prod.mk 3 (vI (0 : Int)))] [(Prod.mk 500 (AObj.sym (l0) false 1))])))) := by kernel_rfl
abbrev zRP1 (n0 : Nat) (c1 : Nat) (x2 : Int) (l3 : List Value) : Slots × Blocks := ([(0, (Value.slice (some ⟨500, 0, none⟩) n0 c1)), (3, (Value.int .i64 x2))], [(500, (AObj.sym l3 false 1))])
def rRP1 (C : Ct) (L : AtLoop) (n0 : Nat) (c1 : Nat) (x2 : Int) (l3 : List Value) (B : Bx) (X : Xx) (k : List D → Prop) : Prop := wpRound Try.prog (hF7 C) L 17 0 [(0, (Value.slice (some ⟨500, 0, none⟩) n0 c1)), (3, (Value.int .i64 x2))] [(500, (AObj.sym l3 false 1))] B X (dataK k)
theorem rRP1_text (C : Ct) (L : AtLoop) (n0 : Nat) (c1 : Nat) (x2 : Int) (l3 : List Go.Value) (B : Bx) (X : Xx) (k : List D → Prop) : rRP1 C L n0 c1 x2 l3 B X k =
 (bcase (decide (x2 < (↑n0 : Int)))
 (bcase (decide (0 ≤ x2))
 (bcase (decide (x2 < (↑n0 : Int)))
 (∃ n1 : Int,
 ((At (l3) (0 + Int.toNat x2 * 1) 1 [(vI n1)]) ∧
 (((Says C 23 [(D.val (vI n1)), (D.val (vI (1 : Int))), (D.val (vI (100000 : Int)))] [(D.val (Value.bool true))]) ∧
 (B [(Prod.mk 0 (Go.Value.slice (Option.some (Go.Addr.mk 500 0 Option.none)) (n0) (c1))), (Prod.mk 3 (vI (IntKind.wrap .i64 (x2 + 1))))] [(Prod.mk 500 (AObj.sym (l3) false 1))])) ∨
 ((Says C 23 [(D.val (vI n1)), (D.val (vI (1 : Int))), (D.val (vI (100000 : Int)))] [(D.val (Value.bool false))]) ∧
 (k [(D.val (vI (2 : Int)))])))))
 False)
 False)
 (X 0 [] [])) := by kernel_rfl
def nRP2 (C : Ct) (L : AtLoop) (k : List D → Prop) : Prop := wpNext Try.prog (hF7 C) L 17 0 .normal [] [] (dataK k)
theorem nRP2_text (C : Ct) (L : AtLoop) (k : List D → Prop) : nRP2 C L k =
 (k [(D.val (vI (0 : Int)))]) := by kernel_rfl
def gRPn (C : Ct) (L : AtLoop) (k : List D → Prop) : Prop := wpFn Try.prog (hF7 C) L 0 17 #[.slice none 0 0] (heapOf []) (dataK k)
theorem gRPn_text (C : Ct) (L : AtLoop) (k : List D → Prop) : gRPn C L k =
 (k [(D.val (vI (10 : Int)))]) := by kernel_rfl
end Go.Proofs.G5f

/- Chapter 7: FlatHeats, in data. -/
namespace Go.Proofs.G5f
open Go Go.Abs Go.Proofs Go.Proofs.G7
set_option maxRecDepth 100000
theorem v1le (l : List Int) : 0 + l.length * 1 ≤ (vi l).length := by simp
theorem conSh (l : List Int) : C5 13 [.sl l.length 1 (vi l)] [.val (.bool (decide (l.length ≤ 12)))] := by
  refine con_flat hok mixed Try.func13 rfl (by show 1 ≤ 400; omega) rfl (by kernel_rfl) (fun caps => ?_)
  show gSh _ _ l.length (caps 500) (vi l) _
  rw [gSh_text]
  refine bc_dec (fun h => ?_) (fun h => ?_)
  · show _ = _; rw [decide_eq_true (show l.length ≤ 12 by omega)]
  · show _ = _; rw [decide_eq_false (show ¬ l.length ≤ 12 by omega)]
theorem conShn : C5 13 [.nil] [.val (.bool true)] := by
  refine con_flat hok mixed Try.func13 rfl (by show 0 ≤ 400; omega) rfl (by kernel_rfl) (fun caps => ?_)
  show gShn _ _ _
  rw [gShn_text]
theorem saySt {l : List Int} (h : l.length ≤ 12) : Says C5 13 [.sl l.length 1 (vi l)] [.val (.bool true)] := by
  have := conSh l
  rw [decide_eq_true h] at this
  exact ⟨this⟩
theorem saySf {l : List Int} (h : ¬ l.length ≤ 12) : Says C5 13 [.sl l.length 1 (vi l)] [.val (.bool false)] := by
  have := conSh l
  rw [decide_eq_false h] at this
  exact ⟨this⟩
theorem sayIt {l m : List Int} (h : l = m) (hl : l.length < 1000000000) : Says C5 36 [.sl l.length 1 (vi l), .sl m.length 1 (vi m)] [.val (.bool true)] := by
  have := conIn l m hl
  rw [decide_eq_true h] at this
  exact ⟨this⟩
end Go.Proofs.G5f

/- Chapter 7: profiles, in data. -/
namespace Go.Proofs.G5f
open Go Go.Abs Go.Proofs Go.Proofs.G7
set_option maxRecDepth 100000
abbrev Thk (l : List Int) : Prop := ∀ z ∈ l, 1 ≤ z ∧ z ≤ 100000
def prE (l : List Int) : Int := if l.length < 3 ∨ l.length % 2 = 0 then 10 else if l.length > 9 then 8 else if ∀ z ∈ l, 1 ≤ z ∧ z ≤ 100000 then 0 else 2
theorem prE_10 {l : List Int} (h : l.length < 3 ∨ l.length % 2 = 0) : prE l = 10 := if_pos h
theorem prE_8 {l : List Int} (h : ¬ (l.length < 3 ∨ l.length % 2 = 0)) (h2 : l.length > 9) : prE l = 8 := by rw [prE, if_neg h, if_pos h2]
theorem prE_r {l : List Int} (h : ¬ (l.length < 3 ∨ l.length % 2 = 0)) (h2 : ¬ l.length > 9) : prE l = if ∀ z ∈ l, 1 ≤ z ∧ z ≤ 100000 then 0 else 2 := by rw [prE, if_neg h, if_neg h2]
structure PV (l : List Int) : Prop where
  n : 3 ≤ l.length ∧ l.length ≤ 9 ∧ l.length % 2 = 1
  t : Thk l
theorem prE_ok {l : List Int} : prE l = 0 ↔ PV l := by
  constructor
  · intro h
    by_cases h1 : l.length < 3 ∨ l.length % 2 = 0
    · rw [prE_10 h1] at h; omega
    · by_cases h2 : l.length > 9
      · rw [prE_8 h1 h2] at h; omega
      · rw [prE_r h1 h2] at h
        exact ⟨by omega, (ite0 (by decide)).1 h⟩
  · intro h
    have := h.n
    rw [prE_r (by omega) (by omega), if_pos h.t]
theorem tmod2 (n : Nat) : Int.tmod (n : Int) 2 = ((n % 2 : Nat) : Int) := by rw [Int.tmod_eq_emod_of_nonneg (by omega)]; rfl
theorem conCP (l : List Int) (hl : l.length ≤ 1000000) : C5 18 [.sl l.length 1 (vi l)] [dI (prE l)] := by
  refine con_flat hok mixed Try.func18 rfl (by show 1 ≤ 400; omega) rfl (by kernel_rfl) (fun caps => ?_)
  show gCP _ _ l.length (caps 500) (vi l) _
  rw [gCP_text, tmod2]
  refine bc_beq (fun h => ?_) (fun h => ?_)
  · show _ = _; rw [prE_10 (.inr (by omega))]
  · try simp only [eq_self, true_and]
    refine ⟨_, ⟨conCC _ _ _⟩, l, rfl, rfl, by omega, _, ⟨rfl⟩, _, ⟨conFE [cntE l.length 3 9, witE 1 100000 2 (vi l)] (by simp)⟩, ?_⟩
    rw [fst0_two, witE_all]
    have : (if cntE l.length 3 9 = 0 then (if ∀ z ∈ l, 1 ≤ z ∧ z ≤ 100000 then (0 : Int) else 2) else cntE l.length 3 9) = prE l := by
      by_cases h1 : l.length < 3
      · have e : cntE l.length 3 9 = 10 := by rw [cntE, if_pos (by omega)]
        rw [e, prE_10 (.inl h1), if_neg (by decide)]
      · by_cases h2 : l.length > 9
        · have e : cntE l.length 3 9 = 8 := by rw [cntE, if_neg (by omega), if_pos (by omega)]
          rw [e, prE_8 (by omega) h2, if_neg (by decide)]
        · have e : cntE l.length 3 9 = 0 := by rw [cntE, if_neg (by omega), if_neg (by omega)]
          rw [e, prE_r (by omega) h2, if_pos rfl]
    first | (show _ = _; rw [this]) | (rw [this]; try trivial)
theorem conRPn : C5 17 [.nil] [dI 10] := by
  refine con_of (L := fun _ _ _ => False) hok mixed Try.func17 rfl (by show 0 ≤ 400; omega) rfl (ids := [0]) (by kernel_rfl) rfl (fun caps => ?_) (fun id hid => ?_)
  · show gRPn _ _ _
    rw [gRPn_text]
  · obtain rfl := List.mem_singleton.1 hid
    exact ⟨Nat, fun _ => ([], []), fun _ => False, fun _ => 0, ⟨fun s b h => h.elim, by kernel_rfl, fun j hj => hj.elim⟩⟩
theorem conRP (l : List Int) (hl : l.length ≤ 1000000) : C5 17 [.sl l.length 1 (vi l)] [dI (prE l)] := by
  let inv : Nat × Nat → Prop := fun x => x.1 ≤ l.length ∧ ¬ (l.length < 3 ∨ l.length % 2 = 0) ∧ ¬ l.length > 9 ∧ (Thk l ↔ ∀ z ∈ l.drop x.1, 1 ≤ z ∧ z ≤ 100000)
  let st : Nat × Nat → Slots × Blocks := fun x => zRP1 l.length x.2 x.1 (vi l)
  refine con_of (L := fun _ s b => ∃ x, inv x ∧ st x = (s, b)) hok mixed Try.func17 rfl (by show 1 ≤ 400; omega) rfl (ids := [0]) (by kernel_rfl) rfl (fun caps => ?_) (fun id hid => ?_)
  · show gRP _ _ l.length (caps 500) (vi l) _
    rw [gRP_text, tmod2]
    refine bc_dec (fun h => ?_) (fun h => bc_beq (fun h2 => ?_) (fun h2 => bc_dec (fun h3 => ?_) (fun h3 => ?_)))
    · show _ = _; rw [prE_10 (.inl (by omega))]
    · show _ = _; rw [prE_10 (.inr (by omega))]
    · show _ = _; rw [prE_8 (by omega) (by omega)]
    · exact ⟨(0, caps 500), ⟨Nat.zero_le _, by omega, by omega, Iff.rfl⟩, rfl⟩
  · obtain rfl := List.mem_singleton.1 hid
    refine ⟨Nat × Nat, st, inv, fun x => l.length - x.1, ⟨fun s b h => h, by kernel_rfl, ?_⟩⟩
    rintro ⟨i, cap⟩ ⟨hi, h1, h2, hr⟩
    simp only at hi hr
    show rRP1 _ _ l.length cap i (vi l) _ _ _
    rw [rRP1_text]
    refine bc_dec (fun h => ?_) (fun h => ?_)
    · have hi' : i < l.length := by omega
      simp only [bc_t h, bc_t (show (0 : Int) ≤ (i : Int) by omega), Int.toNat_natCast, at1 (vi_at l i hi')]
      rw [List.drop_eq_getElem_cons hi', List.forall_mem_cons (p := fun z => 1 ≤ z ∧ z ≤ 100000)] at hr
      by_cases hx : 1 ≤ l[i] ∧ l[i] ≤ 100000
      · refine .inl ⟨sayWt hx, (i + 1, cap), ⟨hi', h1, h2, hr.trans ⟨fun h => h.2, fun h => ⟨hx, h⟩⟩⟩, by show l.length - (i + 1) < l.length - i; omega, ?_⟩
        rw [w64 (by omega) (by omega)]; rfl
      · refine .inr ⟨sayWf hx, ?_⟩
        show [dI 2] = [dI _]
        rw [prE_r h1 h2, if_neg (fun hh => hx (hr.1 hh).1)]
    · show (if 0 = 0 then _ else _)
      rw [if_pos rfl]
      show nRP2 _ _ _
      rw [nRP2_text]
      show [dI 0] = [dI _]
      rw [prE_r h1 h2, if_pos (hr.2 (by rw [List.drop_eq_nil_of_le (by omega)]; intro z hz; cases hz))]
/-- twice the crown, and the wedge -/
def cw2 (l : List Int) : Int := 2 * gt l (l.length / 2) - gt l 0 - gt l (l.length - 1)
def wdg (l : List Int) : Int := gt l 0 - gt l (l.length - 1)
structure Ld (l : List Int) : Prop where
  w1 : IntKind.wrap .i64 ((l.length / 2 : Nat) : Int) = ((l.length / 2 : Nat) : Int)
  w2 : IntKind.wrap .i64 ((l.length : Int) - 1) = ((l.length - 1 : Nat) : Int)
  w3 : IntKind.wrap .i64 (IntKind.wrap .i64 (IntKind.wrap .i64 (2 * gt l (l.length / 2)) - gt l 0) - gt l (l.length - 1)) = cw2 l
  w4 : IntKind.wrap .i64 (gt l 0 - gt l (l.length - 1)) = wdg l
  b : -200000 ≤ cw2 l ∧ cw2 l ≤ 200000
  a0 : At (vi l) 0 1 [vI (gt l 0)]
  a1 : At (vi l) (0 + (l.length / 2) * 1) 1 [vI (gt l (l.length / 2))]
  a2 : At (vi l) (0 + (l.length - 1) * 1) 1 [vI (gt l (l.length - 1))]
abbrev dF (p : Int × Int) : D := .agg [dI p.1, dI p.2]
end Go.Proofs.G5f

/- What is left to show of each function, written out; the kernel reckons it. -/
namespace Go.Proofs.G5f
open Go Go.Abs Go.Proofs
set_option maxRecDepth 100000
set_option linter.unusedVariables false
def gSE (C : Ct) (L : AtLoop) (x0 : Int) (x1 : Int) (k : List D → Prop) : Prop := wpFn Try.prog (hF7 C) L 0 73 #[.int .i64 x0, .int .i64 x1] (heapOf []) (dataK k)
theorem gSE_text (C : Ct) (L : AtLoop) (x0 : Int) (x1 : Int) (k : List D → Prop) : gSE C L x0 x1 k =
 (∃ n1 : Int,
 (∃ n2 : Int,
 ((Says C 66 [(D.val (vI x0)), (D.val (vI x1))] [(D.agg [(D.val (vI n1)), (D.val (vI n2))])]) ∧
 (((((Go.Value.slice (Option.some (Go.Addr.mk 1002 0 Option.none)) 2 2) = (Go.Value.slice (Option.some (Go.Addr.mk 1002 0 Option.none)) 2 2)) ∧
 ((Option.some (AObj.cells [(vI n1), (vI n2)] 3 false 1)) = (Option.some (AObj.cells [(vI n1), (vI n2)] 3 false 1)))) ∧
 (((vI n2) = (vI n2)) ∧
 (((Go.Value.pointer (Option.some (Go.Addr.mk 1001 1 Option.none))) = (Go.Value.pointer (Option.some (Go.Addr.mk 1001 1 Option.none)))) ∧
 (((vI n1) = (vI n1)) ∧
 (((Go.Value.pointer (Option.some (Go.Addr.mk 1001 0 Option.none))) = (Go.Value.pointer (Option.some (Go.Addr.mk 1001 0 Option.none)))) ∧
 True))))) ∧
 (((((Go.Value.slice (Option.some (Go.Addr.mk 1002 0 Option.none)) 2 2) = (Go.Value.slice (Option.some (Go.Addr.mk 1002 0 Option.none)) 2 2)) ∧
 ((Option.some (AObj.cells [(vI n1), (vI n2)] 3 false 1)) = (Option.some (AObj.cells [(vI n1), (vI n2)] 3 false 1)))) ∧
 (((vI n2) = (vI n2)) ∧
 (((Go.Value.pointer (Option.some (Go.Addr.mk 1001 1 Option.none))) = (Go.Value.pointer (Option.some (Go.Addr.mk 1001 1 Option.none)))) ∧
 (((vI n1) = (vI n1)) ∧
 (((Go.Value.pointer (Option.some (Go.Addr.mk 1001 0 Option.none))) = (Go.Value.pointer (Option.some (Go.Addr.mk 1001 0 Option.none)))) ∧
 True))))) ∧
 (∃ r1 : Int,
 ((Says witC 0 [(D.val (vI (-(999999999 + 1) : Int))), (D.val (vI (1000000000 : Int))), (D.val (vI (2 : Int))), (D.sl 2 1 [(vI n1), (vI n2)])] [(D.val (vI r1))]) ∧
 (bcase (r1 != 0)
 (((bcase (r1 != 0)
 ((Value.bool true) = (Value.bool true))
 ((Value.bool false) = (Value.bool true))) ∧
 (((vI n2) = (vI n2)) ∧
 (((Go.Value.pointer (Option.some (Go.Addr.mk 1001 1 Option.none))) = (Go.Value.pointer (Option.some (Go.Addr.mk 1001 1 Option.none)))) ∧
 (((vI n1) = (vI n1)) ∧
 (((Go.Value.pointer (Option.some (Go.Addr.mk 1001 0 Option.none))) = (Go.Value.pointer (Option.some (Go.Addr.mk 1001 0 Option.none)))) ∧
 True))))) ∧
 (k [(D.agg [(D.val (vI (0 : Int))), (D.val (vI (0 : Int)))]), (D.val (vI (8 : Int)))]))
 (((bcase (r1 != 0)
 ((Value.bool true) = (Value.bool false))
 ((Value.bool false) = (Value.bool false))) ∧
 (((vI n2) = (vI n2)) ∧
 (((Go.Value.pointer (Option.some (Go.Addr.mk 1001 1 Option.none))) = (Go.Value.pointer (Option.some (Go.Addr.mk 1001 1 Option.none)))) ∧
 (((vI n1) = (vI n1)) ∧
 (((Go.Value.pointer (Option.some (Go.Addr.mk 1001 0 Option.none))) = (Go.Value.pointer (Option.some (Go.Addr.mk 1001 0 Option.none)))) ∧
 True))))) ∧
 (k [(D.agg [(D.val (vI n1)), (D.val (vI n2))]), (D.val (vI (0 : Int)))])))))))))) := by kernel_rfl
def gIS (C : Ct) (L : AtLoop) (x0 : Int) (x1 : Int) (k : List D → Prop) : Prop := wpFn Try.prog (hF7 C) L 0 27 #[.agg #[.int .i64 x0, .int .i64 x1]] (heapOf []) (dataK k)
theorem gIS_text (C : Ct) (L : AtLoop) (x0 : Int) (x1 : Int) (k : List D → Prop) : gIS C L x0 x1 k =
 (((Says C 23 [(D.val (vI x0)), (D.val (vI (-(999999999 + 1) : Int))), (D.val (vI (1000000000 : Int)))] [(D.val (Value.bool true))]) ∧
 (((Says C 23 [(D.val (vI x1)), (D.val (vI (1 : Int))), (D.val (vI (1000000000 : Int)))] [(D.val (Value.bool true))]) ∧
 (k [(D.val (Value.bool true))])) ∨
 ((Says C 23 [(D.val (vI x1)), (D.val (vI (1 : Int))), (D.val (vI (1000000000 : Int)))] [(D.val (Value.bool false))]) ∧
 (k [(D.val (Value.bool false))])))) ∨
 ((Says C 23 [(D.val (vI x0)), (D.val (vI (-(999999999 + 1) : Int))), (D.val (vI (1000000000 : Int)))] [(D.val (Value.bool false))]) ∧
 (k [(D.val (Value.bool false))]))) := by kernel_rfl
def gCh (C : Ct) (L : AtLoop) (n0 : Nat) (c0 : Nat) (l0 : List Value) (n1 : Nat) (c1 : Nat) (l1 : List Value) (k : List D → Prop) : Prop := wpFn Try.prog (hF7 C) L 0 20 #[.slice (some ⟨500, 0, none⟩) n0 c0, .slice (some ⟨501, 0, none⟩) n1 c1] (heapOf [(500, .sym l0 false 1), (501, .sym l1 false 1)]) (dataK k)
theorem gCh_text (C : Ct) (L : AtLoop) (n0 : Nat) (c0 : Nat) (l0 : List Go.Value) (n1 : Nat) (c1 : Nat) (l1 : List Go.Value) (k : List D → Prop) : gCh C L n0 c0 l0 n1 c1 l1 k =
 (bcase (decide (0 + n0 * 1 ≤ List.length l0))
 (∃ n2 : Int,
 ((Says C 18 [(D.sl (n0) 1 (List.take (n0 * 1) (List.drop 0 l0)))] [(D.val (vI n2))]) ∧
 (bcase (decide (0 + n1 * 1 ≤ List.length l1))
 (∃ n3 : Int,
 ((Says C 18 [(D.sl (n1) 1 (List.take (n1 * 1) (List.drop 0 l1)))] [(D.val (vI n3))]) ∧
 (∃ n4 : Int,
 ((Says C 71 [(D.val (vI ((↑n0 : Int)))), (D.val (vI ((↑n1 : Int))))] [(D.val (vI n4))]) ∧
 (∃ n5 : Int,
 ((Says C 67 [(D.sl 3 1 [(vI n2), (vI n3), (vI n4)])] [(D.val (vI n5))]) ∧
 (bcase (n5 != 0)
 (k [D.nil, (D.val (vI n5))])
 (bcase (decide (0 + n0 * 1 ≤ List.length l0))
 (∃ n6 : Int,
 ((Says C 72 [(D.sl (n0) 1 (List.take (n0 * 1) (List.drop 0 l0)))] [(D.val (vI n6))]) ∧
 (bcase (decide (0 + n1 * 1 ≤ List.length l1))
 (∃ n7 : Int,
 ((Says C 72 [(D.sl (n1) 1 (List.take (n1 * 1) (List.drop 0 l1)))] [(D.val (vI n7))]) ∧
 (L 0 [(Prod.mk 1 (Go.Value.slice (Option.some (Go.Addr.mk 501 0 Option.none)) (n1) (c1))), (Prod.mk 7 (vI n6)), (Prod.mk 8 (vI n7)), (Prod.mk 9 (Go.Value.slice Option.none 0 0)), (Prod.mk 33 (Go.Value.slice (Option.some (Go.Addr.mk 500 0 Option.none)) (n0) (c0))), (Prod.mk 34 (vI ((↑n0 : Int)))), (Prod.mk 35 (vI (0 : Int)))] [(Prod.mk 501 (AObj.sym (l1) false 1)), (Prod.mk 500 (AObj.sym (l0) false 1))])))
 False)))
 False))))))))
 False)))
 False) := by kernel_rfl
abbrev zCh1 (n0 : Nat) (c1 : Nat) (x2 : Int) (x3 : Int) (n4 : Nat) (c5 : Nat) (x6 : Int) (x7 : Int) (l8 : List Value) (l9 : List Value) : Slots × Blocks := ([(1, (Value.slice (some ⟨501, 0, none⟩) n0 c1)), (7, (Value.int .i64 x2)), (8, (Value.int .i64 x3)), (9, (Value.slice none 0 0)), (33, (Value.slice (some ⟨500, 0, none⟩) n4 c5)), (34, (Value.int .i64 x6)), (35, (Value.int .i64 x7))], [(501, (AObj.sym l8 false 1)), (500, (AObj.sym l9 false 1))])
def rCh1 (C : Ct) (L : AtLoop) (n0 : Nat) (c1 : Nat) (x2 : Int) (x3 : Int) (n4 : Nat) (c5 : Nat) (x6 : Int) (x7 : Int) (l8 : List Value) (l9 : List Value) (B : Bx) (X : Xx) (k : List D → Prop) : Prop := wpRound Try.prog (hF7 C) L 20 0 [(1, (Value.slice (some ⟨501, 0, none⟩) n0 c1)), (7, (Value.int .i64 x2)), (8, (Value.int .i64 x3)), (9, (Value.slice none 0 0)), (33, (Value.slice (some ⟨500, 0, none⟩) n4 c5)), (34, (Value.int .i64 x6)), (35, (Value.int .i64 x7))] [(501, (AObj.sym l8 false 1)), (500, (AObj.sym l9 false 1))] B X (dataK k)
theorem rCh1_text (C : Ct) (L : AtLoop) (n0 : Nat) (c1 : Nat) (x2 : Int) (x3 : Int) (n4 : Nat) (c5 : Nat) (x6 : Int) (x7 : Int) (l8 : List Go.Value) (l9 : List Go.Value) (B : Bx) (X : Xx) (k : List D → Prop) : rCh1 C L n0 c1 x2 x3 n4 c5 x6 x7 l8 l9 B X k =
 (bcase (decide (x7 < x6))
 (bcase (decide (0 ≤ x7))
 (bcase (decide (x7 < (↑n4 : Int)))
 (∃ n1 : Int,
 ((At (l9) (0 + Int.toNat x7 * 1) 1 [(vI n1)]) ∧
 (bcase (decide (0 ≤ x7))
 (bcase (decide (x7 < (↑n0 : Int)))
 (∃ n2 : Int,
 ((At (l8) (0 + Int.toNat x7 * 1) 1 [(vI n2)]) ∧
 (∃ n3 : Int,
 (∃ n5 : Int,
 (∃ n6 : Int,
 ((Says C 73 [(D.val (vI (IntKind.wrap .i64 (IntKind.wrap .i64 (n1 * x3) - IntKind.wrap .i64 (n2 * x2))))), (D.val (vI (IntKind.wrap .i64 (n2 * x2))))] [(D.agg [(D.val (vI n3)), (D.val (vI n5))]), (D.val (vI n6))]) ∧
 (bcase (n6 != 0)
 (k [D.nil, (D.val (vI n6))])
 (B [(Prod.mk 1 (Go.Value.slice (Option.some (Go.Addr.mk 501 0 Option.none)) (n0) (c1))), (Prod.mk 7 (vI x2)), (Prod.mk 8 (vI x3)), (Prod.mk 9 (Go.Value.slice (Option.some (Go.Addr.mk 1000 0 Option.none)) 1 1)), (Prod.mk 33 (Go.Value.slice (Option.some (Go.Addr.mk 500 0 Option.none)) (n4) (c5))), (Prod.mk 34 (vI x6)), (Prod.mk 35 (vI (IntKind.wrap .i64 (x7 + 1))))] [(Prod.mk 501 (AObj.sym (l8) false 1)), (Prod.mk 1000 (AObj.sym [(vI n3), (vI n5)] true 2)), (Prod.mk 500 (AObj.sym (l9) false 1))]))))))))
 False)
 False)))
 False)
 False)
 (X 0 [(Prod.mk 9 (Go.Value.slice Option.none 0 0))] [])) := by kernel_rfl
abbrev zCh2 (n0 : Nat) (c1 : Nat) (x2 : Int) (x3 : Int) (n4 : Nat) (n5 : Nat) (c6 : Nat) (x7 : Int) (x8 : Int) (l9 : List Value) (l10 : List Value) (l11 : List Value) : Slots × Blocks := ([(1, (Value.slice (some ⟨501, 0, none⟩) n0 c1)), (7, (Value.int .i64 x2)), (8, (Value.int .i64 x3)), (9, (Value.slice (some ⟨1000, 0, none⟩) n4 n4)), (33, (Value.slice (some ⟨500, 0, none⟩) n5 c6)), (34, (Value.int .i64 x7)), (35, (Value.int .i64 x8))], [(501, (AObj.sym l9 false 1)), (1000, (AObj.sym l10 true 2)), (500, (AObj.sym l11 false 1))])
def rCh2 (C : Ct) (L : AtLoop) (n0 : Nat) (c1 : Nat) (x2 : Int) (x3 : Int) (n4 : Nat) (n5 : Nat) (c6 : Nat) (x7 : Int) (x8 : Int) (l9 : List Value) (l10 : List Value) (l11 : List Value) (B : Bx) (X : Xx) (k : List D → Prop) : Prop := wpRound Try.prog (hF7 C) L 20 0 [(1, (Value.slice (some ⟨501, 0, none⟩) n0 c1)), (7, (Value.int .i64 x2)), (8, (Value.int .i64 x3)), (9, (Value.slice (some ⟨1000, 0, none⟩) n4 n4)), (33, (Value.slice (some ⟨500, 0, none⟩) n5 c6)), (34, (Value.int .i64 x7)), (35, (Value.int .i64 x8))] [(501, (AObj.sym l9 false 1)), (1000, (AObj.sym l10 true 2)), (500, (AObj.sym l11 false 1))] B X (dataK k)
theorem rCh2_text (C : Ct) (L : AtLoop) (n0 : Nat) (c1 : Nat) (x2 : Int) (x3 : Int) (n4 : Nat) (n5 : Nat) (c6 : Nat) (x7 : Int) (x8 : Int) (l9 : List Go.Value) (l10 : List Go.Value) (l11 : List Go.Value) (B : Bx) (X : Xx) (k : List D → Prop) : rCh2 C L n0 c1 x2 x3 n4 n5 c6 x7 x8 l9 l10 l11 B X k =
 (bcase (decide (x8 < x7))
 (bcase (decide (0 ≤ x8))
 (bcase (decide (x8 < (↑n5 : Int)))
 (∃ n1 : Int,
 ((At (l11) (0 + Int.toNat x8 * 1) 1 [(vI n1)]) ∧
 (bcase (decide (0 ≤ x8))
 (bcase (decide (x8 < (↑n0 : Int)))
 (∃ n2 : Int,
 ((At (l9) (0 + Int.toNat x8 * 1) 1 [(vI n2)]) ∧
 (∃ n3 : Int,
 (∃ n6 : Int,
 (∃ n7 : Int,
 ((Says C 73 [(D.val (vI (IntKind.wrap .i64 (IntKind.wrap .i64 (n1 * x3) - IntKind.wrap .i64 (n2 * x2))))), (D.val (vI (IntKind.wrap .i64 (n2 * x2))))] [(D.agg [(D.val (vI n3)), (D.val (vI n6))]), (D.val (vI n7))]) ∧
 (bcase (n7 != 0)
 (k [D.nil, (D.val (vI n7))])
 (bcase (decide (n4 < n4 + 1))
 (bcase (decide ((2 * (n4 + 1) + 768) * 16 ≤ 281474976710656))
 (bcase (decide (n4 + 1 ≤ 1099511627776))
 (bcase (decide (0 + n4 * 2 ≤ List.length l10))
 (bcase (decide (0 + n4 * 2 = List.length l10))
 (B [(Prod.mk 1 (Go.Value.slice (Option.some (Go.Addr.mk 501 0 Option.none)) (n0) (c1))), (Prod.mk 7 (vI x2)), (Prod.mk 8 (vI x3)), (Prod.mk 9 (Go.Value.slice (Option.some (Go.Addr.mk 1000 0 Option.none)) (n4 + 1) (n4 + 1))), (Prod.mk 33 (Go.Value.slice (Option.some (Go.Addr.mk 500 0 Option.none)) (n5) (c6))), (Prod.mk 34 (vI x7)), (Prod.mk 35 (vI (IntKind.wrap .i64 (x8 + 1))))] [(Prod.mk 501 (AObj.sym (l9) false 1)), (Prod.mk 1000 (AObj.sym ((List.take (n4 * 2) (List.drop 0 l10)) ++ [(vI n3), (vI n6)]) true 2)), (Prod.mk 500 (AObj.sym (l11) false 1))])
 False)
 False)
 False)
 False)
 False))))))))
 False)
 False)))
 False)
 False)
 (X 0 [(Prod.mk 9 (Go.Value.slice (Option.some (Go.Addr.mk 1000 0 Option.none)) (n4) (n4)))] [(Prod.mk 1000 (AObj.sym (l10) true 2))])) := by kernel_rfl
def nCh4 (C : Ct) (L : AtLoop) (n0 : Nat) (l1 : List Value) (k : List D → Prop) : Prop := wpNext Try.prog (hF7 C) L 20 0 .normal [(9, (Value.slice (some ⟨1000, 0, none⟩) n0 n0))] [(1000, (AObj.sym l1 true 2))] (dataK k)
theorem nCh4_text (C : Ct) (L : AtLoop) (n0 : Nat) (l1 : List Go.Value) (k : List D → Prop) : nCh4 C L n0 l1 k =
 ((((n0) = (n0)) ∧
 ((List.length l1) = (n0 * 2))) ∧
 (k [(D.sl (n0) 2 (l1)), (D.val (vI (0 : Int)))])) := by kernel_rfl
def gRg (C : Ct) (L : AtLoop) (n0 : Nat) (c0 : Nat) (l0 : List Value) (n1 : Nat) (c1 : Nat) (l1 : List Value) (k : List D → Prop) : Prop := wpFn Try.prog (hF7 C) L 0 21 #[.slice (some ⟨500, 0, none⟩) n0 c0, .slice (some ⟨501, 0, none⟩) n1 c1] (heapOf [(500, .sym l0 false 1), (501, .sym l1 false 1)]) (dataK k)
theorem gRg_text (C : Ct) (L : AtLoop) (n0 : Nat) (c0 : Nat) (l0 : List Go.Value) (n1 : Nat) (c1 : Nat) (l1 : List Go.Value) (k : List D → Prop) : gRg C L n0 c0 l0 n1 c1 l1 k =
 (L 0 [(Prod.mk 0 (Go.Value.slice (Option.some (Go.Addr.mk 500 0 Option.none)) (n0) (c0))), (Prod.mk 1 (Go.Value.slice (Option.some (Go.Addr.mk 501 0 Option.none)) (n1) (c1))), (Prod.mk 6 (Go.Value.slice Option.none 0 0)), (Prod.mk 7 (vI (0 : Int)))] [(Prod.mk 500 (AObj.sym (l0) false 1)), (Prod.mk 501 (AObj.sym (l1) false 1))]) := by kernel_rfl
abbrev zRg1 (n0 : Nat) (c1 : Nat) (n2 : Nat) (c3 : Nat) (x4 : Int) (l5 : List Value) (l6 : List Value) : Slots × Blocks := ([(0, (Value.slice (some ⟨500, 0, none⟩) n0 c1)), (1, (Value.slice (some ⟨501, 0, none⟩) n2 c3)), (6, (Value.slice none 0 0)), (7, (Value.int .i64 x4))], [(500, (AObj.sym l5 false 1)), (501, (AObj.sym l6 false 1))])
def rRg1 (C : Ct) (L : AtLoop) (n0 : Nat) (c1 : Nat) (n2 : Nat) (c3 : Nat) (x4 : Int) (l5 : List Value) (l6 : List Value) (B : Bx) (X : Xx) (k : List D → Prop) : Prop := wpRound Try.prog (hF7 C) L 21 0 [(0, (Value.slice (some ⟨500, 0, none⟩) n0 c1)), (1, (Value.slice (some ⟨501, 0, none⟩) n2 c3)), (6, (Value.slice none 0 0)), (7, (Value.int .i64 x4))] [(500, (AObj.sym l5 false 1)), (501, (AObj.sym l6 false 1))] B X (dataK k)
theorem rRg1_text (C : Ct) (L : AtLoop) (n0 : Nat) (c1 : Nat) (n2 : Nat) (c3 : Nat) (x4 : Int) (l5 : List Go.Value) (l6 : List Go.Value) (B : Bx) (X : Xx) (k : List D → Prop) : rRg1 C L n0 c1 n2 c3 x4 l5 l6 B X k =
 (bcase (decide (x4 < (↑n0 : Int)))
 (bcase (decide (0 ≤ x4))
 (bcase (decide (x4 < (↑n2 : Int)))
 (∃ n1 : Int,
 ((At (l6) (0 + Int.toNat x4 * 1) 1 [(vI n1)]) ∧
 ((((Go.Value.slice (Option.some (Go.Addr.mk 500 0 Option.none)) (n0) (c1)) = (Go.Value.slice (Option.some (Go.Addr.mk 500 0 Option.none)) (n0) (c1))) ∧
 ((∃ n3 : Int,
 ((At (l6) (0 + Int.toNat x4 * 1) 1 [(vI n3)]) ∧
 ((vI n3) = (vI n1)))) ∧
 ((bcase (decide (0 ≤ x4))
 (bcase (decide (x4 < (↑n2 : Int)))
 ((Go.Value.pointer (Option.some (Go.Addr.mk 501 (0 + Int.toNat x4 * 1) Option.none))) = (Go.Value.pointer (Option.some (Go.Addr.mk 501 (0 + Int.toNat x4 * 1) Option.none))))
 False)
 False) ∧
 (((vI x4) = (vI x4)) ∧
 (((Go.Value.slice (Option.some (Go.Addr.mk 501 0 Option.none)) (n2) (c3)) = (Go.Value.slice (Option.some (Go.Addr.mk 501 0 Option.none)) (n2) (c3))) ∧
 True))))) ∧
 (bcase (decide (0 + n0 * 1 ≤ List.length l5))
 (∃ n3 : Int,
 ((Says C 74 [(D.sl (n0) 1 (List.take (n0 * 1) (List.drop 0 l5)))] [(D.val (vI n3))]) ∧
 ((((vI (IntKind.wrap .i64 (n1 * n3))) = (vI (IntKind.wrap .i64 (n1 * n3)))) ∧
 ((∃ n4 : Int,
 ((At (l6) (0 + Int.toNat x4 * 1) 1 [(vI n4)]) ∧
 ((vI n4) = (vI n1)))) ∧
 ((bcase (decide (0 ≤ x4))
 (bcase (decide (x4 < (↑n2 : Int)))
 ((Go.Value.pointer (Option.some (Go.Addr.mk 501 (0 + Int.toNat x4 * 1) Option.none))) = (Go.Value.pointer (Option.some (Go.Addr.mk 501 (0 + Int.toNat x4 * 1) Option.none))))
 False)
 False) ∧
 (((vI x4) = (vI x4)) ∧
 (((Go.Value.slice (Option.some (Go.Addr.mk 501 0 Option.none)) (n2) (c3)) = (Go.Value.slice (Option.some (Go.Addr.mk 501 0 Option.none)) (n2) (c3))) ∧
 True))))) ∧
 (True ∧
 (bcase (decide (0 ≤ x4))
 (bcase (decide (x4 < (↑n0 : Int)))
 (∃ n4 : Int,
 ((At (l5) (0 + Int.toNat x4 * 1) 1 [(vI n4)]) ∧
 (((((Go.Value.pointer (Option.some (Go.Addr.mk 1000 0 Option.none))) = (Go.Value.pointer (Option.some (Go.Addr.mk 1000 0 Option.none)))) ∧
 ((Option.some (AObj.cells [(vI (0 : Int)), (vI (0 : Int))] 26 false 2)) = (Option.some (AObj.cells [(vI (0 : Int)), (vI (0 : Int))] 26 false 2)))) ∧
 (((vI (IntKind.wrap .i64 (n1 * n3))) = (vI (IntKind.wrap .i64 (n1 * n3)))) ∧
 (((vI (IntKind.wrap .i64 (n1 * n3))) = (vI (IntKind.wrap .i64 (n1 * n3)))) ∧
 (((Go.Value.slice (Option.some (Go.Addr.mk 501 0 Option.none)) (n2) (c3)) = (Go.Value.slice (Option.some (Go.Addr.mk 501 0 Option.none)) (n2) (c3))) ∧
 ((∃ n5 : Int,
 ((At (l5) (0 + Int.toNat x4 * 1) 1 [(vI n5)]) ∧
 ((vI n5) = (vI n4)))) ∧
 ((bcase (decide (0 ≤ x4))
 (bcase (decide (x4 < (↑n0 : Int)))
 ((Go.Value.pointer (Option.some (Go.Addr.mk 500 (0 + Int.toNat x4 * 1) Option.none))) = (Go.Value.pointer (Option.some (Go.Addr.mk 500 (0 + Int.toNat x4 * 1) Option.none))))
 False)
 False) ∧
 (((vI x4) = (vI x4)) ∧
 (((Go.Value.slice (Option.some (Go.Addr.mk 500 0 Option.none)) (n0) (c1)) = (Go.Value.slice (Option.some (Go.Addr.mk 500 0 Option.none)) (n0) (c1))) ∧
 True)))))))) ∧
 (bcase (decide (0 + n2 * 1 ≤ List.length l6))
 (∃ n5 : Int,
 ((Says C 74 [(D.sl (n2) 1 (List.take (n2 * 1) (List.drop 0 l6)))] [(D.val (vI n5))]) ∧
 ((((vI (IntKind.wrap .i64 (IntKind.wrap .i64 (n4 * n5) - IntKind.wrap .i64 (n1 * n3)))) = (vI (IntKind.wrap .i64 (IntKind.wrap .i64 (n4 * n5) - IntKind.wrap .i64 (n1 * n3))))) ∧
 (((vI (IntKind.wrap .i64 (n4 * n5))) = (vI (IntKind.wrap .i64 (n4 * n5)))) ∧
 ((((Go.Value.pointer (Option.some (Go.Addr.mk 1000 0 Option.none))) = (Go.Value.pointer (Option.some (Go.Addr.mk 1000 0 Option.none)))) ∧
 ((Option.some (AObj.cells [(vI (0 : Int)), (vI (0 : Int))] 26 false 2)) = (Option.some (AObj.cells [(vI (0 : Int)), (vI (0 : Int))] 26 false 2)))) ∧
 (((vI (IntKind.wrap .i64 (n1 * n3))) = (vI (IntKind.wrap .i64 (n1 * n3)))) ∧
 (((vI (IntKind.wrap .i64 (n1 * n3))) = (vI (IntKind.wrap .i64 (n1 * n3)))) ∧
 ((∃ n6 : Int,
 ((At (l5) (0 + Int.toNat x4 * 1) 1 [(vI n6)]) ∧
 ((vI n6) = (vI n4)))) ∧
 ((bcase (decide (0 ≤ x4))
 (bcase (decide (x4 < (↑n0 : Int)))
 ((Go.Value.pointer (Option.some (Go.Addr.mk 500 (0 + Int.toNat x4 * 1) Option.none))) = (Go.Value.pointer (Option.some (Go.Addr.mk 500 (0 + Int.toNat x4 * 1) Option.none))))
 False)
 False) ∧
 (((vI x4) = (vI x4)) ∧
 (((Go.Value.slice (Option.some (Go.Addr.mk 500 0 Option.none)) (n0) (c1)) = (Go.Value.slice (Option.some (Go.Addr.mk 500 0 Option.none)) (n0) (c1))) ∧
 True))))))))) ∧
 (∃ n6 : Int,
 (∃ n7 : Int,
 ((Says C 70 [(D.val (vI (IntKind.wrap .i64 (IntKind.wrap .i64 (n4 * n5) - IntKind.wrap .i64 (n1 * n3))))), (D.val (vI (IntKind.wrap .i64 (n1 * n3))))] [(D.agg [(D.val (vI n6)), (D.val (vI n7))])]) ∧
 ((((vI (IntKind.wrap .i64 (n4 * n5))) = (vI (IntKind.wrap .i64 (n4 * n5)))) ∧
 ((((Go.Value.pointer (Option.some (Go.Addr.mk 1000 0 Option.none))) = (Go.Value.pointer (Option.some (Go.Addr.mk 1000 0 Option.none)))) ∧
 ((Option.some (AObj.cells [(vI (0 : Int)), (vI (0 : Int))] 26 false 2)) = (Option.some (AObj.cells [(vI (0 : Int)), (vI (0 : Int))] 26 false 2)))) ∧
 (((vI (IntKind.wrap .i64 (n1 * n3))) = (vI (IntKind.wrap .i64 (n1 * n3)))) ∧
 ((∃ n8 : Int,
 ((At (l5) (0 + Int.toNat x4 * 1) 1 [(vI n8)]) ∧
 ((vI n8) = (vI n4)))) ∧
 ((bcase (decide (0 ≤ x4))
 (bcase (decide (x4 < (↑n0 : Int)))
 ((Go.Value.pointer (Option.some (Go.Addr.mk 500 (0 + Int.toNat x4 * 1) Option.none))) = (Go.Value.pointer (Option.some (Go.Addr.mk 500 (0 + Int.toNat x4 * 1) Option.none))))
 False)
 False) ∧
 (((vI x4) = (vI x4)) ∧
 (((Go.Value.slice (Option.some (Go.Addr.mk 500 0 Option.none)) (n0) (c1)) = (Go.Value.slice (Option.some (Go.Addr.mk 500 0 Option.none)) (n0) (c1))) ∧
 True))))))) ∧
 (True ∧
 (((Says C 27 [(D.agg [(D.val (vI n6)), (D.val (vI n7))])] [(D.val (Value.bool true))]) ∧
 (B [(Prod.mk 0 (Go.Value.slice (Option.some (Go.Addr.mk 500 0 Option.none)) (n0) (c1))), (Prod.mk 1 (Go.Value.slice (Option.some (Go.Addr.mk 501 0 Option.none)) (n2) (c3))), (Prod.mk 6 (Go.Value.slice (Option.some (Go.Addr.mk 1000 0 Option.none)) 1 1)), (Prod.mk 7 (vI (IntKind.wrap .i64 (x4 + 1))))] [(Prod.mk 500 (AObj.sym (l5) false 1)), (Prod.mk 501 (AObj.sym (l6) false 1)), (Prod.mk 1000 (AObj.sym [(vI n6), (vI n7)] true 2))])) ∨
 ((Says C 27 [(D.agg [(D.val (vI n6)), (D.val (vI n7))])] [(D.val (Value.bool false))]) ∧
 (k [D.nil, (D.val (Value.bool false))])))))))))))
 False))))
 False)
 False)))))
 False))))
 False)
 False)
 (X 0 [(Prod.mk 6 (Go.Value.slice Option.none 0 0))] [])) := by kernel_rfl
abbrev zRg2 (n0 : Nat) (c1 : Nat) (n2 : Nat) (c3 : Nat) (n4 : Nat) (x5 : Int) (l6 : List Value) (l7 : List Value) (l8 : List Value) : Slots × Blocks := ([(0, (Value.slice (some ⟨500, 0, none⟩) n0 c1)), (1, (Value.slice (some ⟨501, 0, none⟩) n2 c3)), (6, (Value.slice (some ⟨1000, 0, none⟩) n4 n4)), (7, (Value.int .i64 x5))], [(500, (AObj.sym l6 false 1)), (501, (AObj.sym l7 false 1)), (1000, (AObj.sym l8 true 2))])
def rRg2 (C : Ct) (L : AtLoop) (n0 : Nat) (c1 : Nat) (n2 : Nat) (c3 : Nat) (n4 : Nat) (x5 : Int) (l6 : List Value) (l7 : List Value) (l8 : List Value) (B : Bx) (X : Xx) (k : List D → Prop) : Prop := wpRound Try.prog (hF7 C) L 21 0 [(0, (Value.slice (some ⟨500, 0, none⟩) n0 c1)), (1, (Value.slice (some ⟨501, 0, none⟩) n2 c3)), (6, (Value.slice (some ⟨1000, 0, none⟩) n4 n4)), (7, (Value.int .i64 x5))] [(500, (AObj.sym l6 false 1)), (501, (AObj.sym l7 false 1)), (1000, (AObj.sym l8 true 2))] B X (dataK k)
theorem rRg2_text (C : Ct) (L : AtLoop) (n0 : Nat) (c1 : Nat) (n2 : Nat) (c3 : Nat) (n4 : Nat) (x5 : Int) (l6 : List Go.Value) (l7 : List Go.Value) (l8 : List Go.Value) (B : Bx) (X : Xx) (k : List D → Prop) : rRg2 C L n0 c1 n2 c3 n4 x5 l6 l7 l8 B X k =
 (bcase (decide (x5 < (↑n0 : Int)))
 (bcase (decide (0 ≤ x5))
 (bcase (decide (x5 < (↑n2 : Int)))
 (∃ n1 : Int,
 ((At (l7) (0 + Int.toNat x5 * 1) 1 [(vI n1)]) ∧
 ((((Go.Value.slice (Option.some (Go.Addr.mk 500 0 Option.none)) (n0) (c1)) = (Go.Value.slice (Option.some (Go.Addr.mk 500 0 Option.none)) (n0) (c1))) ∧
 ((∃ n3 : Int,
 ((At (l7) (0 + Int.toNat x5 * 1) 1 [(vI n3)]) ∧
 ((vI n3) = (vI n1)))) ∧
 ((bcase (decide (0 ≤ x5))
 (bcase (decide (x5 < (↑n2 : Int)))
 ((Go.Value.pointer (Option.some (Go.Addr.mk 501 (0 + Int.toNat x5 * 1) Option.none))) = (Go.Value.pointer (Option.some (Go.Addr.mk 501 (0 + Int.toNat x5 * 1) Option.none))))
 False)
 False) ∧
 (((vI x5) = (vI x5)) ∧
 (((Go.Value.slice (Option.some (Go.Addr.mk 501 0 Option.none)) (n2) (c3)) = (Go.Value.slice (Option.some (Go.Addr.mk 501 0 Option.none)) (n2) (c3))) ∧
 True))))) ∧
 (bcase (decide (0 + n0 * 1 ≤ List.length l6))
 (∃ n3 : Int,
 ((Says C 74 [(D.sl (n0) 1 (List.take (n0 * 1) (List.drop 0 l6)))] [(D.val (vI n3))]) ∧
 ((((vI (IntKind.wrap .i64 (n1 * n3))) = (vI (IntKind.wrap .i64 (n1 * n3)))) ∧
 ((∃ n5 : Int,
 ((At (l7) (0 + Int.toNat x5 * 1) 1 [(vI n5)]) ∧
 ((vI n5) = (vI n1)))) ∧
 ((bcase (decide (0 ≤ x5))
 (bcase (decide (x5 < (↑n2 : Int)))
 ((Go.Value.pointer (Option.some (Go.Addr.mk 501 (0 + Int.toNat x5 * 1) Option.none))) = (Go.Value.pointer (Option.some (Go.Addr.mk 501 (0 + Int.toNat x5 * 1) Option.none))))
 False)
 False) ∧
 (((vI x5) = (vI x5)) ∧
 (((Go.Value.slice (Option.some (Go.Addr.mk 501 0 Option.none)) (n2) (c3)) = (Go.Value.slice (Option.some (Go.Addr.mk 501 0 Option.none)) (n2) (c3))) ∧
 True))))) ∧
 (True ∧
 (bcase (decide (0 ≤ x5))
 (bcase (decide (x5 < (↑n0 : Int)))
 (∃ n5 : Int,
 ((At (l6) (0 + Int.toNat x5 * 1) 1 [(vI n5)]) ∧
 (((((Go.Value.pointer (Option.some (Go.Addr.mk 1001 0 Option.none))) = (Go.Value.pointer (Option.some (Go.Addr.mk 1001 0 Option.none)))) ∧
 ((Option.some (AObj.cells [(vI (0 : Int)), (vI (0 : Int))] 26 false 2)) = (Option.some (AObj.cells [(vI (0 : Int)), (vI (0 : Int))] 26 false 2)))) ∧
 (((vI (IntKind.wrap .i64 (n1 * n3))) = (vI (IntKind.wrap .i64 (n1 * n3)))) ∧
 (((vI (IntKind.wrap .i64 (n1 * n3))) = (vI (IntKind.wrap .i64 (n1 * n3)))) ∧
 (((Go.Value.slice (Option.some (Go.Addr.mk 501 0 Option.none)) (n2) (c3)) = (Go.Value.slice (Option.some (Go.Addr.mk 501 0 Option.none)) (n2) (c3))) ∧
 ((∃ n6 : Int,
 ((At (l6) (0 + Int.toNat x5 * 1) 1 [(vI n6)]) ∧
 ((vI n6) = (vI n5)))) ∧
 ((bcase (decide (0 ≤ x5))
 (bcase (decide (x5 < (↑n0 : Int)))
 ((Go.Value.pointer (Option.some (Go.Addr.mk 500 (0 + Int.toNat x5 * 1) Option.none))) = (Go.Value.pointer (Option.some (Go.Addr.mk 500 (0 + Int.toNat x5 * 1) Option.none))))
 False)
 False) ∧
 (((vI x5) = (vI x5)) ∧
 (((Go.Value.slice (Option.some (Go.Addr.mk 500 0 Option.none)) (n0) (c1)) = (Go.Value.slice (Option.some (Go.Addr.mk 500 0 Option.none)) (n0) (c1))) ∧
 True)))))))) ∧
 (bcase (decide (0 + n2 * 1 ≤ List.length l7))
 (∃ n6 : Int,
 ((Says C 74 [(D.sl (n2) 1 (List.take (n2 * 1) (List.drop 0 l7)))] [(D.val (vI n6))]) ∧
 ((((vI (IntKind.wrap .i64 (IntKind.wrap .i64 (n5 * n6) - IntKind.wrap .i64 (n1 * n3)))) = (vI (IntKind.wrap .i64 (IntKind.wrap .i64 (n5 * n6) - IntKind.wrap .i64 (n1 * n3))))) ∧
 (((vI (IntKind.wrap .i64 (n5 * n6))) = (vI (IntKind.wrap .i64 (n5 * n6)))) ∧
 ((((Go.Value.pointer (Option.some (Go.Addr.mk 1001 0 Option.none))) = (Go.Value.pointer (Option.some (Go.Addr.mk 1001 0 Option.none)))) ∧
 ((Option.some (AObj.cells [(vI (0 : Int)), (vI (0 : Int))] 26 false 2)) = (Option.some (AObj.cells [(vI (0 : Int)), (vI (0 : Int))] 26 false 2)))) ∧
 (((vI (IntKind.wrap .i64 (n1 * n3))) = (vI (IntKind.wrap .i64 (n1 * n3)))) ∧
 (((vI (IntKind.wrap .i64 (n1 * n3))) = (vI (IntKind.wrap .i64 (n1 * n3)))) ∧
 ((∃ n7 : Int,
 ((At (l6) (0 + Int.toNat x5 * 1) 1 [(vI n7)]) ∧
 ((vI n7) = (vI n5)))) ∧
 ((bcase (decide (0 ≤ x5))
 (bcase (decide (x5 < (↑n0 : Int)))
 ((Go.Value.pointer (Option.some (Go.Addr.mk 500 (0 + Int.toNat x5 * 1) Option.none))) = (Go.Value.pointer (Option.some (Go.Addr.mk 500 (0 + Int.toNat x5 * 1) Option.none))))
 False)
 False) ∧
 (((vI x5) = (vI x5)) ∧
 (((Go.Value.slice (Option.some (Go.Addr.mk 500 0 Option.none)) (n0) (c1)) = (Go.Value.slice (Option.some (Go.Addr.mk 500 0 Option.none)) (n0) (c1))) ∧
 True))))))))) ∧
 (∃ n7 : Int,
 (∃ n8 : Int,
 ((Says C 70 [(D.val (vI (IntKind.wrap .i64 (IntKind.wrap .i64 (n5 * n6) - IntKind.wrap .i64 (n1 * n3))))), (D.val (vI (IntKind.wrap .i64 (n1 * n3))))] [(D.agg [(D.val (vI n7)), (D.val (vI n8))])]) ∧
 ((((vI (IntKind.wrap .i64 (n5 * n6))) = (vI (IntKind.wrap .i64 (n5 * n6)))) ∧
 ((((Go.Value.pointer (Option.some (Go.Addr.mk 1001 0 Option.none))) = (Go.Value.pointer (Option.some (Go.Addr.mk 1001 0 Option.none)))) ∧
 ((Option.some (AObj.cells [(vI (0 : Int)), (vI (0 : Int))] 26 false 2)) = (Option.some (AObj.cells [(vI (0 : Int)), (vI (0 : Int))] 26 false 2)))) ∧
 (((vI (IntKind.wrap .i64 (n1 * n3))) = (vI (IntKind.wrap .i64 (n1 * n3)))) ∧
 ((∃ n9 : Int,
 ((At (l6) (0 + Int.toNat x5 * 1) 1 [(vI n9)]) ∧
 ((vI n9) = (vI n5)))) ∧
 ((bcase (decide (0 ≤ x5))
 (bcase (decide (x5 < (↑n0 : Int)))
 ((Go.Value.pointer (Option.some (Go.Addr.mk 500 (0 + Int.toNat x5 * 1) Option.none))) = (Go.Value.pointer (Option.some (Go.Addr.mk 500 (0 + Int.toNat x5 * 1) Option.none))))
 False)
 False) ∧
 (((vI x5) = (vI x5)) ∧
 (((Go.Value.slice (Option.some (Go.Addr.mk 500 0 Option.none)) (n0) (c1)) = (Go.Value.slice (Option.some (Go.Addr.mk 500 0 Option.none)) (n0) (c1))) ∧
 True))))))) ∧
 (True ∧
 (((Says C 27 [(D.agg [(D.val (vI n7)), (D.val (vI n8))])] [(D.val (Value.bool true))]) ∧
 (bcase (decide (n4 < n4 + 1))
 (bcase (decide ((2 * (n4 + 1) + 768) * 16 ≤ 281474976710656))
 (bcase (decide (n4 + 1 ≤ 1099511627776))
 (bcase (decide (0 + n4 * 2 ≤ List.length l8))
 (bcase (decide (0 + n4 * 2 = List.length l8))
 (B [(Prod.mk 0 (Go.Value.slice (Option.some (Go.Addr.mk 500 0 Option.none)) (n0) (c1))), (Prod.mk 1 (Go.Value.slice (Option.some (Go.Addr.mk 501 0 Option.none)) (n2) (c3))), (Prod.mk 6 (Go.Value.slice (Option.some (Go.Addr.mk 1000 0 Option.none)) (n4 + 1) (n4 + 1))), (Prod.mk 7 (vI (IntKind.wrap .i64 (x5 + 1))))] [(Prod.mk 500 (AObj.sym (l6) false 1)), (Prod.mk 501 (AObj.sym (l7) false 1)), (Prod.mk 1000 (AObj.sym ((List.take (n4 * 2) (List.drop 0 l8)) ++ [(vI n7), (vI n8)]) true 2))])
 False)
 False)
 False)
 False)
 False)) ∨
 ((Says C 27 [(D.agg [(D.val (vI n7)), (D.val (vI n8))])] [(D.val (Value.bool false))]) ∧
 (k [D.nil, (D.val (Value.bool false))])))))))))))
 False))))
 False)
 False)))))
 False))))
 False)
 False)
 (X 0 [(Prod.mk 6 (Go.Value.slice (Option.some (Go.Addr.mk 1000 0 Option.none)) (n4) (n4)))] [(Prod.mk 1000 (AObj.sym (l8) true 2))])) := by kernel_rfl
def nRg4 (C : Ct) (L : AtLoop) (n0 : Nat) (l1 : List Value) (k : List D → Prop) : Prop := wpNext Try.prog (hF7 C) L 21 0 .normal [(6, (Value.slice (some ⟨1000, 0, none⟩) n0 n0))] [(1000, (AObj.sym l1 true 2))] (dataK k)
theorem nRg4_text (C : Ct) (L : AtLoop) (n0 : Nat) (l1 : List Go.Value) (k : List D → Prop) : nRg4 C L n0 l1 k =
 ((((n0) = (n0)) ∧
 ((List.length l1) = (n0 * 2))) ∧
 (k [(D.sl (n0) 2 (l1)), (D.val (Value.bool true))])) := by kernel_rfl
def gFr (C : Ct) (L : AtLoop) (n0 : Nat) (c0 : Nat) (l0 : List Value) (n1 : Nat) (c1 : Nat) (l1 : List Value) (k : List D → Prop) : Prop := wpFn Try.prog (hF7 C) L 0 22 #[.slice (some ⟨500, 0, none⟩) n0 c0, .slice (some ⟨501, 0, none⟩) n1 c1] (heapOf [(500, .sym l0 false 2), (501, .sym l1 false 2)]) (dataK k)
theorem gFr_text (C : Ct) (L : AtLoop) (n0 : Nat) (c0 : Nat) (l0 : List Go.Value) (n1 : Nat) (c1 : Nat) (l1 : List Go.Value) (k : List D → Prop) : gFr C L n0 c0 l0 n1 c1 l1 k =
 (bcase ((↑n0 : Int) != (↑n1 : Int))
 (k [(D.val (Value.bool false))])
 (L 0 [(Prod.mk 0 (Go.Value.slice (Option.some (Go.Addr.mk 500 0 Option.none)) (n0) (c0))), (Prod.mk 1 (Go.Value.slice (Option.some (Go.Addr.mk 501 0 Option.none)) (n1) (c1))), (Prod.mk 5 (vI (0 : Int)))] [(Prod.mk 500 (AObj.sym (l0) false 2)), (Prod.mk 501 (AObj.sym (l1) false 2))])) := by kernel_rfl
abbrev zFr1 (n0 : Nat) (c1 : Nat) (n2 : Nat) (c3 : Nat) (x4 : Int) (l5 : List Value) (l6 : List Value) : Slots × Blocks := ([(0, (Value.slice (some ⟨500, 0, none⟩) n0 c1)), (1, (Value.slice (some ⟨501, 0, none⟩) n2 c3)), (5, (Value.int .i64 x4))], [(500, (AObj.sym l5 false 2)), (501, (AObj.sym l6 false 2))])
def rFr1 (C : Ct) (L : AtLoop) (n0 : Nat) (c1 : Nat) (n2 : Nat) (c3 : Nat) (x4 : Int) (l5 : List Value) (l6 : List Value) (B : Bx) (X : Xx) (k : List D → Prop) : Prop := wpRound Try.prog (hF7 C) L 22 0 [(0, (Value.slice (some ⟨500, 0, none⟩) n0 c1)), (1, (Value.slice (some ⟨501, 0, none⟩) n2 c3)), (5, (Value.int .i64 x4))] [(500, (AObj.sym l5 false 2)), (501, (AObj.sym l6 false 2))] B X (dataK k)
theorem rFr1_text (C : Ct) (L : AtLoop) (n0 : Nat) (c1 : Nat) (n2 : Nat) (c3 : Nat) (x4 : Int) (l5 : List Go.Value) (l6 : List Go.Value) (B : Bx) (X : Xx) (k : List D → Prop) : rFr1 C L n0 c1 n2 c3 x4 l5 l6 B X k =
 (bcase (decide (x4 < (↑n0 : Int)))
 (bcase (decide (0 ≤ x4))
 (bcase (decide (x4 < (↑n0 : Int)))
 (∃ n1 : Int,
 (∃ n3 : Int,
 ((At (l5) (0 + Int.toNat x4 * 2) 2 [(vI n1), (vI n3)]) ∧
 (bcase (decide (0 ≤ x4))
 (bcase (decide (x4 < (↑n2 : Int)))
 (∃ n4 : Int,
 (∃ n5 : Int,
 ((At (l6) (0 + Int.toNat x4 * 2) 2 [(vI n4), (vI n5)]) ∧
 (bcase (if Bool.true = Bool.true then !(n1 == n4 && (n3 == n5 && Bool.true)) else n1 == n4 && (n3 == n5 && Bool.true))
 (((bcase (if Bool.true = Bool.true then !(n1 == n4 && (n3 == n5 && Bool.true)) else n1 == n4 && (n3 == n5 && Bool.true))
 ((Value.bool true) = (Value.bool true))
 ((Value.bool false) = (Value.bool true))) ∧
 ((∃ n6 : Int,
 (∃ n7 : Int,
 ((At (l6) (0 + Int.toNat x4 * 2) 2 [(vI n6), (vI n7)]) ∧
 ((Go.Value.agg [(vI n6), (vI n7)].toArray) = (Go.Value.agg [(vI n4), (vI n5)].toArray))))) ∧
 ((bcase (decide (0 ≤ x4))
 (bcase (decide (x4 < (↑n2 : Int)))
 ((Go.Value.pointer (Option.some (Go.Addr.mk 501 (0 + Int.toNat x4 * 2) Option.none))) = (Go.Value.pointer (Option.some (Go.Addr.mk 501 (0 + Int.toNat x4 * 2) Option.none))))
 False)
 False) ∧
 (((vI x4) = (vI x4)) ∧
 (((Go.Value.slice (Option.some (Go.Addr.mk 501 0 Option.none)) (n2) (c3)) = (Go.Value.slice (Option.some (Go.Addr.mk 501 0 Option.none)) (n2) (c3))) ∧
 ((∃ n6 : Int,
 (∃ n7 : Int,
 ((At (l5) (0 + Int.toNat x4 * 2) 2 [(vI n6), (vI n7)]) ∧
 ((Go.Value.agg [(vI n6), (vI n7)].toArray) = (Go.Value.agg [(vI n1), (vI n3)].toArray))))) ∧
 ((bcase (decide (0 ≤ x4))
 (bcase (decide (x4 < (↑n0 : Int)))
 ((Go.Value.pointer (Option.some (Go.Addr.mk 500 (0 + Int.toNat x4 * 2) Option.none))) = (Go.Value.pointer (Option.some (Go.Addr.mk 500 (0 + Int.toNat x4 * 2) Option.none))))
 False)
 False) ∧
 (((vI x4) = (vI x4)) ∧
 (((Go.Value.slice (Option.some (Go.Addr.mk 500 0 Option.none)) (n0) (c1)) = (Go.Value.slice (Option.some (Go.Addr.mk 500 0 Option.none)) (n0) (c1))) ∧
 True))))))))) ∧
 (k [(D.val (Value.bool false))]))
 (((bcase (if Bool.true = Bool.true then !(n1 == n4 && (n3 == n5 && Bool.true)) else n1 == n4 && (n3 == n5 && Bool.true))
 ((Value.bool true) = (Value.bool false))
 ((Value.bool false) = (Value.bool false))) ∧
 ((∃ n6 : Int,
 (∃ n7 : Int,
 ((At (l6) (0 + Int.toNat x4 * 2) 2 [(vI n6), (vI n7)]) ∧
 ((Go.Value.agg [(vI n6), (vI n7)].toArray) = (Go.Value.agg [(vI n4), (vI n5)].toArray))))) ∧
 ((bcase (decide (0 ≤ x4))
 (bcase (decide (x4 < (↑n2 : Int)))
 ((Go.Value.pointer (Option.some (Go.Addr.mk 501 (0 + Int.toNat x4 * 2) Option.none))) = (Go.Value.pointer (Option.some (Go.Addr.mk 501 (0 + Int.toNat x4 * 2) Option.none))))
 False)
 False) ∧
 (((vI x4) = (vI x4)) ∧
 (((Go.Value.slice (Option.some (Go.Addr.mk 501 0 Option.none)) (n2) (c3)) = (Go.Value.slice (Option.some (Go.Addr.mk 501 0 Option.none)) (n2) (c3))) ∧
 ((∃ n6 : Int,
 (∃ n7 : Int,
 ((At (l5) (0 + Int.toNat x4 * 2) 2 [(vI n6), (vI n7)]) ∧
 ((Go.Value.agg [(vI n6), (vI n7)].toArray) = (Go.Value.agg [(vI n1), (vI n3)].toArray))))) ∧
 ((bcase (decide (0 ≤ x4))
 (bcase (decide (x4 < (↑n0 : Int)))
 ((Go.Value.pointer (Option.some (Go.Addr.mk 500 (0 + Int.toNat x4 * 2) Option.none))) = (Go.Value.pointer (Option.some (Go.Addr.mk 500 (0 + Int.toNat x4 * 2) Option.none))))
 False)
 False) ∧
 (((vI x4) = (vI x4)) ∧
 (((Go.Value.slice (Option.some (Go.Addr.mk 500 0 Option.none)) (n0) (c1)) = (Go.Value.slice (Option.some (Go.Addr.mk 500 0 Option.none)) (n0) (c1))) ∧
 True))))))))) ∧
 (B [(Prod.mk 0 (Go.Value.slice (Option.some (Go.Addr.mk 500 0 Option.none)) (n0) (c1))), (Prod.mk 1 (Go.Value.slice (Option.some (Go.Addr.mk 501 0 Option.none)) (n2) (c3))), (Prod.mk 5 (vI (IntKind.wrap .i64 (x4 + 1))))] [(Prod.mk 500 (AObj.sym (l5) false 2)), (Prod.mk 501 (AObj.sym (l6) false 2))]))))))
 False)
 False))))
 False)
 False)
 (X 0 [] [])) := by kernel_rfl
def nFr2 (C : Ct) (L : AtLoop) (k : List D → Prop) : Prop := wpNext Try.prog (hF7 C) L 22 0 .normal [] [] (dataK k)
theorem nFr2_text (C : Ct) (L : AtLoop) (k : List D → Prop) : nFr2 C L k =
 (k [(D.val (Value.bool true))]) := by kernel_rfl
def gLc (C : Ct) (L : AtLoop) (n0 : Nat) (c0 : Nat) (l0 : List Value) (n1 : Nat) (c1 : Nat) (l1 : List Value) (k : List D → Prop) : Prop := wpFn Try.prog (hF7 C) L 0 4 #[.slice (some ⟨500, 0, none⟩) n0 c0, .slice (some ⟨501, 0, none⟩) n1 c1] (heapOf [(500, .sym l0 false 1), (501, .sym l1 false 1)]) (dataK k)
theorem gLc_text (C : Ct) (L : AtLoop) (n0 : Nat) (c0 : Nat) (l0 : List Go.Value) (n1 : Nat) (c1 : Nat) (l1 : List Go.Value) (k : List D → Prop) : gLc C L n0 c0 l0 n1 c1 l1 k =
 (((Says C 12 [] [(D.val (Value.bool true))]) ∧
 (bcase (decide (0 + n0 * 1 ≤ List.length l0))
 (((Says C 13 [(D.sl (n0) 1 (List.take (n0 * 1) (List.drop 0 l0)))] [(D.val (Value.bool true))]) ∧
 (bcase (decide (0 + n1 * 1 ≤ List.length l1))
 (((Says C 13 [(D.sl (n1) 1 (List.take (n1 * 1) (List.drop 0 l1)))] [(D.val (Value.bool true))]) ∧
 (bcase (decide (0 + n0 * 1 ≤ List.length l0))
 ((Says C 15 [(D.sl (n0) 1 (List.take (n0 * 1) (List.drop 0 l0)))] [(D.sl (n0) 1 (List.take (n0 * 1) (List.drop 0 l0)))]) ∧
 (bcase (decide (0 + n1 * 1 ≤ List.length l1))
 ((Says C 15 [(D.sl (n1) 1 (List.take (n1 * 1) (List.drop 0 l1)))] [(D.sl (n1) 1 (List.take (n1 * 1) (List.drop 0 l1)))]) ∧
 (bcase (decide (0 + n0 * 1 ≤ List.length (List.take (n0 * 1) (List.drop 0 l0))))
 (bcase (decide (0 + n1 * 1 ≤ List.length (List.take (n1 * 1) (List.drop 0 l1))))
 ((∃ n2 : Int,
 ((Says C 20 [(D.sl (n0) 1 (List.take (n0 * 1) (List.drop 0 (List.take (n0 * 1) (List.drop 0 l0))))), (D.sl (n1) 1 (List.take (n1 * 1) (List.drop 0 (List.take (n1 * 1) (List.drop 0 l1)))))] [D.nil, (D.val (vI n2))]) ∧
 (bcase (decide (0 + n0 * 1 ≤ List.length l0))
 (∃ n3 : Int,
 ((Says C 17 [(D.sl (n0) 1 (List.take (n0 * 1) (List.drop 0 l0)))] [(D.val (vI n3))]) ∧
 (bcase (n3 == 0)
 (bcase (decide (0 + n1 * 1 ≤ List.length l1))
 (∃ n4 : Int,
 ((Says C 17 [(D.sl (n1) 1 (List.take (n1 * 1) (List.drop 0 l1)))] [(D.val (vI n4))]) ∧
 (bcase (n4 == 0)
 (bcase ((↑n0 : Int) != (↑n1 : Int))
 (bcase (n2 == 10)
 (k [(D.val (Value.bool true))])
 (k [(D.val (Value.bool false))]))
 (bcase (n4 != 0)
 (bcase (n2 == n4)
 (k [(D.val (Value.bool true))])
 (k [(D.val (Value.bool false))]))
 (bcase (decide (0 + n0 * 1 ≤ List.length l0))
 (bcase (decide (0 + n1 * 1 ≤ List.length l1))
 ((((Says C 21 [(D.sl (n0) 1 (List.take (n0 * 1) (List.drop 0 l0))), (D.sl (n1) 1 (List.take (n1 * 1) (List.drop 0 l1)))] [D.nil, (D.val (Value.bool true))]) ∧
 (bcase (n2 == 0)
 (((Says C 22 [D.nil, D.nil] [(D.val (Value.bool true))]) ∧
 (k [(D.val (Value.bool true))])) ∨
 ((Says C 22 [D.nil, D.nil] [(D.val (Value.bool false))]) ∧
 (k [(D.val (Value.bool false))])))
 (k [(D.val (Value.bool false))]))) ∨
 ((Says C 21 [(D.sl (n0) 1 (List.take (n0 * 1) (List.drop 0 l0))), (D.sl (n1) 1 (List.take (n1 * 1) (List.drop 0 l1)))] [D.nil, (D.val (Value.bool false))]) ∧
 (bcase (n2 == 8)
 (k [(D.val (Value.bool true))])
 (k [(D.val (Value.bool false))])))) ∨
 (∃ n5 : Nat,
 (∃ cs1 : List Go.Value,
 (((Says C 21 [(D.sl (n0) 1 (List.take (n0 * 1) (List.drop 0 l0))), (D.sl (n1) 1 (List.take (n1 * 1) (List.drop 0 l1)))] [(D.sl (n5) 2 (cs1)), (D.val (Value.bool true))]) ∧
 (bcase (n2 == 0)
 (bcase (decide (0 + n5 * 2 ≤ List.length cs1))
 (((Says C 22 [D.nil, (D.sl (n5) 2 (List.take (n5 * 2) (List.drop 0 cs1)))] [(D.val (Value.bool true))]) ∧
 (k [(D.val (Value.bool true))])) ∨
 ((Says C 22 [D.nil, (D.sl (n5) 2 (List.take (n5 * 2) (List.drop 0 cs1)))] [(D.val (Value.bool false))]) ∧
 (k [(D.val (Value.bool false))])))
 False)
 (k [(D.val (Value.bool false))]))) ∨
 ((Says C 21 [(D.sl (n0) 1 (List.take (n0 * 1) (List.drop 0 l0))), (D.sl (n1) 1 (List.take (n1 * 1) (List.drop 0 l1)))] [(D.sl (n5) 2 (cs1)), (D.val (Value.bool false))]) ∧
 (bcase (n2 == 8)
 (k [(D.val (Value.bool true))])
 (k [(D.val (Value.bool false))])))))))
 False)
 False)))
 (bcase (n4 != 0)
 (bcase (n2 == n4)
 (k [(D.val (Value.bool true))])
 (k [(D.val (Value.bool false))]))
 (bcase (decide (0 + n0 * 1 ≤ List.length l0))
 (bcase (decide (0 + n1 * 1 ≤ List.length l1))
 ((((Says C 21 [(D.sl (n0) 1 (List.take (n0 * 1) (List.drop 0 l0))), (D.sl (n1) 1 (List.take (n1 * 1) (List.drop 0 l1)))] [D.nil, (D.val (Value.bool true))]) ∧
 (bcase (n2 == 0)
 (((Says C 22 [D.nil, D.nil] [(D.val (Value.bool true))]) ∧
 (k [(D.val (Value.bool true))])) ∨
 ((Says C 22 [D.nil, D.nil] [(D.val (Value.bool false))]) ∧
 (k [(D.val (Value.bool false))])))
 (k [(D.val (Value.bool false))]))) ∨
 ((Says C 21 [(D.sl (n0) 1 (List.take (n0 * 1) (List.drop 0 l0))), (D.sl (n1) 1 (List.take (n1 * 1) (List.drop 0 l1)))] [D.nil, (D.val (Value.bool false))]) ∧
 (bcase (n2 == 8)
 (k [(D.val (Value.bool true))])
 (k [(D.val (Value.bool false))])))) ∨
 (∃ n5 : Nat,
 (∃ cs1 : List Go.Value,
 (((Says C 21 [(D.sl (n0) 1 (List.take (n0 * 1) (List.drop 0 l0))), (D.sl (n1) 1 (List.take (n1 * 1) (List.drop 0 l1)))] [(D.sl (n5) 2 (cs1)), (D.val (Value.bool true))]) ∧
 (bcase (n2 == 0)
 (bcase (decide (0 + n5 * 2 ≤ List.length cs1))
 (((Says C 22 [D.nil, (D.sl (n5) 2 (List.take (n5 * 2) (List.drop 0 cs1)))] [(D.val (Value.bool true))]) ∧
 (k [(D.val (Value.bool true))])) ∨
 ((Says C 22 [D.nil, (D.sl (n5) 2 (List.take (n5 * 2) (List.drop 0 cs1)))] [(D.val (Value.bool false))]) ∧
 (k [(D.val (Value.bool false))])))
 False)
 (k [(D.val (Value.bool false))]))) ∨
 ((Says C 21 [(D.sl (n0) 1 (List.take (n0 * 1) (List.drop 0 l0))), (D.sl (n1) 1 (List.take (n1 * 1) (List.drop 0 l1)))] [(D.sl (n5) 2 (cs1)), (D.val (Value.bool false))]) ∧
 (bcase (n2 == 8)
 (k [(D.val (Value.bool true))])
 (k [(D.val (Value.bool false))])))))))
 False)
 False)))))
 False)
 (bcase (n3 == 0)
 (bcase ((↑n0 : Int) != (↑n1 : Int))
 (bcase (n2 == 10)
 (k [(D.val (Value.bool true))])
 (k [(D.val (Value.bool false))]))
 (bcase (n3 != 0)
 (bcase (n2 == n3)
 (k [(D.val (Value.bool true))])
 (k [(D.val (Value.bool false))]))
 (bcase (decide (0 + n0 * 1 ≤ List.length l0))
 (bcase (decide (0 + n1 * 1 ≤ List.length l1))
 ((((Says C 21 [(D.sl (n0) 1 (List.take (n0 * 1) (List.drop 0 l0))), (D.sl (n1) 1 (List.take (n1 * 1) (List.drop 0 l1)))] [D.nil, (D.val (Value.bool true))]) ∧
 (bcase (n2 == 0)
 (((Says C 22 [D.nil, D.nil] [(D.val (Value.bool true))]) ∧
 (k [(D.val (Value.bool true))])) ∨
 ((Says C 22 [D.nil, D.nil] [(D.val (Value.bool false))]) ∧
 (k [(D.val (Value.bool false))])))
 (k [(D.val (Value.bool false))]))) ∨
 ((Says C 21 [(D.sl (n0) 1 (List.take (n0 * 1) (List.drop 0 l0))), (D.sl (n1) 1 (List.take (n1 * 1) (List.drop 0 l1)))] [D.nil, (D.val (Value.bool false))]) ∧
 (bcase (n2 == 8)
 (k [(D.val (Value.bool true))])
 (k [(D.val (Value.bool false))])))) ∨
 (∃ n4 : Nat,
 (∃ cs1 : List Go.Value,
 (((Says C 21 [(D.sl (n0) 1 (List.take (n0 * 1) (List.drop 0 l0))), (D.sl (n1) 1 (List.take (n1 * 1) (List.drop 0 l1)))] [(D.sl (n4) 2 (cs1)), (D.val (Value.bool true))]) ∧
 (bcase (n2 == 0)
 (bcase (decide (0 + n4 * 2 ≤ List.length cs1))
 (((Says C 22 [D.nil, (D.sl (n4) 2 (List.take (n4 * 2) (List.drop 0 cs1)))] [(D.val (Value.bool true))]) ∧
 (k [(D.val (Value.bool true))])) ∨
 ((Says C 22 [D.nil, (D.sl (n4) 2 (List.take (n4 * 2) (List.drop 0 cs1)))] [(D.val (Value.bool false))]) ∧
 (k [(D.val (Value.bool false))])))
 False)
 (k [(D.val (Value.bool false))]))) ∨
 ((Says C 21 [(D.sl (n0) 1 (List.take (n0 * 1) (List.drop 0 l0))), (D.sl (n1) 1 (List.take (n1 * 1) (List.drop 0 l1)))] [(D.sl (n4) 2 (cs1)), (D.val (Value.bool false))]) ∧
 (bcase (n2 == 8)
 (k [(D.val (Value.bool true))])
 (k [(D.val (Value.bool false))])))))))
 False)
 False)))
 (bcase (n3 != 0)
 (bcase (n2 == n3)
 (k [(D.val (Value.bool true))])
 (k [(D.val (Value.bool false))]))
 (bcase (decide (0 + n0 * 1 ≤ List.length l0))
 (bcase (decide (0 + n1 * 1 ≤ List.length l1))
 ((((Says C 21 [(D.sl (n0) 1 (List.take (n0 * 1) (List.drop 0 l0))), (D.sl (n1) 1 (List.take (n1 * 1) (List.drop 0 l1)))] [D.nil, (D.val (Value.bool true))]) ∧
 (bcase (n2 == 0)
 (((Says C 22 [D.nil, D.nil] [(D.val (Value.bool true))]) ∧
 (k [(D.val (Value.bool true))])) ∨
 ((Says C 22 [D.nil, D.nil] [(D.val (Value.bool false))]) ∧
 (k [(D.val (Value.bool false))])))
 (k [(D.val (Value.bool false))]))) ∨
 ((Says C 21 [(D.sl (n0) 1 (List.take (n0 * 1) (List.drop 0 l0))), (D.sl (n1) 1 (List.take (n1 * 1) (List.drop 0 l1)))] [D.nil, (D.val (Value.bool false))]) ∧
 (bcase (n2 == 8)
 (k [(D.val (Value.bool true))])
 (k [(D.val (Value.bool false))])))) ∨
 (∃ n4 : Nat,
 (∃ cs1 : List Go.Value,
 (((Says C 21 [(D.sl (n0) 1 (List.take (n0 * 1) (List.drop 0 l0))), (D.sl (n1) 1 (List.take (n1 * 1) (List.drop 0 l1)))] [(D.sl (n4) 2 (cs1)), (D.val (Value.bool true))]) ∧
 (bcase (n2 == 0)
 (bcase (decide (0 + n4 * 2 ≤ List.length cs1))
 (((Says C 22 [D.nil, (D.sl (n4) 2 (List.take (n4 * 2) (List.drop 0 cs1)))] [(D.val (Value.bool true))]) ∧
 (k [(D.val (Value.bool true))])) ∨
 ((Says C 22 [D.nil, (D.sl (n4) 2 (List.take (n4 * 2) (List.drop 0 cs1)))] [(D.val (Value.bool false))]) ∧
 (k [(D.val (Value.bool false))])))
 False)
 (k [(D.val (Value.bool false))]))) ∨
 ((Says C 21 [(D.sl (n0) 1 (List.take (n0 * 1) (List.drop 0 l0))), (D.sl (n1) 1 (List.take (n1 * 1) (List.drop 0 l1)))] [(D.sl (n4) 2 (cs1)), (D.val (Value.bool false))]) ∧
 (bcase (n2 == 8)
 (k [(D.val (Value.bool true))])
 (k [(D.val (Value.bool false))])))))))
 False)
 False))))))
 False))) ∨
 (∃ n2 : Nat,
 (∃ cs1 : List Go.Value,
 (∃ n3 : Int,
 ((Says C 20 [(D.sl (n0) 1 (List.take (n0 * 1) (List.drop 0 (List.take (n0 * 1) (List.drop 0 l0))))), (D.sl (n1) 1 (List.take (n1 * 1) (List.drop 0 (List.take (n1 * 1) (List.drop 0 l1)))))] [(D.sl (n2) 2 (cs1)), (D.val (vI n3))]) ∧
 (bcase (decide (0 + n0 * 1 ≤ List.length l0))
 (∃ n4 : Int,
 ((Says C 17 [(D.sl (n0) 1 (List.take (n0 * 1) (List.drop 0 l0)))] [(D.val (vI n4))]) ∧
 (bcase (n4 == 0)
 (bcase (decide (0 + n1 * 1 ≤ List.length l1))
 (∃ n5 : Int,
 ((Says C 17 [(D.sl (n1) 1 (List.take (n1 * 1) (List.drop 0 l1)))] [(D.val (vI n5))]) ∧
 (bcase (n5 == 0)
 (bcase ((↑n0 : Int) != (↑n1 : Int))
 (bcase (n3 == 10)
 (bcase ((↑n2 : Int) == 0)
 (k [(D.val (Value.bool true))])
 (k [(D.val (Value.bool false))]))
 (k [(D.val (Value.bool false))]))
 (bcase (n5 != 0)
 (bcase (n3 == n5)
 (bcase ((↑n2 : Int) == 0)
 (k [(D.val (Value.bool true))])
 (k [(D.val (Value.bool false))]))
 (k [(D.val (Value.bool false))]))
 (bcase (decide (0 + n0 * 1 ≤ List.length l0))
 (bcase (decide (0 + n1 * 1 ≤ List.length l1))
 ((((Says C 21 [(D.sl (n0) 1 (List.take (n0 * 1) (List.drop 0 l0))), (D.sl (n1) 1 (List.take (n1 * 1) (List.drop 0 l1)))] [D.nil, (D.val (Value.bool true))]) ∧
 (bcase (n3 == 0)
 (bcase (decide (0 + n2 * 2 ≤ List.length cs1))
 (((Says C 22 [(D.sl (n2) 2 (List.take (n2 * 2) (List.drop 0 cs1))), D.nil] [(D.val (Value.bool true))]) ∧
 (k [(D.val (Value.bool true))])) ∨
 ((Says C 22 [(D.sl (n2) 2 (List.take (n2 * 2) (List.drop 0 cs1))), D.nil] [(D.val (Value.bool false))]) ∧
 (k [(D.val (Value.bool false))])))
 False)
 (k [(D.val (Value.bool false))]))) ∨
 ((Says C 21 [(D.sl (n0) 1 (List.take (n0 * 1) (List.drop 0 l0))), (D.sl (n1) 1 (List.take (n1 * 1) (List.drop 0 l1)))] [D.nil, (D.val (Value.bool false))]) ∧
 (bcase (n3 == 8)
 (bcase ((↑n2 : Int) == 0)
 (k [(D.val (Value.bool true))])
 (k [(D.val (Value.bool false))]))
 (k [(D.val (Value.bool false))])))) ∨
 (∃ n6 : Nat,
 (∃ cs2 : List Go.Value,
 (((Says C 21 [(D.sl (n0) 1 (List.take (n0 * 1) (List.drop 0 l0))), (D.sl (n1) 1 (List.take (n1 * 1) (List.drop 0 l1)))] [(D.sl (n6) 2 (cs2)), (D.val (Value.bool true))]) ∧
 (bcase (n3 == 0)
 (bcase (decide (0 + n2 * 2 ≤ List.length cs1))
 (bcase (decide (0 + n6 * 2 ≤ List.length cs2))
 (((Says C 22 [(D.sl (n2) 2 (List.take (n2 * 2) (List.drop 0 cs1))), (D.sl (n6) 2 (List.take (n6 * 2) (List.drop 0 cs2)))] [(D.val (Value.bool true))]) ∧
 (k [(D.val (Value.bool true))])) ∨
 ((Says C 22 [(D.sl (n2) 2 (List.take (n2 * 2) (List.drop 0 cs1))), (D.sl (n6) 2 (List.take (n6 * 2) (List.drop 0 cs2)))] [(D.val (Value.bool false))]) ∧
 (k [(D.val (Value.bool false))])))
 False)
 False)
 (k [(D.val (Value.bool false))]))) ∨
 ((Says C 21 [(D.sl (n0) 1 (List.take (n0 * 1) (List.drop 0 l0))), (D.sl (n1) 1 (List.take (n1 * 1) (List.drop 0 l1)))] [(D.sl (n6) 2 (cs2)), (D.val (Value.bool false))]) ∧
 (bcase (n3 == 8)
 (bcase ((↑n2 : Int) == 0)
 (k [(D.val (Value.bool true))])
 (k [(D.val (Value.bool false))]))
 (k [(D.val (Value.bool false))])))))))
 False)
 False)))
 (bcase (n5 != 0)
 (bcase (n3 == n5)
 (bcase ((↑n2 : Int) == 0)
 (k [(D.val (Value.bool true))])
 (k [(D.val (Value.bool false))]))
 (k [(D.val (Value.bool false))]))
 (bcase (decide (0 + n0 * 1 ≤ List.length l0))
 (bcase (decide (0 + n1 * 1 ≤ List.length l1))
 ((((Says C 21 [(D.sl (n0) 1 (List.take (n0 * 1) (List.drop 0 l0))), (D.sl (n1) 1 (List.take (n1 * 1) (List.drop 0 l1)))] [D.nil, (D.val (Value.bool true))]) ∧
 (bcase (n3 == 0)
 (bcase (decide (0 + n2 * 2 ≤ List.length cs1))
 (((Says C 22 [(D.sl (n2) 2 (List.take (n2 * 2) (List.drop 0 cs1))), D.nil] [(D.val (Value.bool true))]) ∧
 (k [(D.val (Value.bool true))])) ∨
 ((Says C 22 [(D.sl (n2) 2 (List.take (n2 * 2) (List.drop 0 cs1))), D.nil] [(D.val (Value.bool false))]) ∧
 (k [(D.val (Value.bool false))])))
 False)
 (k [(D.val (Value.bool false))]))) ∨
 ((Says C 21 [(D.sl (n0) 1 (List.take (n0 * 1) (List.drop 0 l0))), (D.sl (n1) 1 (List.take (n1 * 1) (List.drop 0 l1)))] [D.nil, (D.val (Value.bool false))]) ∧
 (bcase (n3 == 8)
 (bcase ((↑n2 : Int) == 0)
 (k [(D.val (Value.bool true))])
 (k [(D.val (Value.bool false))]))
 (k [(D.val (Value.bool false))])))) ∨
 (∃ n6 : Nat,
 (∃ cs2 : List Go.Value,
 (((Says C 21 [(D.sl (n0) 1 (List.take (n0 * 1) (List.drop 0 l0))), (D.sl (n1) 1 (List.take (n1 * 1) (List.drop 0 l1)))] [(D.sl (n6) 2 (cs2)), (D.val (Value.bool true))]) ∧
 (bcase (n3 == 0)
 (bcase (decide (0 + n2 * 2 ≤ List.length cs1))
 (bcase (decide (0 + n6 * 2 ≤ List.length cs2))
 (((Says C 22 [(D.sl (n2) 2 (List.take (n2 * 2) (List.drop 0 cs1))), (D.sl (n6) 2 (List.take (n6 * 2) (List.drop 0 cs2)))] [(D.val (Value.bool true))]) ∧
 (k [(D.val (Value.bool true))])) ∨
 ((Says C 22 [(D.sl (n2) 2 (List.take (n2 * 2) (List.drop 0 cs1))), (D.sl (n6) 2 (List.take (n6 * 2) (List.drop 0 cs2)))] [(D.val (Value.bool false))]) ∧
 (k [(D.val (Value.bool false))])))
 False)
 False)
 (k [(D.val (Value.bool false))]))) ∨
 ((Says C 21 [(D.sl (n0) 1 (List.take (n0 * 1) (List.drop 0 l0))), (D.sl (n1) 1 (List.take (n1 * 1) (List.drop 0 l1)))] [(D.sl (n6) 2 (cs2)), (D.val (Value.bool false))]) ∧
 (bcase (n3 == 8)
 (bcase ((↑n2 : Int) == 0)
 (k [(D.val (Value.bool true))])
 (k [(D.val (Value.bool false))]))
 (k [(D.val (Value.bool false))])))))))
 False)
 False)))))
 False)
 (bcase (n4 == 0)
 (bcase ((↑n0 : Int) != (↑n1 : Int))
 (bcase (n3 == 10)
 (bcase ((↑n2 : Int) == 0)
 (k [(D.val (Value.bool true))])
 (k [(D.val (Value.bool false))]))
 (k [(D.val (Value.bool false))]))
 (bcase (n4 != 0)
 (bcase (n3 == n4)
 (bcase ((↑n2 : Int) == 0)
 (k [(D.val (Value.bool true))])
 (k [(D.val (Value.bool false))]))
 (k [(D.val (Value.bool false))]))
 (bcase (decide (0 + n0 * 1 ≤ List.length l0))
 (bcase (decide (0 + n1 * 1 ≤ List.length l1))
 ((((Says C 21 [(D.sl (n0) 1 (List.take (n0 * 1) (List.drop 0 l0))), (D.sl (n1) 1 (List.take (n1 * 1) (List.drop 0 l1)))] [D.nil, (D.val (Value.bool true))]) ∧
 (bcase (n3 == 0)
 (bcase (decide (0 + n2 * 2 ≤ List.length cs1))
 (((Says C 22 [(D.sl (n2) 2 (List.take (n2 * 2) (List.drop 0 cs1))), D.nil] [(D.val (Value.bool true))]) ∧
 (k [(D.val (Value.bool true))])) ∨
 ((Says C 22 [(D.sl (n2) 2 (List.take (n2 * 2) (List.drop 0 cs1))), D.nil] [(D.val (Value.bool false))]) ∧
 (k [(D.val (Value.bool false))])))
 False)
 (k [(D.val (Value.bool false))]))) ∨
 ((Says C 21 [(D.sl (n0) 1 (List.take (n0 * 1) (List.drop 0 l0))), (D.sl (n1) 1 (List.take (n1 * 1) (List.drop 0 l1)))] [D.nil, (D.val (Value.bool false))]) ∧
 (bcase (n3 == 8)
 (bcase ((↑n2 : Int) == 0)
 (k [(D.val (Value.bool true))])
 (k [(D.val (Value.bool false))]))
 (k [(D.val (Value.bool false))])))) ∨
 (∃ n5 : Nat,
 (∃ cs2 : List Go.Value,
 (((Says C 21 [(D.sl (n0) 1 (List.take (n0 * 1) (List.drop 0 l0))), (D.sl (n1) 1 (List.take (n1 * 1) (List.drop 0 l1)))] [(D.sl (n5) 2 (cs2)), (D.val (Value.bool true))]) ∧
 (bcase (n3 == 0)
 (bcase (decide (0 + n2 * 2 ≤ List.length cs1))
 (bcase (decide (0 + n5 * 2 ≤ List.length cs2))
 (((Says C 22 [(D.sl (n2) 2 (List.take (n2 * 2) (List.drop 0 cs1))), (D.sl (n5) 2 (List.take (n5 * 2) (List.drop 0 cs2)))] [(D.val (Value.bool true))]) ∧
 (k [(D.val (Value.bool true))])) ∨
 ((Says C 22 [(D.sl (n2) 2 (List.take (n2 * 2) (List.drop 0 cs1))), (D.sl (n5) 2 (List.take (n5 * 2) (List.drop 0 cs2)))] [(D.val (Value.bool false))]) ∧
 (k [(D.val (Value.bool false))])))
 False)
 False)
 (k [(D.val (Value.bool false))]))) ∨
 ((Says C 21 [(D.sl (n0) 1 (List.take (n0 * 1) (List.drop 0 l0))), (D.sl (n1) 1 (List.take (n1 * 1) (List.drop 0 l1)))] [(D.sl (n5) 2 (cs2)), (D.val (Value.bool false))]) ∧
 (bcase (n3 == 8)
 (bcase ((↑n2 : Int) == 0)
 (k [(D.val (Value.bool true))])
 (k [(D.val (Value.bool false))]))
 (k [(D.val (Value.bool false))])))))))
 False)
 False)))
 (bcase (n4 != 0)
 (bcase (n3 == n4)
 (bcase ((↑n2 : Int) == 0)
 (k [(D.val (Value.bool true))])
 (k [(D.val (Value.bool false))]))
 (k [(D.val (Value.bool false))]))
 (bcase (decide (0 + n0 * 1 ≤ List.length l0))
 (bcase (decide (0 + n1 * 1 ≤ List.length l1))
 ((((Says C 21 [(D.sl (n0) 1 (List.take (n0 * 1) (List.drop 0 l0))), (D.sl (n1) 1 (List.take (n1 * 1) (List.drop 0 l1)))] [D.nil, (D.val (Value.bool true))]) ∧
 (bcase (n3 == 0)
 (bcase (decide (0 + n2 * 2 ≤ List.length cs1))
 (((Says C 22 [(D.sl (n2) 2 (List.take (n2 * 2) (List.drop 0 cs1))), D.nil] [(D.val (Value.bool true))]) ∧
 (k [(D.val (Value.bool true))])) ∨
 ((Says C 22 [(D.sl (n2) 2 (List.take (n2 * 2) (List.drop 0 cs1))), D.nil] [(D.val (Value.bool false))]) ∧
 (k [(D.val (Value.bool false))])))
 False)
 (k [(D.val (Value.bool false))]))) ∨
 ((Says C 21 [(D.sl (n0) 1 (List.take (n0 * 1) (List.drop 0 l0))), (D.sl (n1) 1 (List.take (n1 * 1) (List.drop 0 l1)))] [D.nil, (D.val (Value.bool false))]) ∧
 (bcase (n3 == 8)
 (bcase ((↑n2 : Int) == 0)
 (k [(D.val (Value.bool true))])
 (k [(D.val (Value.bool false))]))
 (k [(D.val (Value.bool false))])))) ∨
 (∃ n5 : Nat,
 (∃ cs2 : List Go.Value,
 (((Says C 21 [(D.sl (n0) 1 (List.take (n0 * 1) (List.drop 0 l0))), (D.sl (n1) 1 (List.take (n1 * 1) (List.drop 0 l1)))] [(D.sl (n5) 2 (cs2)), (D.val (Value.bool true))]) ∧
 (bcase (n3 == 0)
 (bcase (decide (0 + n2 * 2 ≤ List.length cs1))
 (bcase (decide (0 + n5 * 2 ≤ List.length cs2))
 (((Says C 22 [(D.sl (n2) 2 (List.take (n2 * 2) (List.drop 0 cs1))), (D.sl (n5) 2 (List.take (n5 * 2) (List.drop 0 cs2)))] [(D.val (Value.bool true))]) ∧
 (k [(D.val (Value.bool true))])) ∨
 ((Says C 22 [(D.sl (n2) 2 (List.take (n2 * 2) (List.drop 0 cs1))), (D.sl (n5) 2 (List.take (n5 * 2) (List.drop 0 cs2)))] [(D.val (Value.bool false))]) ∧
 (k [(D.val (Value.bool false))])))
 False)
 False)
 (k [(D.val (Value.bool false))]))) ∨
 ((Says C 21 [(D.sl (n0) 1 (List.take (n0 * 1) (List.drop 0 l0))), (D.sl (n1) 1 (List.take (n1 * 1) (List.drop 0 l1)))] [(D.sl (n5) 2 (cs2)), (D.val (Value.bool false))]) ∧
 (bcase (n3 == 8)
 (bcase ((↑n2 : Int) == 0)
 (k [(D.val (Value.bool true))])
 (k [(D.val (Value.bool false))]))
 (k [(D.val (Value.bool false))])))))))
 False)
 False))))))
 False))))))
 False)
 False))
 False))
 False)) ∨
 ((Says C 13 [(D.sl (n1) 1 (List.take (n1 * 1) (List.drop 0 l1)))] [(D.val (Value.bool false))]) ∧
 (k [(D.val (Value.bool true))])))
 False)) ∨
 ((Says C 13 [(D.sl (n0) 1 (List.take (n0 * 1) (List.drop 0 l0)))] [(D.val (Value.bool false))]) ∧
 (k [(D.val (Value.bool true))])))
 False)) ∨
 ((Says C 12 [] [(D.val (Value.bool false))]) ∧
 (k [(D.val (Value.bool false))]))) := by kernel_rfl
def gLcan (C : Ct) (L : AtLoop) (n0 : Nat) (c0 : Nat) (l0 : List Value) (k : List D → Prop) : Prop := wpFn Try.prog (hF7 C) L 0 4 #[.slice (some ⟨500, 0, none⟩) n0 c0, .slice none 0 0] (heapOf [(500, .sym l0 false 1)]) (dataK k)
theorem gLcan_text (C : Ct) (L : AtLoop) (n0 : Nat) (c0 : Nat) (l0 : List Go.Value) (k : List D → Prop) : gLcan C L n0 c0 l0 k =
 (((Says C 12 [] [(D.val (Value.bool true))]) ∧
 (bcase (decide (0 + n0 * 1 ≤ List.length l0))
 (((Says C 13 [(D.sl (n0) 1 (List.take (n0 * 1) (List.drop 0 l0)))] [(D.val (Value.bool true))]) ∧
 (((Says C 13 [D.nil] [(D.val (Value.bool true))]) ∧
 (bcase (decide (0 + n0 * 1 ≤ List.length l0))
 ((Says C 15 [(D.sl (n0) 1 (List.take (n0 * 1) (List.drop 0 l0)))] [(D.sl (n0) 1 (List.take (n0 * 1) (List.drop 0 l0)))]) ∧
 ((Says C 15 [D.nil] [(D.sl 0 1 [])]) ∧
 (bcase (decide (0 + n0 * 1 ≤ List.length (List.take (n0 * 1) (List.drop 0 l0))))
 ((∃ n1 : Int,
 ((Says C 20 [(D.sl (n0) 1 (List.take (n0 * 1) (List.drop 0 (List.take (n0 * 1) (List.drop 0 l0))))), (D.sl 0 1 [])] [D.nil, (D.val (vI n1))]) ∧
 (bcase (decide (0 + n0 * 1 ≤ List.length l0))
 (∃ n2 : Int,
 ((Says C 17 [(D.sl (n0) 1 (List.take (n0 * 1) (List.drop 0 l0)))] [(D.val (vI n2))]) ∧
 (bcase (n2 == 0)
 (∃ n3 : Int,
 ((Says C 17 [D.nil] [(D.val (vI n3))]) ∧
 (bcase (n3 == 0)
 (bcase ((↑n0 : Int) != (↑0 : Int))
 (bcase (n1 == 10)
 (k [(D.val (Value.bool true))])
 (k [(D.val (Value.bool false))]))
 (bcase (n3 != 0)
 (bcase (n1 == n3)
 (k [(D.val (Value.bool true))])
 (k [(D.val (Value.bool false))]))
 (bcase (decide (0 + n0 * 1 ≤ List.length l0))
 ((((Says C 21 [(D.sl (n0) 1 (List.take (n0 * 1) (List.drop 0 l0))), D.nil] [D.nil, (D.val (Value.bool true))]) ∧
 (bcase (n1 == 0)
 (((Says C 22 [D.nil, D.nil] [(D.val (Value.bool true))]) ∧
 (k [(D.val (Value.bool true))])) ∨
 ((Says C 22 [D.nil, D.nil] [(D.val (Value.bool false))]) ∧
 (k [(D.val (Value.bool false))])))
 (k [(D.val (Value.bool false))]))) ∨
 ((Says C 21 [(D.sl (n0) 1 (List.take (n0 * 1) (List.drop 0 l0))), D.nil] [D.nil, (D.val (Value.bool false))]) ∧
 (bcase (n1 == 8)
 (k [(D.val (Value.bool true))])
 (k [(D.val (Value.bool false))])))) ∨
 (∃ n4 : Nat,
 (∃ cs1 : List Go.Value,
 (((Says C 21 [(D.sl (n0) 1 (List.take (n0 * 1) (List.drop 0 l0))), D.nil] [(D.sl (n4) 2 (cs1)), (D.val (Value.bool true))]) ∧
 (bcase (n1 == 0)
 (bcase (decide (0 + n4 * 2 ≤ List.length cs1))
 (((Says C 22 [D.nil, (D.sl (n4) 2 (List.take (n4 * 2) (List.drop 0 cs1)))] [(D.val (Value.bool true))]) ∧
 (k [(D.val (Value.bool true))])) ∨
 ((Says C 22 [D.nil, (D.sl (n4) 2 (List.take (n4 * 2) (List.drop 0 cs1)))] [(D.val (Value.bool false))]) ∧
 (k [(D.val (Value.bool false))])))
 False)
 (k [(D.val (Value.bool false))]))) ∨
 ((Says C 21 [(D.sl (n0) 1 (List.take (n0 * 1) (List.drop 0 l0))), D.nil] [(D.sl (n4) 2 (cs1)), (D.val (Value.bool false))]) ∧
 (bcase (n1 == 8)
 (k [(D.val (Value.bool true))])
 (k [(D.val (Value.bool false))])))))))
 False)))
 (bcase (n3 != 0)
 (bcase (n1 == n3)
 (k [(D.val (Value.bool true))])
 (k [(D.val (Value.bool false))]))
 (bcase (decide (0 + n0 * 1 ≤ List.length l0))
 ((((Says C 21 [(D.sl (n0) 1 (List.take (n0 * 1) (List.drop 0 l0))), D.nil] [D.nil, (D.val (Value.bool true))]) ∧
 (bcase (n1 == 0)
 (((Says C 22 [D.nil, D.nil] [(D.val (Value.bool true))]) ∧
 (k [(D.val (Value.bool true))])) ∨
 ((Says C 22 [D.nil, D.nil] [(D.val (Value.bool false))]) ∧
 (k [(D.val (Value.bool false))])))
 (k [(D.val (Value.bool false))]))) ∨
 ((Says C 21 [(D.sl (n0) 1 (List.take (n0 * 1) (List.drop 0 l0))), D.nil] [D.nil, (D.val (Value.bool false))]) ∧
 (bcase (n1 == 8)
 (k [(D.val (Value.bool true))])
 (k [(D.val (Value.bool false))])))) ∨
 (∃ n4 : Nat,
 (∃ cs1 : List Go.Value,
 (((Says C 21 [(D.sl (n0) 1 (List.take (n0 * 1) (List.drop 0 l0))), D.nil] [(D.sl (n4) 2 (cs1)), (D.val (Value.bool true))]) ∧
 (bcase (n1 == 0)
 (bcase (decide (0 + n4 * 2 ≤ List.length cs1))
 (((Says C 22 [D.nil, (D.sl (n4) 2 (List.take (n4 * 2) (List.drop 0 cs1)))] [(D.val (Value.bool true))]) ∧
 (k [(D.val (Value.bool true))])) ∨
 ((Says C 22 [D.nil, (D.sl (n4) 2 (List.take (n4 * 2) (List.drop 0 cs1)))] [(D.val (Value.bool false))]) ∧
 (k [(D.val (Value.bool false))])))
 False)
 (k [(D.val (Value.bool false))]))) ∨
 ((Says C 21 [(D.sl (n0) 1 (List.take (n0 * 1) (List.drop 0 l0))), D.nil] [(D.sl (n4) 2 (cs1)), (D.val (Value.bool false))]) ∧
 (bcase (n1 == 8)
 (k [(D.val (Value.bool true))])
 (k [(D.val (Value.bool false))])))))))
 False)))))
 (bcase (n2 == 0)
 (bcase ((↑n0 : Int) != (↑0 : Int))
 (bcase (n1 == 10)
 (k [(D.val (Value.bool true))])
 (k [(D.val (Value.bool false))]))
 (bcase (n2 != 0)
 (bcase (n1 == n2)
 (k [(D.val (Value.bool true))])
 (k [(D.val (Value.bool false))]))
 (bcase (decide (0 + n0 * 1 ≤ List.length l0))
 ((((Says C 21 [(D.sl (n0) 1 (List.take (n0 * 1) (List.drop 0 l0))), D.nil] [D.nil, (D.val (Value.bool true))]) ∧
 (bcase (n1 == 0)
 (((Says C 22 [D.nil, D.nil] [(D.val (Value.bool true))]) ∧
 (k [(D.val (Value.bool true))])) ∨
 ((Says C 22 [D.nil, D.nil] [(D.val (Value.bool false))]) ∧
 (k [(D.val (Value.bool false))])))
 (k [(D.val (Value.bool false))]))) ∨
 ((Says C 21 [(D.sl (n0) 1 (List.take (n0 * 1) (List.drop 0 l0))), D.nil] [D.nil, (D.val (Value.bool false))]) ∧
 (bcase (n1 == 8)
 (k [(D.val (Value.bool true))])
 (k [(D.val (Value.bool false))])))) ∨
 (∃ n3 : Nat,
 (∃ cs1 : List Go.Value,
 (((Says C 21 [(D.sl (n0) 1 (List.take (n0 * 1) (List.drop 0 l0))), D.nil] [(D.sl (n3) 2 (cs1)), (D.val (Value.bool true))]) ∧
 (bcase (n1 == 0)
 (bcase (decide (0 + n3 * 2 ≤ List.length cs1))
 (((Says C 22 [D.nil, (D.sl (n3) 2 (List.take (n3 * 2) (List.drop 0 cs1)))] [(D.val (Value.bool true))]) ∧
 (k [(D.val (Value.bool true))])) ∨
 ((Says C 22 [D.nil, (D.sl (n3) 2 (List.take (n3 * 2) (List.drop 0 cs1)))] [(D.val (Value.bool false))]) ∧
 (k [(D.val (Value.bool false))])))
 False)
 (k [(D.val (Value.bool false))]))) ∨
 ((Says C 21 [(D.sl (n0) 1 (List.take (n0 * 1) (List.drop 0 l0))), D.nil] [(D.sl (n3) 2 (cs1)), (D.val (Value.bool false))]) ∧
 (bcase (n1 == 8)
 (k [(D.val (Value.bool true))])
 (k [(D.val (Value.bool false))])))))))
 False)))
 (bcase (n2 != 0)
 (bcase (n1 == n2)
 (k [(D.val (Value.bool true))])
 (k [(D.val (Value.bool false))]))
 (bcase (decide (0 + n0 * 1 ≤ List.length l0))
 ((((Says C 21 [(D.sl (n0) 1 (List.take (n0 * 1) (List.drop 0 l0))), D.nil] [D.nil, (D.val (Value.bool true))]) ∧
 (bcase (n1 == 0)
 (((Says C 22 [D.nil, D.nil] [(D.val (Value.bool true))]) ∧
 (k [(D.val (Value.bool true))])) ∨
 ((Says C 22 [D.nil, D.nil] [(D.val (Value.bool false))]) ∧
 (k [(D.val (Value.bool false))])))
 (k [(D.val (Value.bool false))]))) ∨
 ((Says C 21 [(D.sl (n0) 1 (List.take (n0 * 1) (List.drop 0 l0))), D.nil] [D.nil, (D.val (Value.bool false))]) ∧
 (bcase (n1 == 8)
 (k [(D.val (Value.bool true))])
 (k [(D.val (Value.bool false))])))) ∨
 (∃ n3 : Nat,
 (∃ cs1 : List Go.Value,
 (((Says C 21 [(D.sl (n0) 1 (List.take (n0 * 1) (List.drop 0 l0))), D.nil] [(D.sl (n3) 2 (cs1)), (D.val (Value.bool true))]) ∧
 (bcase (n1 == 0)
 (bcase (decide (0 + n3 * 2 ≤ List.length cs1))
 (((Says C 22 [D.nil, (D.sl (n3) 2 (List.take (n3 * 2) (List.drop 0 cs1)))] [(D.val (Value.bool true))]) ∧
 (k [(D.val (Value.bool true))])) ∨
 ((Says C 22 [D.nil, (D.sl (n3) 2 (List.take (n3 * 2) (List.drop 0 cs1)))] [(D.val (Value.bool false))]) ∧
 (k [(D.val (Value.bool false))])))
 False)
 (k [(D.val (Value.bool false))]))) ∨
 ((Says C 21 [(D.sl (n0) 1 (List.take (n0 * 1) (List.drop 0 l0))), D.nil] [(D.sl (n3) 2 (cs1)), (D.val (Value.bool false))]) ∧
 (bcase (n1 == 8)
 (k [(D.val (Value.bool true))])
 (k [(D.val (Value.bool false))])))))))
 False))))))
 False))) ∨
 (∃ n1 : Nat,
 (∃ cs1 : List Go.Value,
 (∃ n2 : Int,
 ((Says C 20 [(D.sl (n0) 1 (List.take (n0 * 1) (List.drop 0 (List.take (n0 * 1) (List.drop 0 l0))))), (D.sl 0 1 [])] [(D.sl (n1) 2 (cs1)), (D.val (vI n2))]) ∧
 (bcase (decide (0 + n0 * 1 ≤ List.length l0))
 (∃ n3 : Int,
 ((Says C 17 [(D.sl (n0) 1 (List.take (n0 * 1) (List.drop 0 l0)))] [(D.val (vI n3))]) ∧
 (bcase (n3 == 0)
 (∃ n4 : Int,
 ((Says C 17 [D.nil] [(D.val (vI n4))]) ∧
 (bcase (n4 == 0)
 (bcase ((↑n0 : Int) != (↑0 : Int))
 (bcase (n2 == 10)
 (bcase ((↑n1 : Int) == 0)
 (k [(D.val (Value.bool true))])
 (k [(D.val (Value.bool false))]))
 (k [(D.val (Value.bool false))]))
 (bcase (n4 != 0)
 (bcase (n2 == n4)
 (bcase ((↑n1 : Int) == 0)
 (k [(D.val (Value.bool true))])
 (k [(D.val (Value.bool false))]))
 (k [(D.val (Value.bool false))]))
 (bcase (decide (0 + n0 * 1 ≤ List.length l0))
 ((((Says C 21 [(D.sl (n0) 1 (List.take (n0 * 1) (List.drop 0 l0))), D.nil] [D.nil, (D.val (Value.bool true))]) ∧
 (bcase (n2 == 0)
 (bcase (decide (0 + n1 * 2 ≤ List.length cs1))
 (((Says C 22 [(D.sl (n1) 2 (List.take (n1 * 2) (List.drop 0 cs1))), D.nil] [(D.val (Value.bool true))]) ∧
 (k [(D.val (Value.bool true))])) ∨
 ((Says C 22 [(D.sl (n1) 2 (List.take (n1 * 2) (List.drop 0 cs1))), D.nil] [(D.val (Value.bool false))]) ∧
 (k [(D.val (Value.bool false))])))
 False)
 (k [(D.val (Value.bool false))]))) ∨
 ((Says C 21 [(D.sl (n0) 1 (List.take (n0 * 1) (List.drop 0 l0))), D.nil] [D.nil, (D.val (Value.bool false))]) ∧
 (bcase (n2 == 8)
 (bcase ((↑n1 : Int) == 0)
 (k [(D.val (Value.bool true))])
 (k [(D.val (Value.bool false))]))
 (k [(D.val (Value.bool false))])))) ∨
 (∃ n5 : Nat,
 (∃ cs2 : List Go.Value,
 (((Says C 21 [(D.sl (n0) 1 (List.take (n0 * 1) (List.drop 0 l0))), D.nil] [(D.sl (n5) 2 (cs2)), (D.val (Value.bool true))]) ∧
 (bcase (n2 == 0)
 (bcase (decide (0 + n1 * 2 ≤ List.length cs1))
 (bcase (decide (0 + n5 * 2 ≤ List.length cs2))
 (((Says C 22 [(D.sl (n1) 2 (List.take (n1 * 2) (List.drop 0 cs1))), (D.sl (n5) 2 (List.take (n5 * 2) (List.drop 0 cs2)))] [(D.val (Value.bool true))]) ∧
 (k [(D.val (Value.bool true))])) ∨
 ((Says C 22 [(D.sl (n1) 2 (List.take (n1 * 2) (List.drop 0 cs1))), (D.sl (n5) 2 (List.take (n5 * 2) (List.drop 0 cs2)))] [(D.val (Value.bool false))]) ∧
 (k [(D.val (Value.bool false))])))
 False)
 False)
 (k [(D.val (Value.bool false))]))) ∨
 ((Says C 21 [(D.sl (n0) 1 (List.take (n0 * 1) (List.drop 0 l0))), D.nil] [(D.sl (n5) 2 (cs2)), (D.val (Value.bool false))]) ∧
 (bcase (n2 == 8)
 (bcase ((↑n1 : Int) == 0)
 (k [(D.val (Value.bool true))])
 (k [(D.val (Value.bool false))]))
 (k [(D.val (Value.bool false))])))))))
 False)))
 (bcase (n4 != 0)
 (bcase (n2 == n4)
 (bcase ((↑n1 : Int) == 0)
 (k [(D.val (Value.bool true))])
 (k [(D.val (Value.bool false))]))
 (k [(D.val (Value.bool false))]))
 (bcase (decide (0 + n0 * 1 ≤ List.length l0))
 ((((Says C 21 [(D.sl (n0) 1 (List.take (n0 * 1) (List.drop 0 l0))), D.nil] [D.nil, (D.val (Value.bool true))]) ∧
 (bcase (n2 == 0)
 (bcase (decide (0 + n1 * 2 ≤ List.length cs1))
 (((Says C 22 [(D.sl (n1) 2 (List.take (n1 * 2) (List.drop 0 cs1))), D.nil] [(D.val (Value.bool true))]) ∧
 (k [(D.val (Value.bool true))])) ∨
 ((Says C 22 [(D.sl (n1) 2 (List.take (n1 * 2) (List.drop 0 cs1))), D.nil] [(D.val (Value.bool false))]) ∧
 (k [(D.val (Value.bool false))])))
 False)
 (k [(D.val (Value.bool false))]))) ∨
 ((Says C 21 [(D.sl (n0) 1 (List.take (n0 * 1) (List.drop 0 l0))), D.nil] [D.nil, (D.val (Value.bool false))]) ∧
 (bcase (n2 == 8)
 (bcase ((↑n1 : Int) == 0)
 (k [(D.val (Value.bool true))])
 (k [(D.val (Value.bool false))]))
 (k [(D.val (Value.bool false))])))) ∨
 (∃ n5 : Nat,
 (∃ cs2 : List Go.Value,
 (((Says C 21 [(D.sl (n0) 1 (List.take (n0 * 1) (List.drop 0 l0))), D.nil] [(D.sl (n5) 2 (cs2)), (D.val (Value.bool true))]) ∧
 (bcase (n2 == 0)
 (bcase (decide (0 + n1 * 2 ≤ List.length cs1))
 (bcase (decide (0 + n5 * 2 ≤ List.length cs2))
 (((Says C 22 [(D.sl (n1) 2 (List.take (n1 * 2) (List.drop 0 cs1))), (D.sl (n5) 2 (List.take (n5 * 2) (List.drop 0 cs2)))] [(D.val (Value.bool true))]) ∧
 (k [(D.val (Value.bool true))])) ∨
 ((Says C 22 [(D.sl (n1) 2 (List.take (n1 * 2) (List.drop 0 cs1))), (D.sl (n5) 2 (List.take (n5 * 2) (List.drop 0 cs2)))] [(D.val (Value.bool false))]) ∧
 (k [(D.val (Value.bool false))])))
 False)
 False)
 (k [(D.val (Value.bool false))]))) ∨
 ((Says C 21 [(D.sl (n0) 1 (List.take (n0 * 1) (List.drop 0 l0))), D.nil] [(D.sl (n5) 2 (cs2)), (D.val (Value.bool false))]) ∧
 (bcase (n2 == 8)
 (bcase ((↑n1 : Int) == 0)
 (k [(D.val (Value.bool true))])
 (k [(D.val (Value.bool false))]))
 (k [(D.val (Value.bool false))])))))))
 False)))))
 (bcase (n3 == 0)
 (bcase ((↑n0 : Int) != (↑0 : Int))
 (bcase (n2 == 10)
 (bcase ((↑n1 : Int) == 0)
 (k [(D.val (Value.bool true))])
 (k [(D.val (Value.bool false))]))
 (k [(D.val (Value.bool false))]))
 (bcase (n3 != 0)
 (bcase (n2 == n3)
 (bcase ((↑n1 : Int) == 0)
 (k [(D.val (Value.bool true))])
 (k [(D.val (Value.bool false))]))
 (k [(D.val (Value.bool false))]))
 (bcase (decide (0 + n0 * 1 ≤ List.length l0))
 ((((Says C 21 [(D.sl (n0) 1 (List.take (n0 * 1) (List.drop 0 l0))), D.nil] [D.nil, (D.val (Value.bool true))]) ∧
 (bcase (n2 == 0)
 (bcase (decide (0 + n1 * 2 ≤ List.length cs1))
 (((Says C 22 [(D.sl (n1) 2 (List.take (n1 * 2) (List.drop 0 cs1))), D.nil] [(D.val (Value.bool true))]) ∧
 (k [(D.val (Value.bool true))])) ∨
 ((Says C 22 [(D.sl (n1) 2 (List.take (n1 * 2) (List.drop 0 cs1))), D.nil] [(D.val (Value.bool false))]) ∧
 (k [(D.val (Value.bool false))])))
 False)
 (k [(D.val (Value.bool false))]))) ∨
 ((Says C 21 [(D.sl (n0) 1 (List.take (n0 * 1) (List.drop 0 l0))), D.nil] [D.nil, (D.val (Value.bool false))]) ∧
 (bcase (n2 == 8)
 (bcase ((↑n1 : Int) == 0)
 (k [(D.val (Value.bool true))])
 (k [(D.val (Value.bool false))]))
 (k [(D.val (Value.bool false))])))) ∨
 (∃ n4 : Nat,
 (∃ cs2 : List Go.Value,
 (((Says C 21 [(D.sl (n0) 1 (List.take (n0 * 1) (List.drop 0 l0))), D.nil] [(D.sl (n4) 2 (cs2)), (D.val (Value.bool true))]) ∧
 (bcase (n2 == 0)
 (bcase (decide (0 + n1 * 2 ≤ List.length cs1))
 (bcase (decide (0 + n4 * 2 ≤ List.length cs2))
 (((Says C 22 [(D.sl (n1) 2 (List.take (n1 * 2) (List.drop 0 cs1))), (D.sl (n4) 2 (List.take (n4 * 2) (List.drop 0 cs2)))] [(D.val (Value.bool true))]) ∧
 (k [(D.val (Value.bool true))])) ∨
 ((Says C 22 [(D.sl (n1) 2 (List.take (n1 * 2) (List.drop 0 cs1))), (D.sl (n4) 2 (List.take (n4 * 2) (List.drop 0 cs2)))] [(D.val (Value.bool false))]) ∧
 (k [(D.val (Value.bool false))])))
 False)
 False)
 (k [(D.val (Value.bool false))]))) ∨
 ((Says C 21 [(D.sl (n0) 1 (List.take (n0 * 1) (List.drop 0 l0))), D.nil] [(D.sl (n4) 2 (cs2)), (D.val (Value.bool false))]) ∧
 (bcase (n2 == 8)
 (bcase ((↑n1 : Int) == 0)
 (k [(D.val (Value.bool true))])
 (k [(D.val (Value.bool false))]))
 (k [(D.val (Value.bool false))])))))))
 False)))
 (bcase (n3 != 0)
 (bcase (n2 == n3)
 (bcase ((↑n1 : Int) == 0)
 (k [(D.val (Value.bool true))])
 (k [(D.val (Value.bool false))]))
 (k [(D.val (Value.bool false))]))
 (bcase (decide (0 + n0 * 1 ≤ List.length l0))
 ((((Says C 21 [(D.sl (n0) 1 (List.take (n0 * 1) (List.drop 0 l0))), D.nil] [D.nil, (D.val (Value.bool true))]) ∧
 (bcase (n2 == 0)
 (bcase (decide (0 + n1 * 2 ≤ List.length cs1))
 (((Says C 22 [(D.sl (n1) 2 (List.take (n1 * 2) (List.drop 0 cs1))), D.nil] [(D.val (Value.bool true))]) ∧
 (k [(D.val (Value.bool true))])) ∨
 ((Says C 22 [(D.sl (n1) 2 (List.take (n1 * 2) (List.drop 0 cs1))), D.nil] [(D.val (Value.bool false))]) ∧
 (k [(D.val (Value.bool false))])))
 False)
 (k [(D.val (Value.bool false))]))) ∨
 ((Says C 21 [(D.sl (n0) 1 (List.take (n0 * 1) (List.drop 0 l0))), D.nil] [D.nil, (D.val (Value.bool false))]) ∧
 (bcase (n2 == 8)
 (bcase ((↑n1 : Int) == 0)
 (k [(D.val (Value.bool true))])
 (k [(D.val (Value.bool false))]))
 (k [(D.val (Value.bool false))])))) ∨
 (∃ n4 : Nat,
 (∃ cs2 : List Go.Value,
 (((Says C 21 [(D.sl (n0) 1 (List.take (n0 * 1) (List.drop 0 l0))), D.nil] [(D.sl (n4) 2 (cs2)), (D.val (Value.bool true))]) ∧
 (bcase (n2 == 0)
 (bcase (decide (0 + n1 * 2 ≤ List.length cs1))
 (bcase (decide (0 + n4 * 2 ≤ List.length cs2))
 (((Says C 22 [(D.sl (n1) 2 (List.take (n1 * 2) (List.drop 0 cs1))), (D.sl (n4) 2 (List.take (n4 * 2) (List.drop 0 cs2)))] [(D.val (Value.bool true))]) ∧
 (k [(D.val (Value.bool true))])) ∨
 ((Says C 22 [(D.sl (n1) 2 (List.take (n1 * 2) (List.drop 0 cs1))), (D.sl (n4) 2 (List.take (n4 * 2) (List.drop 0 cs2)))] [(D.val (Value.bool false))]) ∧
 (k [(D.val (Value.bool false))])))
 False)
 False)
 (k [(D.val (Value.bool false))]))) ∨
 ((Says C 21 [(D.sl (n0) 1 (List.take (n0 * 1) (List.drop 0 l0))), D.nil] [(D.sl (n4) 2 (cs2)), (D.val (Value.bool false))]) ∧
 (bcase (n2 == 8)
 (bcase ((↑n1 : Int) == 0)
 (k [(D.val (Value.bool true))])
 (k [(D.val (Value.bool false))]))
 (k [(D.val (Value.bool false))])))))))
 False))))))
 False))))))
 False)))
 False)) ∨
 ((Says C 13 [D.nil] [(D.val (Value.bool false))]) ∧
 (k [(D.val (Value.bool true))])))) ∨
 ((Says C 13 [(D.sl (n0) 1 (List.take (n0 * 1) (List.drop 0 l0)))] [(D.val (Value.bool false))]) ∧
 (k [(D.val (Value.bool true))])))
 False)) ∨
 ((Says C 12 [] [(D.val (Value.bool false))]) ∧
 (k [(D.val (Value.bool false))]))) := by kernel_rfl
def gLcna (C : Ct) (L : AtLoop) (n1 : Nat) (c1 : Nat) (l1 : List Value) (k : List D → Prop) : Prop := wpFn Try.prog (hF7 C) L 0 4 #[.slice none 0 0, .slice (some ⟨500, 0, none⟩) n1 c1] (heapOf [(500, .sym l1 false 1)]) (dataK k)
theorem gLcna_text (C : Ct) (L : AtLoop) (n1 : Nat) (c1 : Nat) (l1 : List Go.Value) (k : List D → Prop) : gLcna C L n1 c1 l1 k =
 (((Says C 12 [] [(D.val (Value.bool true))]) ∧
 (((Says C 13 [D.nil] [(D.val (Value.bool true))]) ∧
 (bcase (decide (0 + n1 * 1 ≤ List.length l1))
 (((Says C 13 [(D.sl (n1) 1 (List.take (n1 * 1) (List.drop 0 l1)))] [(D.val (Value.bool true))]) ∧
 ((Says C 15 [D.nil] [(D.sl 0 1 [])]) ∧
 (bcase (decide (0 + n1 * 1 ≤ List.length l1))
 ((Says C 15 [(D.sl (n1) 1 (List.take (n1 * 1) (List.drop 0 l1)))] [(D.sl (n1) 1 (List.take (n1 * 1) (List.drop 0 l1)))]) ∧
 (bcase (decide (0 + n1 * 1 ≤ List.length (List.take (n1 * 1) (List.drop 0 l1))))
 ((∃ n2 : Int,
 ((Says C 20 [(D.sl 0 1 []), (D.sl (n1) 1 (List.take (n1 * 1) (List.drop 0 (List.take (n1 * 1) (List.drop 0 l1)))))] [D.nil, (D.val (vI n2))]) ∧
 (∃ n3 : Int,
 ((Says C 17 [D.nil] [(D.val (vI n3))]) ∧
 (bcase (n3 == 0)
 (bcase (decide (0 + n1 * 1 ≤ List.length l1))
 (∃ n4 : Int,
 ((Says C 17 [(D.sl (n1) 1 (List.take (n1 * 1) (List.drop 0 l1)))] [(D.val (vI n4))]) ∧
 (bcase (n4 == 0)
 (bcase ((↑0 : Int) != (↑n1 : Int))
 (bcase (n2 == 10)
 (k [(D.val (Value.bool true))])
 (k [(D.val (Value.bool false))]))
 (bcase (n4 != 0)
 (bcase (n2 == n4)
 (k [(D.val (Value.bool true))])
 (k [(D.val (Value.bool false))]))
 (bcase (decide (0 + n1 * 1 ≤ List.length l1))
 ((((Says C 21 [D.nil, (D.sl (n1) 1 (List.take (n1 * 1) (List.drop 0 l1)))] [D.nil, (D.val (Value.bool true))]) ∧
 (bcase (n2 == 0)
 (((Says C 22 [D.nil, D.nil] [(D.val (Value.bool true))]) ∧
 (k [(D.val (Value.bool true))])) ∨
 ((Says C 22 [D.nil, D.nil] [(D.val (Value.bool false))]) ∧
 (k [(D.val (Value.bool false))])))
 (k [(D.val (Value.bool false))]))) ∨
 ((Says C 21 [D.nil, (D.sl (n1) 1 (List.take (n1 * 1) (List.drop 0 l1)))] [D.nil, (D.val (Value.bool false))]) ∧
 (bcase (n2 == 8)
 (k [(D.val (Value.bool true))])
 (k [(D.val (Value.bool false))])))) ∨
 (∃ n5 : Nat,
 (∃ cs1 : List Go.Value,
 (((Says C 21 [D.nil, (D.sl (n1) 1 (List.take (n1 * 1) (List.drop 0 l1)))] [(D.sl (n5) 2 (cs1)), (D.val (Value.bool true))]) ∧
 (bcase (n2 == 0)
 (bcase (decide (0 + n5 * 2 ≤ List.length cs1))
 (((Says C 22 [D.nil, (D.sl (n5) 2 (List.take (n5 * 2) (List.drop 0 cs1)))] [(D.val (Value.bool true))]) ∧
 (k [(D.val (Value.bool true))])) ∨
 ((Says C 22 [D.nil, (D.sl (n5) 2 (List.take (n5 * 2) (List.drop 0 cs1)))] [(D.val (Value.bool false))]) ∧
 (k [(D.val (Value.bool false))])))
 False)
 (k [(D.val (Value.bool false))]))) ∨
 ((Says C 21 [D.nil, (D.sl (n1) 1 (List.take (n1 * 1) (List.drop 0 l1)))] [(D.sl (n5) 2 (cs1)), (D.val (Value.bool false))]) ∧
 (bcase (n2 == 8)
 (k [(D.val (Value.bool true))])
 (k [(D.val (Value.bool false))])))))))
 False)))
 (bcase (n4 != 0)
 (bcase (n2 == n4)
 (k [(D.val (Value.bool true))])
 (k [(D.val (Value.bool false))]))
 (bcase (decide (0 + n1 * 1 ≤ List.length l1))
 ((((Says C 21 [D.nil, (D.sl (n1) 1 (List.take (n1 * 1) (List.drop 0 l1)))] [D.nil, (D.val (Value.bool true))]) ∧
 (bcase (n2 == 0)
 (((Says C 22 [D.nil, D.nil] [(D.val (Value.bool true))]) ∧
 (k [(D.val (Value.bool true))])) ∨
 ((Says C 22 [D.nil, D.nil] [(D.val (Value.bool false))]) ∧
 (k [(D.val (Value.bool false))])))
 (k [(D.val (Value.bool false))]))) ∨
 ((Says C 21 [D.nil, (D.sl (n1) 1 (List.take (n1 * 1) (List.drop 0 l1)))] [D.nil, (D.val (Value.bool false))]) ∧
 (bcase (n2 == 8)
 (k [(D.val (Value.bool true))])
 (k [(D.val (Value.bool false))])))) ∨
 (∃ n5 : Nat,
 (∃ cs1 : List Go.Value,
 (((Says C 21 [D.nil, (D.sl (n1) 1 (List.take (n1 * 1) (List.drop 0 l1)))] [(D.sl (n5) 2 (cs1)), (D.val (Value.bool true))]) ∧
 (bcase (n2 == 0)
 (bcase (decide (0 + n5 * 2 ≤ List.length cs1))
 (((Says C 22 [D.nil, (D.sl (n5) 2 (List.take (n5 * 2) (List.drop 0 cs1)))] [(D.val (Value.bool true))]) ∧
 (k [(D.val (Value.bool true))])) ∨
 ((Says C 22 [D.nil, (D.sl (n5) 2 (List.take (n5 * 2) (List.drop 0 cs1)))] [(D.val (Value.bool false))]) ∧
 (k [(D.val (Value.bool false))])))
 False)
 (k [(D.val (Value.bool false))]))) ∨
 ((Says C 21 [D.nil, (D.sl (n1) 1 (List.take (n1 * 1) (List.drop 0 l1)))] [(D.sl (n5) 2 (cs1)), (D.val (Value.bool false))]) ∧
 (bcase (n2 == 8)
 (k [(D.val (Value.bool true))])
 (k [(D.val (Value.bool false))])))))))
 False)))))
 False)
 (bcase (n3 == 0)
 (bcase ((↑0 : Int) != (↑n1 : Int))
 (bcase (n2 == 10)
 (k [(D.val (Value.bool true))])
 (k [(D.val (Value.bool false))]))
 (bcase (n3 != 0)
 (bcase (n2 == n3)
 (k [(D.val (Value.bool true))])
 (k [(D.val (Value.bool false))]))
 (bcase (decide (0 + n1 * 1 ≤ List.length l1))
 ((((Says C 21 [D.nil, (D.sl (n1) 1 (List.take (n1 * 1) (List.drop 0 l1)))] [D.nil, (D.val (Value.bool true))]) ∧
 (bcase (n2 == 0)
 (((Says C 22 [D.nil, D.nil] [(D.val (Value.bool true))]) ∧
 (k [(D.val (Value.bool true))])) ∨
 ((Says C 22 [D.nil, D.nil] [(D.val (Value.bool false))]) ∧
 (k [(D.val (Value.bool false))])))
 (k [(D.val (Value.bool false))]))) ∨
 ((Says C 21 [D.nil, (D.sl (n1) 1 (List.take (n1 * 1) (List.drop 0 l1)))] [D.nil, (D.val (Value.bool false))]) ∧
 (bcase (n2 == 8)
 (k [(D.val (Value.bool true))])
 (k [(D.val (Value.bool false))])))) ∨
 (∃ n4 : Nat,
 (∃ cs1 : List Go.Value,
 (((Says C 21 [D.nil, (D.sl (n1) 1 (List.take (n1 * 1) (List.drop 0 l1)))] [(D.sl (n4) 2 (cs1)), (D.val (Value.bool true))]) ∧
 (bcase (n2 == 0)
 (bcase (decide (0 + n4 * 2 ≤ List.length cs1))
 (((Says C 22 [D.nil, (D.sl (n4) 2 (List.take (n4 * 2) (List.drop 0 cs1)))] [(D.val (Value.bool true))]) ∧
 (k [(D.val (Value.bool true))])) ∨
 ((Says C 22 [D.nil, (D.sl (n4) 2 (List.take (n4 * 2) (List.drop 0 cs1)))] [(D.val (Value.bool false))]) ∧
 (k [(D.val (Value.bool false))])))
 False)
 (k [(D.val (Value.bool false))]))) ∨
 ((Says C 21 [D.nil, (D.sl (n1) 1 (List.take (n1 * 1) (List.drop 0 l1)))] [(D.sl (n4) 2 (cs1)), (D.val (Value.bool false))]) ∧
 (bcase (n2 == 8)
 (k [(D.val (Value.bool true))])
 (k [(D.val (Value.bool false))])))))))
 False)))
 (bcase (n3 != 0)
 (bcase (n2 == n3)
 (k [(D.val (Value.bool true))])
 (k [(D.val (Value.bool false))]))
 (bcase (decide (0 + n1 * 1 ≤ List.length l1))
 ((((Says C 21 [D.nil, (D.sl (n1) 1 (List.take (n1 * 1) (List.drop 0 l1)))] [D.nil, (D.val (Value.bool true))]) ∧
 (bcase (n2 == 0)
 (((Says C 22 [D.nil, D.nil] [(D.val (Value.bool true))]) ∧
 (k [(D.val (Value.bool true))])) ∨
 ((Says C 22 [D.nil, D.nil] [(D.val (Value.bool false))]) ∧
 (k [(D.val (Value.bool false))])))
 (k [(D.val (Value.bool false))]))) ∨
 ((Says C 21 [D.nil, (D.sl (n1) 1 (List.take (n1 * 1) (List.drop 0 l1)))] [D.nil, (D.val (Value.bool false))]) ∧
 (bcase (n2 == 8)
 (k [(D.val (Value.bool true))])
 (k [(D.val (Value.bool false))])))) ∨
 (∃ n4 : Nat,
 (∃ cs1 : List Go.Value,
 (((Says C 21 [D.nil, (D.sl (n1) 1 (List.take (n1 * 1) (List.drop 0 l1)))] [(D.sl (n4) 2 (cs1)), (D.val (Value.bool true))]) ∧
 (bcase (n2 == 0)
 (bcase (decide (0 + n4 * 2 ≤ List.length cs1))
 (((Says C 22 [D.nil, (D.sl (n4) 2 (List.take (n4 * 2) (List.drop 0 cs1)))] [(D.val (Value.bool true))]) ∧
 (k [(D.val (Value.bool true))])) ∨
 ((Says C 22 [D.nil, (D.sl (n4) 2 (List.take (n4 * 2) (List.drop 0 cs1)))] [(D.val (Value.bool false))]) ∧
 (k [(D.val (Value.bool false))])))
 False)
 (k [(D.val (Value.bool false))]))) ∨
 ((Says C 21 [D.nil, (D.sl (n1) 1 (List.take (n1 * 1) (List.drop 0 l1)))] [(D.sl (n4) 2 (cs1)), (D.val (Value.bool false))]) ∧
 (bcase (n2 == 8)
 (k [(D.val (Value.bool true))])
 (k [(D.val (Value.bool false))])))))))
 False)))))))) ∨
 (∃ n2 : Nat,
 (∃ cs1 : List Go.Value,
 (∃ n3 : Int,
 ((Says C 20 [(D.sl 0 1 []), (D.sl (n1) 1 (List.take (n1 * 1) (List.drop 0 (List.take (n1 * 1) (List.drop 0 l1)))))] [(D.sl (n2) 2 (cs1)), (D.val (vI n3))]) ∧
 (∃ n4 : Int,
 ((Says C 17 [D.nil] [(D.val (vI n4))]) ∧
 (bcase (n4 == 0)
 (bcase (decide (0 + n1 * 1 ≤ List.length l1))
 (∃ n5 : Int,
 ((Says C 17 [(D.sl (n1) 1 (List.take (n1 * 1) (List.drop 0 l1)))] [(D.val (vI n5))]) ∧
 (bcase (n5 == 0)
 (bcase ((↑0 : Int) != (↑n1 : Int))
 (bcase (n3 == 10)
 (bcase ((↑n2 : Int) == 0)
 (k [(D.val (Value.bool true))])
 (k [(D.val (Value.bool false))]))
 (k [(D.val (Value.bool false))]))
 (bcase (n5 != 0)
 (bcase (n3 == n5)
 (bcase ((↑n2 : Int) == 0)
 (k [(D.val (Value.bool true))])
 (k [(D.val (Value.bool false))]))
 (k [(D.val (Value.bool false))]))
 (bcase (decide (0 + n1 * 1 ≤ List.length l1))
 ((((Says C 21 [D.nil, (D.sl (n1) 1 (List.take (n1 * 1) (List.drop 0 l1)))] [D.nil, (D.val (Value.bool true))]) ∧
 (bcase (n3 == 0)
 (bcase (decide (0 + n2 * 2 ≤ List.length cs1))
 (((Says C 22 [(D.sl (n2) 2 (List.take (n2 * 2) (List.drop 0 cs1))), D.nil] [(D.val (Value.bool true))]) ∧
 (k [(D.val (Value.bool true))])) ∨
 ((Says C 22 [(D.sl (n2) 2 (List.take (n2 * 2) (List.drop 0 cs1))), D.nil] [(D.val (Value.bool false))]) ∧
 (k [(D.val (Value.bool false))])))
 False)
 (k [(D.val (Value.bool false))]))) ∨
 ((Says C 21 [D.nil, (D.sl (n1) 1 (List.take (n1 * 1) (List.drop 0 l1)))] [D.nil, (D.val (Value.bool false))]) ∧
 (bcase (n3 == 8)
 (bcase ((↑n2 : Int) == 0)
 (k [(D.val (Value.bool true))])
 (k [(D.val (Value.bool false))]))
 (k [(D.val (Value.bool false))])))) ∨
 (∃ n6 : Nat,
 (∃ cs2 : List Go.Value,
 (((Says C 21 [D.nil, (D.sl (n1) 1 (List.take (n1 * 1) (List.drop 0 l1)))] [(D.sl (n6) 2 (cs2)), (D.val (Value.bool true))]) ∧
 (bcase (n3 == 0)
 (bcase (decide (0 + n2 * 2 ≤ List.length cs1))
 (bcase (decide (0 + n6 * 2 ≤ List.length cs2))
 (((Says C 22 [(D.sl (n2) 2 (List.take (n2 * 2) (List.drop 0 cs1))), (D.sl (n6) 2 (List.take (n6 * 2) (List.drop 0 cs2)))] [(D.val (Value.bool true))]) ∧
 (k [(D.val (Value.bool true))])) ∨
 ((Says C 22 [(D.sl (n2) 2 (List.take (n2 * 2) (List.drop 0 cs1))), (D.sl (n6) 2 (List.take (n6 * 2) (List.drop 0 cs2)))] [(D.val (Value.bool false))]) ∧
 (k [(D.val (Value.bool false))])))
 False)
 False)
 (k [(D.val (Value.bool false))]))) ∨
 ((Says C 21 [D.nil, (D.sl (n1) 1 (List.take (n1 * 1) (List.drop 0 l1)))] [(D.sl (n6) 2 (cs2)), (D.val (Value.bool false))]) ∧
 (bcase (n3 == 8)
 (bcase ((↑n2 : Int) == 0)
 (k [(D.val (Value.bool true))])
 (k [(D.val (Value.bool false))]))
 (k [(D.val (Value.bool false))])))))))
 False)))
 (bcase (n5 != 0)
 (bcase (n3 == n5)
 (bcase ((↑n2 : Int) == 0)
 (k [(D.val (Value.bool true))])
 (k [(D.val (Value.bool false))]))
 (k [(D.val (Value.bool false))]))
 (bcase (decide (0 + n1 * 1 ≤ List.length l1))
 ((((Says C 21 [D.nil, (D.sl (n1) 1 (List.take (n1 * 1) (List.drop 0 l1)))] [D.nil, (D.val (Value.bool true))]) ∧
 (bcase (n3 == 0)
 (bcase (decide (0 + n2 * 2 ≤ List.length cs1))
 (((Says C 22 [(D.sl (n2) 2 (List.take (n2 * 2) (List.drop 0 cs1))), D.nil] [(D.val (Value.bool true))]) ∧
 (k [(D.val (Value.bool true))])) ∨
 ((Says C 22 [(D.sl (n2) 2 (List.take (n2 * 2) (List.drop 0 cs1))), D.nil] [(D.val (Value.bool false))]) ∧
 (k [(D.val (Value.bool false))])))
 False)
 (k [(D.val (Value.bool false))]))) ∨
 ((Says C 21 [D.nil, (D.sl (n1) 1 (List.take (n1 * 1) (List.drop 0 l1)))] [D.nil, (D.val (Value.bool false))]) ∧
 (bcase (n3 == 8)
 (bcase ((↑n2 : Int) == 0)
 (k [(D.val (Value.bool true))])
 (k [(D.val (Value.bool false))]))
 (k [(D.val (Value.bool false))])))) ∨
 (∃ n6 : Nat,
 (∃ cs2 : List Go.Value,
 (((Says C 21 [D.nil, (D.sl (n1) 1 (List.take (n1 * 1) (List.drop 0 l1)))] [(D.sl (n6) 2 (cs2)), (D.val (Value.bool true))]) ∧
 (bcase (n3 == 0)
 (bcase (decide (0 + n2 * 2 ≤ List.length cs1))
 (bcase (decide (0 + n6 * 2 ≤ List.length cs2))
 (((Says C 22 [(D.sl (n2) 2 (List.take (n2 * 2) (List.drop 0 cs1))), (D.sl (n6) 2 (List.take (n6 * 2) (List.drop 0 cs2)))] [(D.val (Value.bool true))]) ∧
 (k [(D.val (Value.bool true))])) ∨
 ((Says C 22 [(D.sl (n2) 2 (List.take (n2 * 2) (List.drop 0 cs1))), (D.sl (n6) 2 (List.take (n6 * 2) (List.drop 0 cs2)))] [(D.val (Value.bool false))]) ∧
 (k [(D.val (Value.bool false))])))
 False)
 False)
 (k [(D.val (Value.bool false))]))) ∨
 ((Says C 21 [D.nil, (D.sl (n1) 1 (List.take (n1 * 1) (List.drop 0 l1)))] [(D.sl (n6) 2 (cs2)), (D.val (Value.bool false))]) ∧
 (bcase (n3 == 8)
 (bcase ((↑n2 : Int) == 0)
 (k [(D.val (Value.bool true))])
 (k [(D.val (Value.bool false))]))
 (k [(D.val (Value.bool false))])))))))
 False)))))
 False)
 (bcase (n4 == 0)
 (bcase ((↑0 : Int) != (↑n1 : Int))
 (bcase (n3 == 10)
 (bcase ((↑n2 : Int) == 0)
 (k [(D.val (Value.bool true))])
 (k [(D.val (Value.bool false))]))
 (k [(D.val (Value.bool false))]))
 (bcase (n4 != 0)
 (bcase (n3 == n4)
 (bcase ((↑n2 : Int) == 0)
 (k [(D.val (Value.bool true))])
 (k [(D.val (Value.bool false))]))
 (k [(D.val (Value.bool false))]))
 (bcase (decide (0 + n1 * 1 ≤ List.length l1))
 ((((Says C 21 [D.nil, (D.sl (n1) 1 (List.take (n1 * 1) (List.drop 0 l1)))] [D.nil, (D.val (Value.bool true))]) ∧
 (bcase (n3 == 0)
 (bcase (decide (0 + n2 * 2 ≤ List.length cs1))
 (((Says C 22 [(D.sl (n2) 2 (List.take (n2 * 2) (List.drop 0 cs1))), D.nil] [(D.val (Value.bool true))]) ∧
 (k [(D.val (Value.bool true))])) ∨
 ((Says C 22 [(D.sl (n2) 2 (List.take (n2 * 2) (List.drop 0 cs1))), D.nil] [(D.val (Value.bool false))]) ∧
 (k [(D.val (Value.bool false))])))
 False)
 (k [(D.val (Value.bool false))]))) ∨
 ((Says C 21 [D.nil, (D.sl (n1) 1 (List.take (n1 * 1) (List.drop 0 l1)))] [D.nil, (D.val (Value.bool false))]) ∧
 (bcase (n3 == 8)
 (bcase ((↑n2 : Int) == 0)
 (k [(D.val (Value.bool true))])
 (k [(D.val (Value.bool false))]))
 (k [(D.val (Value.bool false))])))) ∨
 (∃ n5 : Nat,
 (∃ cs2 : List Go.Value,
 (((Says C 21 [D.nil, (D.sl (n1) 1 (List.take (n1 * 1) (List.drop 0 l1)))] [(D.sl (n5) 2 (cs2)), (D.val (Value.bool true))]) ∧
 (bcase (n3 == 0)
 (bcase (decide (0 + n2 * 2 ≤ List.length cs1))
 (bcase (decide (0 + n5 * 2 ≤ List.length cs2))
 (((Says C 22 [(D.sl (n2) 2 (List.take (n2 * 2) (List.drop 0 cs1))), (D.sl (n5) 2 (List.take (n5 * 2) (List.drop 0 cs2)))] [(D.val (Value.bool true))]) ∧
 (k [(D.val (Value.bool true))])) ∨
 ((Says C 22 [(D.sl (n2) 2 (List.take (n2 * 2) (List.drop 0 cs1))), (D.sl (n5) 2 (List.take (n5 * 2) (List.drop 0 cs2)))] [(D.val (Value.bool false))]) ∧
 (k [(D.val (Value.bool false))])))
 False)
 False)
 (k [(D.val (Value.bool false))]))) ∨
 ((Says C 21 [D.nil, (D.sl (n1) 1 (List.take (n1 * 1) (List.drop 0 l1)))] [(D.sl (n5) 2 (cs2)), (D.val (Value.bool false))]) ∧
 (bcase (n3 == 8)
 (bcase ((↑n2 : Int) == 0)
 (k [(D.val (Value.bool true))])
 (k [(D.val (Value.bool false))]))
 (k [(D.val (Value.bool false))])))))))
 False)))
 (bcase (n4 != 0)
 (bcase (n3 == n4)
 (bcase ((↑n2 : Int) == 0)
 (k [(D.val (Value.bool true))])
 (k [(D.val (Value.bool false))]))
 (k [(D.val (Value.bool false))]))
 (bcase (decide (0 + n1 * 1 ≤ List.length l1))
 ((((Says C 21 [D.nil, (D.sl (n1) 1 (List.take (n1 * 1) (List.drop 0 l1)))] [D.nil, (D.val (Value.bool true))]) ∧
 (bcase (n3 == 0)
 (bcase (decide (0 + n2 * 2 ≤ List.length cs1))
 (((Says C 22 [(D.sl (n2) 2 (List.take (n2 * 2) (List.drop 0 cs1))), D.nil] [(D.val (Value.bool true))]) ∧
 (k [(D.val (Value.bool true))])) ∨
 ((Says C 22 [(D.sl (n2) 2 (List.take (n2 * 2) (List.drop 0 cs1))), D.nil] [(D.val (Value.bool false))]) ∧
 (k [(D.val (Value.bool false))])))
 False)
 (k [(D.val (Value.bool false))]))) ∨
 ((Says C 21 [D.nil, (D.sl (n1) 1 (List.take (n1 * 1) (List.drop 0 l1)))] [D.nil, (D.val (Value.bool false))]) ∧
 (bcase (n3 == 8)
 (bcase ((↑n2 : Int) == 0)
 (k [(D.val (Value.bool true))])
 (k [(D.val (Value.bool false))]))
 (k [(D.val (Value.bool false))])))) ∨
 (∃ n5 : Nat,
 (∃ cs2 : List Go.Value,
 (((Says C 21 [D.nil, (D.sl (n1) 1 (List.take (n1 * 1) (List.drop 0 l1)))] [(D.sl (n5) 2 (cs2)), (D.val (Value.bool true))]) ∧
 (bcase (n3 == 0)
 (bcase (decide (0 + n2 * 2 ≤ List.length cs1))
 (bcase (decide (0 + n5 * 2 ≤ List.length cs2))
 (((Says C 22 [(D.sl (n2) 2 (List.take (n2 * 2) (List.drop 0 cs1))), (D.sl (n5) 2 (List.take (n5 * 2) (List.drop 0 cs2)))] [(D.val (Value.bool true))]) ∧
 (k [(D.val (Value.bool true))])) ∨
 ((Says C 22 [(D.sl (n2) 2 (List.take (n2 * 2) (List.drop 0 cs1))), (D.sl (n5) 2 (List.take (n5 * 2) (List.drop 0 cs2)))] [(D.val (Value.bool false))]) ∧
 (k [(D.val (Value.bool false))])))
 False)
 False)
 (k [(D.val (Value.bool false))]))) ∨
 ((Says C 21 [D.nil, (D.sl (n1) 1 (List.take (n1 * 1) (List.drop 0 l1)))] [(D.sl (n5) 2 (cs2)), (D.val (Value.bool false))]) ∧
 (bcase (n3 == 8)
 (bcase ((↑n2 : Int) == 0)
 (k [(D.val (Value.bool true))])
 (k [(D.val (Value.bool false))]))
 (k [(D.val (Value.bool false))])))))))
 False)))))))))))
 False))
 False))) ∨
 ((Says C 13 [(D.sl (n1) 1 (List.take (n1 * 1) (List.drop 0 l1)))] [(D.val (Value.bool false))]) ∧
 (k [(D.val (Value.bool true))])))
 False)) ∨
 ((Says C 13 [D.nil] [(D.val (Value.bool false))]) ∧
 (k [(D.val (Value.bool true))])))) ∨
 ((Says C 12 [] [(D.val (Value.bool false))]) ∧
 (k [(D.val (Value.bool false))]))) := by kernel_rfl
def gLcnn (C : Ct) (L : AtLoop) (k : List D → Prop) : Prop := wpFn Try.prog (hF7 C) L 0 4 #[.slice none 0 0, .slice none 0 0] (heapOf []) (dataK k)
theorem gLcnn_text (C : Ct) (L : AtLoop) (k : List D → Prop) : gLcnn C L k =
 (((Says C 12 [] [(D.val (Value.bool true))]) ∧
 (((Says C 13 [D.nil] [(D.val (Value.bool true))]) ∧
 (((Says C 13 [D.nil] [(D.val (Value.bool true))]) ∧
 ((Says C 15 [D.nil] [(D.sl 0 1 [])]) ∧
 ((Says C 15 [D.nil] [(D.sl 0 1 [])]) ∧
 ((∃ n1 : Int,
 ((Says C 20 [(D.sl 0 1 []), (D.sl 0 1 [])] [D.nil, (D.val (vI n1))]) ∧
 (∃ n2 : Int,
 ((Says C 17 [D.nil] [(D.val (vI n2))]) ∧
 (bcase (n2 == 0)
 (∃ n3 : Int,
 ((Says C 17 [D.nil] [(D.val (vI n3))]) ∧
 (bcase (n3 == 0)
 (bcase (n3 != 0)
 (bcase (n1 == n3)
 (k [(D.val (Value.bool true))])
 (k [(D.val (Value.bool false))]))
 ((((Says C 21 [D.nil, D.nil] [D.nil, (D.val (Value.bool true))]) ∧
 (bcase (n1 == 0)
 (((Says C 22 [D.nil, D.nil] [(D.val (Value.bool true))]) ∧
 (k [(D.val (Value.bool true))])) ∨
 ((Says C 22 [D.nil, D.nil] [(D.val (Value.bool false))]) ∧
 (k [(D.val (Value.bool false))])))
 (k [(D.val (Value.bool false))]))) ∨
 ((Says C 21 [D.nil, D.nil] [D.nil, (D.val (Value.bool false))]) ∧
 (bcase (n1 == 8)
 (k [(D.val (Value.bool true))])
 (k [(D.val (Value.bool false))])))) ∨
 (∃ n4 : Nat,
 (∃ cs1 : List Go.Value,
 (((Says C 21 [D.nil, D.nil] [(D.sl (n4) 2 (cs1)), (D.val (Value.bool true))]) ∧
 (bcase (n1 == 0)
 (bcase (decide (0 + n4 * 2 ≤ List.length cs1))
 (((Says C 22 [D.nil, (D.sl (n4) 2 (List.take (n4 * 2) (List.drop 0 cs1)))] [(D.val (Value.bool true))]) ∧
 (k [(D.val (Value.bool true))])) ∨
 ((Says C 22 [D.nil, (D.sl (n4) 2 (List.take (n4 * 2) (List.drop 0 cs1)))] [(D.val (Value.bool false))]) ∧
 (k [(D.val (Value.bool false))])))
 False)
 (k [(D.val (Value.bool false))]))) ∨
 ((Says C 21 [D.nil, D.nil] [(D.sl (n4) 2 (cs1)), (D.val (Value.bool false))]) ∧
 (bcase (n1 == 8)
 (k [(D.val (Value.bool true))])
 (k [(D.val (Value.bool false))]))))))))
 (bcase (n3 != 0)
 (bcase (n1 == n3)
 (k [(D.val (Value.bool true))])
 (k [(D.val (Value.bool false))]))
 ((((Says C 21 [D.nil, D.nil] [D.nil, (D.val (Value.bool true))]) ∧
 (bcase (n1 == 0)
 (((Says C 22 [D.nil, D.nil] [(D.val (Value.bool true))]) ∧
 (k [(D.val (Value.bool true))])) ∨
 ((Says C 22 [D.nil, D.nil] [(D.val (Value.bool false))]) ∧
 (k [(D.val (Value.bool false))])))
 (k [(D.val (Value.bool false))]))) ∨
 ((Says C 21 [D.nil, D.nil] [D.nil, (D.val (Value.bool false))]) ∧
 (bcase (n1 == 8)
 (k [(D.val (Value.bool true))])
 (k [(D.val (Value.bool false))])))) ∨
 (∃ n4 : Nat,
 (∃ cs1 : List Go.Value,
 (((Says C 21 [D.nil, D.nil] [(D.sl (n4) 2 (cs1)), (D.val (Value.bool true))]) ∧
 (bcase (n1 == 0)
 (bcase (decide (0 + n4 * 2 ≤ List.length cs1))
 (((Says C 22 [D.nil, (D.sl (n4) 2 (List.take (n4 * 2) (List.drop 0 cs1)))] [(D.val (Value.bool true))]) ∧
 (k [(D.val (Value.bool true))])) ∨
 ((Says C 22 [D.nil, (D.sl (n4) 2 (List.take (n4 * 2) (List.drop 0 cs1)))] [(D.val (Value.bool false))]) ∧
 (k [(D.val (Value.bool false))])))
 False)
 (k [(D.val (Value.bool false))]))) ∨
 ((Says C 21 [D.nil, D.nil] [(D.sl (n4) 2 (cs1)), (D.val (Value.bool false))]) ∧
 (bcase (n1 == 8)
 (k [(D.val (Value.bool true))])
 (k [(D.val (Value.bool false))])))))))))))
 (bcase (n2 == 0)
 (bcase (n2 != 0)
 (bcase (n1 == n2)
 (k [(D.val (Value.bool true))])
 (k [(D.val (Value.bool false))]))
 ((((Says C 21 [D.nil, D.nil] [D.nil, (D.val (Value.bool true))]) ∧
 (bcase (n1 == 0)
 (((Says C 22 [D.nil, D.nil] [(D.val (Value.bool true))]) ∧
 (k [(D.val (Value.bool true))])) ∨
 ((Says C 22 [D.nil, D.nil] [(D.val (Value.bool false))]) ∧
 (k [(D.val (Value.bool false))])))
 (k [(D.val (Value.bool false))]))) ∨
 ((Says C 21 [D.nil, D.nil] [D.nil, (D.val (Value.bool false))]) ∧
 (bcase (n1 == 8)
 (k [(D.val (Value.bool true))])
 (k [(D.val (Value.bool false))])))) ∨
 (∃ n3 : Nat,
 (∃ cs1 : List Go.Value,
 (((Says C 21 [D.nil, D.nil] [(D.sl (n3) 2 (cs1)), (D.val (Value.bool true))]) ∧
 (bcase (n1 == 0)
 (bcase (decide (0 + n3 * 2 ≤ List.length cs1))
 (((Says C 22 [D.nil, (D.sl (n3) 2 (List.take (n3 * 2) (List.drop 0 cs1)))] [(D.val (Value.bool true))]) ∧
 (k [(D.val (Value.bool true))])) ∨
 ((Says C 22 [D.nil, (D.sl (n3) 2 (List.take (n3 * 2) (List.drop 0 cs1)))] [(D.val (Value.bool false))]) ∧
 (k [(D.val (Value.bool false))])))
 False)
 (k [(D.val (Value.bool false))]))) ∨
 ((Says C 21 [D.nil, D.nil] [(D.sl (n3) 2 (cs1)), (D.val (Value.bool false))]) ∧
 (bcase (n1 == 8)
 (k [(D.val (Value.bool true))])
 (k [(D.val (Value.bool false))]))))))))
 (bcase (n2 != 0)
 (bcase (n1 == n2)
 (k [(D.val (Value.bool true))])
 (k [(D.val (Value.bool false))]))
 ((((Says C 21 [D.nil, D.nil] [D.nil, (D.val (Value.bool true))]) ∧
 (bcase (n1 == 0)
 (((Says C 22 [D.nil, D.nil] [(D.val (Value.bool true))]) ∧
 (k [(D.val (Value.bool true))])) ∨
 ((Says C 22 [D.nil, D.nil] [(D.val (Value.bool false))]) ∧
 (k [(D.val (Value.bool false))])))
 (k [(D.val (Value.bool false))]))) ∨
 ((Says C 21 [D.nil, D.nil] [D.nil, (D.val (Value.bool false))]) ∧
 (bcase (n1 == 8)
 (k [(D.val (Value.bool true))])
 (k [(D.val (Value.bool false))])))) ∨
 (∃ n3 : Nat,
 (∃ cs1 : List Go.Value,
 (((Says C 21 [D.nil, D.nil] [(D.sl (n3) 2 (cs1)), (D.val (Value.bool true))]) ∧
 (bcase (n1 == 0)
 (bcase (decide (0 + n3 * 2 ≤ List.length cs1))
 (((Says C 22 [D.nil, (D.sl (n3) 2 (List.take (n3 * 2) (List.drop 0 cs1)))] [(D.val (Value.bool true))]) ∧
 (k [(D.val (Value.bool true))])) ∨
 ((Says C 22 [D.nil, (D.sl (n3) 2 (List.take (n3 * 2) (List.drop 0 cs1)))] [(D.val (Value.bool false))]) ∧
 (k [(D.val (Value.bool false))])))
 False)
 (k [(D.val (Value.bool false))]))) ∨
 ((Says C 21 [D.nil, D.nil] [(D.sl (n3) 2 (cs1)), (D.val (Value.bool false))]) ∧
 (bcase (n1 == 8)
 (k [(D.val (Value.bool true))])
 (k [(D.val (Value.bool false))])))))))))))))) ∨
 (∃ n1 : Nat,
 (∃ cs1 : List Go.Value,
 (∃ n2 : Int,
 ((Says C 20 [(D.sl 0 1 []), (D.sl 0 1 [])] [(D.sl (n1) 2 (cs1)), (D.val (vI n2))]) ∧
 (∃ n3 : Int,
 ((Says C 17 [D.nil] [(D.val (vI n3))]) ∧
 (bcase (n3 == 0)
 (∃ n4 : Int,
 ((Says C 17 [D.nil] [(D.val (vI n4))]) ∧
 (bcase (n4 == 0)
 (bcase (n4 != 0)
 (bcase (n2 == n4)
 (bcase ((↑n1 : Int) == 0)
 (k [(D.val (Value.bool true))])
 (k [(D.val (Value.bool false))]))
 (k [(D.val (Value.bool false))]))
 ((((Says C 21 [D.nil, D.nil] [D.nil, (D.val (Value.bool true))]) ∧
 (bcase (n2 == 0)
 (bcase (decide (0 + n1 * 2 ≤ List.length cs1))
 (((Says C 22 [(D.sl (n1) 2 (List.take (n1 * 2) (List.drop 0 cs1))), D.nil] [(D.val (Value.bool true))]) ∧
 (k [(D.val (Value.bool true))])) ∨
 ((Says C 22 [(D.sl (n1) 2 (List.take (n1 * 2) (List.drop 0 cs1))), D.nil] [(D.val (Value.bool false))]) ∧
 (k [(D.val (Value.bool false))])))
 False)
 (k [(D.val (Value.bool false))]))) ∨
 ((Says C 21 [D.nil, D.nil] [D.nil, (D.val (Value.bool false))]) ∧
 (bcase (n2 == 8)
 (bcase ((↑n1 : Int) == 0)
 (k [(D.val (Value.bool true))])
 (k [(D.val (Value.bool false))]))
 (k [(D.val (Value.bool false))])))) ∨
 (∃ n5 : Nat,
 (∃ cs2 : List Go.Value,
 (((Says C 21 [D.nil, D.nil] [(D.sl (n5) 2 (cs2)), (D.val (Value.bool true))]) ∧
 (bcase (n2 == 0)
 (bcase (decide (0 + n1 * 2 ≤ List.length cs1))
 (bcase (decide (0 + n5 * 2 ≤ List.length cs2))
 (((Says C 22 [(D.sl (n1) 2 (List.take (n1 * 2) (List.drop 0 cs1))), (D.sl (n5) 2 (List.take (n5 * 2) (List.drop 0 cs2)))] [(D.val (Value.bool true))]) ∧
 (k [(D.val (Value.bool true))])) ∨
 ((Says C 22 [(D.sl (n1) 2 (List.take (n1 * 2) (List.drop 0 cs1))), (D.sl (n5) 2 (List.take (n5 * 2) (List.drop 0 cs2)))] [(D.val (Value.bool false))]) ∧
 (k [(D.val (Value.bool false))])))
 False)
 False)
 (k [(D.val (Value.bool false))]))) ∨
 ((Says C 21 [D.nil, D.nil] [(D.sl (n5) 2 (cs2)), (D.val (Value.bool false))]) ∧
 (bcase (n2 == 8)
 (bcase ((↑n1 : Int) == 0)
 (k [(D.val (Value.bool true))])
 (k [(D.val (Value.bool false))]))
 (k [(D.val (Value.bool false))]))))))))
 (bcase (n4 != 0)
 (bcase (n2 == n4)
 (bcase ((↑n1 : Int) == 0)
 (k [(D.val (Value.bool true))])
 (k [(D.val (Value.bool false))]))
 (k [(D.val (Value.bool false))]))
 ((((Says C 21 [D.nil, D.nil] [D.nil, (D.val (Value.bool true))]) ∧
 (bcase (n2 == 0)
 (bcase (decide (0 + n1 * 2 ≤ List.length cs1))
 (((Says C 22 [(D.sl (n1) 2 (List.take (n1 * 2) (List.drop 0 cs1))), D.nil] [(D.val (Value.bool true))]) ∧
 (k [(D.val (Value.bool true))])) ∨
 ((Says C 22 [(D.sl (n1) 2 (List.take (n1 * 2) (List.drop 0 cs1))), D.nil] [(D.val (Value.bool false))]) ∧
 (k [(D.val (Value.bool false))])))
 False)
 (k [(D.val (Value.bool false))]))) ∨
 ((Says C 21 [D.nil, D.nil] [D.nil, (D.val (Value.bool false))]) ∧
 (bcase (n2 == 8)
 (bcase ((↑n1 : Int) == 0)
 (k [(D.val (Value.bool true))])
 (k [(D.val (Value.bool false))]))
 (k [(D.val (Value.bool false))])))) ∨
 (∃ n5 : Nat,
 (∃ cs2 : List Go.Value,
 (((Says C 21 [D.nil, D.nil] [(D.sl (n5) 2 (cs2)), (D.val (Value.bool true))]) ∧
 (bcase (n2 == 0)
 (bcase (decide (0 + n1 * 2 ≤ List.length cs1))
 (bcase (decide (0 + n5 * 2 ≤ List.length cs2))
 (((Says C 22 [(D.sl (n1) 2 (List.take (n1 * 2) (List.drop 0 cs1))), (D.sl (n5) 2 (List.take (n5 * 2) (List.drop 0 cs2)))] [(D.val (Value.bool true))]) ∧
 (k [(D.val (Value.bool true))])) ∨
 ((Says C 22 [(D.sl (n1) 2 (List.take (n1 * 2) (List.drop 0 cs1))), (D.sl (n5) 2 (List.take (n5 * 2) (List.drop 0 cs2)))] [(D.val (Value.bool false))]) ∧
 (k [(D.val (Value.bool false))])))
 False)
 False)
 (k [(D.val (Value.bool false))]))) ∨
 ((Says C 21 [D.nil, D.nil] [(D.sl (n5) 2 (cs2)), (D.val (Value.bool false))]) ∧
 (bcase (n2 == 8)
 (bcase ((↑n1 : Int) == 0)
 (k [(D.val (Value.bool true))])
 (k [(D.val (Value.bool false))]))
 (k [(D.val (Value.bool false))])))))))))))
 (bcase (n3 == 0)
 (bcase (n3 != 0)
 (bcase (n2 == n3)
 (bcase ((↑n1 : Int) == 0)
 (k [(D.val (Value.bool true))])
 (k [(D.val (Value.bool false))]))
 (k [(D.val (Value.bool false))]))
 ((((Says C 21 [D.nil, D.nil] [D.nil, (D.val (Value.bool true))]) ∧
 (bcase (n2 == 0)
 (bcase (decide (0 + n1 * 2 ≤ List.length cs1))
 (((Says C 22 [(D.sl (n1) 2 (List.take (n1 * 2) (List.drop 0 cs1))), D.nil] [(D.val (Value.bool true))]) ∧
 (k [(D.val (Value.bool true))])) ∨
 ((Says C 22 [(D.sl (n1) 2 (List.take (n1 * 2) (List.drop 0 cs1))), D.nil] [(D.val (Value.bool false))]) ∧
 (k [(D.val (Value.bool false))])))
 False)
 (k [(D.val (Value.bool false))]))) ∨
 ((Says C 21 [D.nil, D.nil] [D.nil, (D.val (Value.bool false))]) ∧
 (bcase (n2 == 8)
 (bcase ((↑n1 : Int) == 0)
 (k [(D.val (Value.bool true))])
 (k [(D.val (Value.bool false))]))
 (k [(D.val (Value.bool false))])))) ∨
 (∃ n4 : Nat,
 (∃ cs2 : List Go.Value,
 (((Says C 21 [D.nil, D.nil] [(D.sl (n4) 2 (cs2)), (D.val (Value.bool true))]) ∧
 (bcase (n2 == 0)
 (bcase (decide (0 + n1 * 2 ≤ List.length cs1))
 (bcase (decide (0 + n4 * 2 ≤ List.length cs2))
 (((Says C 22 [(D.sl (n1) 2 (List.take (n1 * 2) (List.drop 0 cs1))), (D.sl (n4) 2 (List.take (n4 * 2) (List.drop 0 cs2)))] [(D.val (Value.bool true))]) ∧
 (k [(D.val (Value.bool true))])) ∨
 ((Says C 22 [(D.sl (n1) 2 (List.take (n1 * 2) (List.drop 0 cs1))), (D.sl (n4) 2 (List.take (n4 * 2) (List.drop 0 cs2)))] [(D.val (Value.bool false))]) ∧
 (k [(D.val (Value.bool false))])))
 False)
 False)
 (k [(D.val (Value.bool false))]))) ∨
 ((Says C 21 [D.nil, D.nil] [(D.sl (n4) 2 (cs2)), (D.val (Value.bool false))]) ∧
 (bcase (n2 == 8)
 (bcase ((↑n1 : Int) == 0)
 (k [(D.val (Value.bool true))])
 (k [(D.val (Value.bool false))]))
 (k [(D.val (Value.bool false))]))))))))
 (bcase (n3 != 0)
 (bcase (n2 == n3)
 (bcase ((↑n1 : Int) == 0)
 (k [(D.val (Value.bool true))])
 (k [(D.val (Value.bool false))]))
 (k [(D.val (Value.bool false))]))
 ((((Says C 21 [D.nil, D.nil] [D.nil, (D.val (Value.bool true))]) ∧
 (bcase (n2 == 0)
 (bcase (decide (0 + n1 * 2 ≤ List.length cs1))
 (((Says C 22 [(D.sl (n1) 2 (List.take (n1 * 2) (List.drop 0 cs1))), D.nil] [(D.val (Value.bool true))]) ∧
 (k [(D.val (Value.bool true))])) ∨
 ((Says C 22 [(D.sl (n1) 2 (List.take (n1 * 2) (List.drop 0 cs1))), D.nil] [(D.val (Value.bool false))]) ∧
 (k [(D.val (Value.bool false))])))
 False)
 (k [(D.val (Value.bool false))]))) ∨
 ((Says C 21 [D.nil, D.nil] [D.nil, (D.val (Value.bool false))]) ∧
 (bcase (n2 == 8)
 (bcase ((↑n1 : Int) == 0)
 (k [(D.val (Value.bool true))])
 (k [(D.val (Value.bool false))]))
 (k [(D.val (Value.bool false))])))) ∨
 (∃ n4 : Nat,
 (∃ cs2 : List Go.Value,
 (((Says C 21 [D.nil, D.nil] [(D.sl (n4) 2 (cs2)), (D.val (Value.bool true))]) ∧
 (bcase (n2 == 0)
 (bcase (decide (0 + n1 * 2 ≤ List.length cs1))
 (bcase (decide (0 + n4 * 2 ≤ List.length cs2))
 (((Says C 22 [(D.sl (n1) 2 (List.take (n1 * 2) (List.drop 0 cs1))), (D.sl (n4) 2 (List.take (n4 * 2) (List.drop 0 cs2)))] [(D.val (Value.bool true))]) ∧
 (k [(D.val (Value.bool true))])) ∨
 ((Says C 22 [(D.sl (n1) 2 (List.take (n1 * 2) (List.drop 0 cs1))), (D.sl (n4) 2 (List.take (n4 * 2) (List.drop 0 cs2)))] [(D.val (Value.bool false))]) ∧
 (k [(D.val (Value.bool false))])))
 False)
 False)
 (k [(D.val (Value.bool false))]))) ∨
 ((Says C 21 [D.nil, D.nil] [(D.sl (n4) 2 (cs2)), (D.val (Value.bool false))]) ∧
 (bcase (n2 == 8)
 (bcase ((↑n1 : Int) == 0)
 (k [(D.val (Value.bool true))])
 (k [(D.val (Value.bool false))]))
 (k [(D.val (Value.bool false))])))))))))))))))))))) ∨
 ((Says C 13 [D.nil] [(D.val (Value.bool false))]) ∧
 (k [(D.val (Value.bool true))])))) ∨
 ((Says C 13 [D.nil] [(D.val (Value.bool false))]) ∧
 (k [(D.val (Value.bool true))])))) ∨
 ((Says C 12 [] [(D.val (Value.bool false))]) ∧
 (k [(D.val (Value.bool false))]))) := by kernel_rfl
end Go.Proofs.G5f

/- Chapter 7: changes of length, in data. -/
namespace Go.Proofs.G5f
open Go Go.Abs Go.Proofs Go.Proofs.G7
set_option maxRecDepth 100000
theorem m9 : (-(999999999 + 1) : Int) = -1000000000 := by decide
/-- pairs that are compared -/
theorem bp_eq {a b c d : Int} {x y : Prop} (h : a = c ∧ b = d) : bcase (!(a == c && (b == d && true))) x y = y := by
  rw [h.1, h.2]; simp [bcase]
theorem bp_ne {a b c d : Int} {x y : Prop} (h : ¬ (a = c ∧ b = d)) : bcase (!(a == c && (b == d && true))) x y = x := by
  have : (a == c && b == d) = false := by
    rw [Bool.and_eq_false_iff]
    by_cases h1 : a = c
    · exact .inr (by simpa using fun h2 => h ⟨h1, h2⟩)
    · exact .inl (by simpa using h1)
  simp [bcase, this]
/-- is a fraction small -/
def sm (f : Int × Int) : Prop := (-1000000000 ≤ f.1 ∧ f.1 ≤ 1000000000) ∧ (-1000000000 ≤ f.2 ∧ f.2 ≤ 1000000000)
instance (f : Int × Int) : Decidable (sm f) := by unfold sm; infer_instance
theorem conSE {n d : Int} (hn : -4611686018427387904 ≤ n ∧ n ≤ 4611686018427387904) (hd : -4611686018427387904 ≤ d ∧ d ≤ 4611686018427387904) (h0 : 0 < d) : C5 73 [dI n, dI d] (if sm (low n d) then [dF (low n d), dI 0] else [dF (0, 0), dI 8]) := by
  refine con_flat hok mixed Try.func73 rfl (by show 0 ≤ 400; omega) rfl (by kernel_rfl) (fun caps => ?_)
  show gSE _ _ n d _
  rw [gSE_text, m9]
  try simp only [eq_self, true_and]
  refine ⟨_, _, ⟨conLT n d hn hd h0⟩, _, wit2_say, ?_⟩
  by_cases h : sm (low n d)
  · have e : (if (-1000000000 ≤ (low n d).1 ∧ (low n d).1 ≤ 1000000000) ∧ (-1000000000 ≤ (low n d).2 ∧ (low n d).2 ≤ 1000000000) then (0 : Int) else 2) = 0 := if_pos h
    rw [e, if_pos h]
    simp [bcase]
  · have e : (if (-1000000000 ≤ (low n d).1 ∧ (low n d).1 ≤ 1000000000) ∧ (-1000000000 ≤ (low n d).2 ∧ (low n d).2 ≤ 1000000000) then (0 : Int) else 2) = 2 := if_neg h
    rw [e, if_neg h]
    simp [bcase]
theorem conIS (f : Int × Int) (h0 : 0 < f.2) : C5 27 [dF f] [.val (.bool (decide (sm f)))] := by
  refine con_flat hok mixed Try.func27 rfl (by show 0 ≤ 400; omega) rfl (by kernel_rfl) (fun caps => ?_)
  show gIS _ _ f.1 f.2 _
  rw [gIS_text, m9]
  try simp only [eq_self, true_and]
  by_cases h1 : -1000000000 ≤ f.1 ∧ f.1 ≤ 1000000000
  · by_cases h2 : 1 ≤ f.2 ∧ f.2 ≤ 1000000000
    · have : sm f := ⟨h1, by omega⟩
      exact .inl ⟨sayWt h1, .inl ⟨sayWt h2, by rw [decide_eq_true this]⟩⟩
    · have : ¬ sm f := fun h => h2 ⟨by omega, h.2.2⟩
      exact .inl ⟨sayWt h1, .inr ⟨sayWf h2, by rw [decide_eq_false this]⟩⟩
  · have : ¬ sm f := fun h => h1 h.1
    exact .inr ⟨sayWf h1, by rw [decide_eq_false this]⟩
theorem conFr (l m : List (Int × Int)) (hl : l.length < 1000000000) : C5 22 [.sl l.length 2 (vp l), .sl m.length 2 (vp m)] [.val (.bool (decide (l = m)))] := by
  let inv : Nat × Nat × Nat → Prop := fun x => x.1 ≤ l.length ∧ l.length = m.length ∧ (l = m ↔ l.drop x.1 = m.drop x.1)
  let st : Nat × Nat × Nat → Slots × Blocks := fun x => zFr1 l.length x.2.1 m.length x.2.2 x.1 (vp l) (vp m)
  refine con_of (L := fun _ s b => ∃ x, inv x ∧ st x = (s, b)) hok mixed Try.func22 rfl (by show 2 ≤ 400; omega) rfl (ids := [0]) (by kernel_rfl) rfl (fun caps => ?_) (fun id hid => ?_)
  · show gFr _ _ l.length (caps 500) (vp l) m.length (caps 501) (vp m) _
    rw [gFr_text]
    refine bc_bne (fun h => ?_) (fun h => ?_)
    · show _ = _
      rw [decide_eq_false (fun e => h (by rw [e]))]
    · exact ⟨(0, caps 500, caps 501), ⟨Nat.zero_le _, by show l.length = m.length; omega, Iff.rfl⟩, rfl⟩
  · obtain rfl := List.mem_singleton.1 hid
    refine ⟨Nat × Nat × Nat, st, inv, fun x => l.length - x.1, ⟨fun s b h => h, by kernel_rfl, ?_⟩⟩
    rintro ⟨i, c1, c2⟩ ⟨hi, hlm, hr⟩
    simp only at hi hr
    show rFr1 _ _ l.length c1 m.length c2 (i : Int) (vp l) (vp m) _ _ _
    rw [rFr1_text]
    refine bc_dec (fun h => ?_) (fun h => ?_)
    · have h1 : i < l.length := by omega
      have h2 : i < m.length := by omega
      rw [List.drop_eq_getElem_cons h1, List.drop_eq_getElem_cons h2] at hr
      simp only [bc_t h, bc_t (show (i : Int) < (m.length : Int) by omega), bc_t (show (0 : Int) ≤ (i : Int) by omega), Int.toNat_natCast, at2 (vp_two l i h1), at2 (vp_two m i h2), if_true, eq_self, true_and, and_true]
      by_cases hc : l[i].1 = m[i].1 ∧ l[i].2 = m[i].2
      · rw [bp_eq hc, bp_eq hc]
        refine ⟨trivial, ⟨i + 1, c1, c2⟩, ⟨by show i + 1 ≤ l.length; omega, hlm, ?_⟩, by show l.length - (i + 1) < l.length - i; omega, ?_⟩
        · show l = m ↔ l.drop (i + 1) = m.drop (i + 1)
          refine hr.trans ?_
          have : l[i] = m[i] := Prod.ext hc.1 hc.2
          rw [this]
          exact ⟨fun e => (List.cons.inj e).2, fun e => by rw [e]⟩
        · rw [w64 (by omega) (by omega)]; rfl
      · rw [bp_ne hc, bp_ne hc]
        refine ⟨trivial, ?_⟩
        show _ = _
        rw [decide_eq_false (fun e => hc (by have := (List.cons.inj (hr.1 e)).1; rw [this]; exact ⟨rfl, rfl⟩))]
    · show (if 0 = 0 then _ else _)
      rw [if_pos rfl]
      show nFr2 _ _ _
      rw [nFr2_text]
      show _ = _
      have e1 : l.drop i = [] := List.drop_eq_nil_of_le (by omega)
      have e2 : m.drop i = [] := List.drop_eq_nil_of_le (by omega)
      rw [decide_eq_true (hr.2 (by rw [e1, e2]))]
/-- changes of length -/
def chF (p q : List Int) (i : Nat) : Int × Int := low (gt p i * sumI q - gt q i * sumI p) (gt q i * sumI p)
abbrev chS (p q : List Int) (n : Nat) : List (Int × Int) := (List.range n).map (chF p q)
def allS (p q : List Int) : Prop := ∀ i, i < p.length → sm (chF p q i)
instance (p q : List Int) : Decidable (allS p q) := by unfold allS; infer_instance
def chE (p q : List Int) : Int := fst0 [prE p, prE q, sameE p.length q.length]
structure CV (p q : List Int) : Prop where
  l : p.length = q.length
  p : PV p
  q : PV q
theorem chE_ok {p q : List Int} : chE p q = 0 ↔ CV p q := by
  unfold chE
  rw [fst0_zero]
  simp only [List.forall_mem_cons, List.not_mem_nil, false_imp_iff, implies_true, and_true]
  rw [prE_ok, prE_ok]
  unfold sameE
  constructor
  · rintro ⟨h1, h2, h3⟩
    exact ⟨by split at h3 <;> omega, h1, h2⟩
  · intro h
    refine ⟨h.p, h.q, ?_⟩
    have := h.l
    rw [if_neg (by omega)]
def chP (p q : List Int) : List D := if chE p q = 0 then (if allS p q then [.sl p.length 2 (vp (chS p q p.length)), dI 0] else [.nil, dI 8]) else [.nil, dI (chE p q)]
theorem sum_pos : ∀ {l : List Int}, (∀ z ∈ l, 1 ≤ z ∧ z ≤ 100000) → (l.length : Int) ≤ sumI l ∧ sumI l ≤ 100000 * l.length
  | [], _ => by simp [sumI]
  | x :: r, h => by
    have h1 := h x (List.mem_cons_self ..)
    have h2 := sum_pos (l := r) fun z hz => h z (List.mem_cons_of_mem _ hz)
    rw [sumI, List.length_cons]; push_cast; omega
structure Sb (p q : List Int) (i : Nat) : Prop where
  a : 0 ≤ gt p i * sumI q ∧ gt p i * sumI q ≤ 90000000000
  b : 1 ≤ gt q i * sumI p ∧ gt q i * sumI p ≤ 90000000000
theorem sb_of {p q : List Int} (h : CV p q) {i : Nat} (hi : i < p.length) : Sb p q i := by
  have hp := h.p.n; have hq := h.q.n; have hl := h.l
  have s1 := sum_pos h.p.t; have s2 := sum_pos h.q.t
  have g1 := gt_mem (p := fun z => 1 ≤ z ∧ z ≤ 100000) h.p.t hi
  have g2 := gt_mem (p := fun z => 1 ≤ z ∧ z ≤ 100000) h.q.t (i := i) (by omega)
  have key : ∀ a b : Int, 1 ≤ a ∧ a ≤ 100000 → 1 ≤ b ∧ b ≤ 900000 → 1 ≤ a * b ∧ a * b ≤ 90000000000 := by
    intro a b ha hb
    have e1 : a * b ≤ 100000 * b := Int.mul_le_mul_of_nonneg_right ha.2 (by omega)
    have e2 : 1 * b ≤ a * b := Int.mul_le_mul_of_nonneg_right ha.1 (by omega)
    omega
  have k1 := key _ (sumI q) g1 (by omega)
  have k2 := key _ (sumI p) g2 (by omega)
  exact ⟨by omega, k2⟩
theorem chF_den {p q : List Int} (h : CV p q) {i : Nat} (hi : i < p.length) : 0 < (chF p q i).2 := (low_den (by have := (sb_of h hi).b; omega)).1
theorem rp_take (f : Nat → Int × Int) (n : Nat) : List.take (n * 2) (List.drop 0 (vp ((List.range n).map f))) = vp ((List.range n).map f) := by
  rw [List.drop_zero, List.take_of_length_le (by simp)]
theorem vp_app : ∀ l m : List (Int × Int), vp (l ++ m) = vp l ++ vp m
  | [], m => rfl
  | p :: r, m => by simp only [List.cons_append, vp, vp_app r m]
theorem rp_snoc (f : Nat → Int × Int) (n : Nat) : vp ((List.range n).map f) ++ [vI (f n).1, vI (f n).2] = vp ((List.range (n + 1)).map f) := by
  rw [List.range_succ, List.map_append, vp_app]; rfl
theorem bd_thk {l : List Int} (h : PV l) : ∀ z ∈ l, -1000000000 ≤ z ∧ z ≤ 1000000000 := fun z hz => by have := h.t z hz; omega
abbrev cqS (p q : List Int) (c1 c2 : Nat) : Nat → Slots × Blocks
  | 0 => zCh1 q.length c2 (sumI p) (sumI q) p.length c1 p.length 0 (vi q) (vi p)
  | i + 1 => zCh2 q.length c2 (sumI p) (sumI q) (i + 1) p.length c1 p.length ((i + 1 : Nat) : Int) (vi q) (vp (chS p q (i + 1))) (vi p)
theorem conCh (p q : List Int) (hp : p.length ≤ 1000000) (hq : q.length ≤ 1000000) : C5 20 [.sl p.length 1 (vi p), .sl q.length 1 (vi q)] (chP p q) := by
  let inv : Nat × Nat × Nat → Prop := fun y => CV p q ∧ y.1 ≤ p.length ∧ ∀ j, j < y.1 → sm (chF p q j)
  let st : Nat × Nat × Nat → Slots × Blocks := fun y => cqS p q y.2.1 y.2.2 y.1
  refine con_of (L := fun _ s b => ∃ x, inv x ∧ st x = (s, b)) hok mixed Try.func20 rfl (by show 2 ≤ 400; omega) rfl (ids := [0]) (by kernel_rfl) rfl (fun caps => ?_) (fun id hid => ?_)
  · show gCh _ _ p.length (caps 500) (vi p) q.length (caps 501) (vi q) _
    rw [gCh_text]
    simp only [bc_t (v1le p), bc_t (v1le q), vi_whole, eq_self, true_and]
    refine ⟨_, ⟨conCP p hp⟩, _, ⟨conCP q hq⟩, _, ⟨conCS _ _⟩, _, ⟨conFE [prE p, prE q, sameE p.length q.length] (by simp)⟩, ?_⟩
    show bcase (chE p q != 0) _ _
    refine bc_bne (fun h => ?_) (fun h => ?_)
    · rw [chP, if_neg h]; rfl
    · have hv := chE_ok.1 h
      exact ⟨_, ⟨conSu p (by have := hv.p.n; omega) (bd_thk hv.p)⟩, _, ⟨conSu q (by have := hv.q.n; omega) (bd_thk hv.q)⟩, ⟨(0, caps 500, caps 501), ⟨hv, Nat.zero_le _, fun j hj => absurd hj (Nat.not_lt_zero j)⟩, rfl⟩⟩
  · obtain rfl := List.mem_singleton.1 hid
    refine ⟨Nat × Nat × Nat, st, inv, fun y => p.length - y.1, ⟨fun s b h => h, by kernel_rfl, ?_⟩⟩
    rintro ⟨i, c1, c2⟩ ⟨hv, hi, hall⟩
    simp only at hi hall
    have hn := hv.p.n
    have hl := hv.l
    have e0 := chE_ok.2 hv
    have wi : i < p.length → IntKind.wrap .i64 ((i : Int) + 1) = ((i + 1 : Nat) : Int) := fun h => by rw [w64 (by omega) (by omega)]; rfl
    have ws : i < p.length → IntKind.wrap .i64 (gt p i * sumI q) = gt p i * sumI q ∧ IntKind.wrap .i64 (gt q i * sumI p) = gt q i * sumI p ∧ IntKind.wrap .i64 (gt p i * sumI q - gt q i * sumI p) = gt p i * sumI q - gt q i * sumI p := fun h => by
      have sb := sb_of hv h
      have := sb.a; have := sb.b
      exact ⟨w64 (by omega) (by omega), w64 (by omega) (by omega), w64 (by omega) (by omega)⟩
    have cs : i < p.length → C5 73 [dI (gt p i * sumI q - gt q i * sumI p), dI (gt q i * sumI p)] (if sm (chF p q i) then [dF (chF p q i), dI 0] else [dF (0, 0), dI 8]) := fun h => conSE (n := gt p i * sumI q - gt q i * sumI p) (d := gt q i * sumI p) (by have sb := sb_of hv h; have := sb.a; have := sb.b; omega) (by have sb := sb_of hv h; have := sb.b; omega) (by have sb := sb_of hv h; have := sb.b; omega)
    have nxt : i < p.length → sm (chF p q i) → ∀ j, j < i + 1 → sm (chF p q j) := fun _ hs j hj => by
      by_cases e : j = i
      · rw [e]; exact hs
      · exact hall j (by omega)
    cases i with
    | zero =>
      have h0 : 0 < p.length := by omega
      have hp0 := at_gt (u := p) h0
      have hq0 := at_gt (u := q) (i := 0) (by omega)
      have cs := cs h0
      show rCh1 _ _ q.length c2 (sumI p) (sumI q) p.length c1 p.length ((0 : Nat) : Int) (vi q) (vi p) _ _ _
      rw [rCh1_text]
      simp only [bc_t (show ((0 : Nat) : Int) < (p.length : Int) by omega), bc_t (show ((0 : Nat) : Int) < (q.length : Int) by omega), bc_t (show (0 : Int) ≤ ((0 : Nat) : Int) by omega), Int.toNat_natCast, at1 hp0, at1 hq0, (ws h0).1, (ws h0).2.1, (ws h0).2.2, wi h0, eq_self, true_and, and_true]
      by_cases hs : sm (chF p q 0)
      · rw [if_pos hs] at cs
        refine ⟨_, _, _, ⟨cs⟩, bc_bne (fun h => absurd rfl h) (fun _ => ⟨(1, c1, c2), ⟨hv, h0, nxt h0 hs⟩, by show p.length - 1 < p.length - 0; omega, rfl⟩)⟩
      · rw [if_neg hs] at cs
        refine ⟨_, _, _, ⟨cs⟩, bc_bne (fun _ => ?_) (fun h => absurd h (by decide))⟩
        show _ = _
        rw [chP, if_pos e0, if_neg (fun h => hs (h 0 h0))]
    | succ i =>
      show rCh2 _ _ q.length c2 (sumI p) (sumI q) (i + 1) p.length c1 p.length ((i + 1 : Nat) : Int) (vi q) (vp (chS p q (i + 1))) (vi p) _ _ _
      rw [rCh2_text]
      refine bc_dec (fun h => ?_) (fun h => ?_)
      · have h0 : i + 1 < p.length := by omega
        have hp0 := at_gt (u := p) h0
        have hq0 := at_gt (u := q) (i := i + 1) (by omega)
        have cs := cs h0
        simp only [bc_t h, bc_t (show ((i + 1 : Nat) : Int) < (q.length : Int) by omega), bc_t (show (0 : Int) ≤ ((i + 1 : Nat) : Int) by omega), Int.toNat_natCast, at1 hp0, at1 hq0, (ws h0).1, (ws h0).2.1, (ws h0).2.2, wi h0, eq_self, true_and, and_true, rp_take]
        by_cases hs : sm (chF p q (i + 1))
        · rw [if_pos hs] at cs
          refine ⟨_, _, _, ⟨cs⟩, bc_bne (fun h => absurd rfl h) (fun _ => bc_yes (by omega) (bc_yes (by omega) (bc_yes (by omega) (bc_yes (by simp) (bc_yes (by simp) ⟨(i + 2, c1, c2), ⟨hv, h0, nxt h0 hs⟩, by show p.length - (i + 2) < p.length - (i + 1); omega, ?_⟩)))))⟩
          have := rp_snoc (chF p q) (i + 1)
          show cqS p q c1 c2 (i + 1 + 1) = (_, [(501, AObj.sym (vi q) false 1), (1000, AObj.sym (vp (chS p q (i + 1)) ++ [vI (chF p q (i + 1)).1, vI (chF p q (i + 1)).2]) true 2), (500, AObj.sym (vi p) false 1)])
          rw [this]
        · rw [if_neg hs] at cs
          refine ⟨_, _, _, ⟨cs⟩, bc_bne (fun _ => ?_) (fun h => absurd h (by decide))⟩
          show _ = _
          rw [chP, if_pos e0, if_neg (fun h => hs (h _ h0))]
      · show (if 0 = 0 then _ else _)
        rw [if_pos rfl]
        show nCh4 _ _ (i + 1) (vp (chS p q (i + 1))) _
        rw [nCh4_text]
        have : i + 1 = p.length := by omega
        refine ⟨⟨rfl, by simp⟩, ?_⟩
        show _ = _
        rw [chP, if_pos e0, if_pos (show allS p q from fun j hj => hall j (by omega)), ← this]
/-- the changes by the definition -/
def rgP (p q : List Int) : List D := if allS p q then [.sl p.length 2 (vp (chS p q p.length)), .val (.bool true)] else [.nil, .val (.bool false)]
abbrev rqS (p q : List Int) (c1 c2 : Nat) : Nat → Slots × Blocks
  | 0 => zRg1 p.length c1 q.length c2 0 (vi p) (vi q)
  | i + 1 => zRg2 p.length c1 q.length c2 (i + 1) ((i + 1 : Nat) : Int) (vi p) (vi q) (vp (chS p q (i + 1)))
theorem sayIS {f : Int × Int} (h0 : 0 < f.2) (h : sm f) : Says C5 27 [dF f] [.val (.bool true)] := by
  have := conIS f h0
  rw [decide_eq_true h] at this
  exact ⟨this⟩
theorem sayIf {f : Int × Int} (h0 : 0 < f.2) (h : ¬ sm f) : Says C5 27 [dF f] [.val (.bool false)] := by
  have := conIS f h0
  rw [decide_eq_false h] at this
  exact ⟨this⟩
theorem conRg {p q : List Int} (hv : CV p q) : C5 21 [.sl p.length 1 (vi p), .sl q.length 1 (vi q)] (rgP p q) := by
  let inv : Nat × Nat × Nat → Prop := fun y => y.1 ≤ p.length ∧ ∀ j, j < y.1 → sm (chF p q j)
  let st : Nat × Nat × Nat → Slots × Blocks := fun y => rqS p q y.2.1 y.2.2 y.1
  refine con_of (L := fun _ s b => ∃ x, inv x ∧ st x = (s, b)) hok mixed Try.func21 rfl (by show 2 ≤ 400; omega) rfl (ids := [0]) (by kernel_rfl) rfl (fun caps => ?_) (fun id hid => ?_)
  · show gRg _ _ p.length (caps 500) (vi p) q.length (caps 501) (vi q) _
    rw [gRg_text]
    exact ⟨(0, caps 500, caps 501), ⟨Nat.zero_le _, fun j hj => absurd hj (Nat.not_lt_zero j)⟩, rfl⟩
  · obtain rfl := List.mem_singleton.1 hid
    refine ⟨Nat × Nat × Nat, st, inv, fun y => p.length - y.1, ⟨fun s b h => h, by kernel_rfl, ?_⟩⟩
    rintro ⟨i, c1, c2⟩ ⟨hi, hall⟩
    simp only at hi hall
    have hn := hv.p.n
    have hl := hv.l
    have wi : i < p.length → IntKind.wrap .i64 ((i : Int) + 1) = ((i + 1 : Nat) : Int) := fun h => by rw [w64 (by omega) (by omega)]; rfl
    have ws : i < p.length → IntKind.wrap .i64 (gt p i * sumI q) = gt p i * sumI q ∧ IntKind.wrap .i64 (gt q i * sumI p) = gt q i * sumI p ∧ IntKind.wrap .i64 (gt p i * sumI q - gt q i * sumI p) = gt p i * sumI q - gt q i * sumI p := fun h => by
      have sb := sb_of hv h
      have := sb.a; have := sb.b
      exact ⟨w64 (by omega) (by omega), w64 (by omega) (by omega), w64 (by omega) (by omega)⟩
    have cs : i < p.length → C5 70 [dI (gt p i * sumI q - gt q i * sumI p), dI (gt q i * sumI p)] [dF (chF p q i)] := fun h => conLo (gt p i * sumI q - gt q i * sumI p) (gt q i * sumI p) (by have sb := sb_of hv h; have := sb.a; have := sb.b; omega) (by have sb := sb_of hv h; have := sb.b; omega) (by have sb := sb_of hv h; have := sb.b; omega)
    have nxt : i < p.length → sm (chF p q i) → ∀ j, j < i + 1 → sm (chF p q j) := fun _ hs j hj => by
      by_cases e : j = i
      · rw [e]; exact hs
      · exact hall j (by omega)
    have s1 := conRS p (by omega) (bd_thk hv.p)
    have s2 := conRS q (by omega) (bd_thk hv.q)
    cases i with
    | zero =>
      have h0 : 0 < p.length := by omega
      have hp0 := at_gt (u := p) h0
      have hq0 := at_gt (u := q) (i := 0) (by omega)
      have cs := cs h0
      show rRg1 _ _ p.length c1 q.length c2 ((0 : Nat) : Int) (vi p) (vi q) _ _ _
      rw [rRg1_text]
      simp only [bc_t (show ((0 : Nat) : Int) < (p.length : Int) by omega), bc_t (show ((0 : Nat) : Int) < (q.length : Int) by omega), bc_t (show (0 : Int) ≤ ((0 : Nat) : Int) by omega), bc_t (v1le p), bc_t (v1le q), vi_whole, Int.toNat_natCast, at1 hp0, at1 hq0, (ws h0).1, (ws h0).2.1, (ws h0).2.2, wi h0, eq_self, true_and, and_true]
      refine ⟨_, ⟨s1⟩, _, ⟨s2⟩, ?_⟩
      simp only [(ws h0).1, (ws h0).2.1, (ws h0).2.2]
      refine ⟨_, _, ⟨cs⟩, ?_⟩
      by_cases hs : sm (chF p q 0)
      · exact .inl ⟨sayIS (chF_den hv h0) hs, ⟨(1, c1, c2), ⟨h0, nxt h0 hs⟩, by show p.length - 1 < p.length - 0; omega, rfl⟩⟩
      · refine .inr ⟨sayIf (chF_den hv h0) hs, ?_⟩
        first | (show _ = _; rw [rgP, if_neg (fun h => hs (h 0 h0))]) | (rw [rgP, if_neg (fun h => hs (h 0 h0))])
    | succ i =>
      show rRg2 _ _ p.length c1 q.length c2 (i + 1) ((i + 1 : Nat) : Int) (vi p) (vi q) (vp (chS p q (i + 1))) _ _ _
      rw [rRg2_text]
      refine bc_dec (fun h => ?_) (fun h => ?_)
      · have h0 : i + 1 < p.length := by omega
        have hp0 := at_gt (u := p) h0
        have hq0 := at_gt (u := q) (i := i + 1) (by omega)
        have cs := cs h0
        simp only [bc_t h, bc_t (show ((i + 1 : Nat) : Int) < (q.length : Int) by omega), bc_t (show (0 : Int) ≤ ((i + 1 : Nat) : Int) by omega), bc_t (v1le p), bc_t (v1le q), vi_whole, Int.toNat_natCast, at1 hp0, at1 hq0, (ws h0).1, (ws h0).2.1, (ws h0).2.2, wi h0, eq_self, true_and, and_true, rp_take]
        refine ⟨_, ⟨s1⟩, _, ⟨s2⟩, ?_⟩
        simp only [(ws h0).1, (ws h0).2.1, (ws h0).2.2]
        refine ⟨_, _, ⟨cs⟩, ?_⟩
        by_cases hs : sm (chF p q (i + 1))
        · refine .inl ⟨sayIS (chF_den hv h0) hs, bc_yes (by omega) (bc_yes (by omega) (bc_yes (by omega) (bc_yes (by simp) (bc_yes (by simp) ⟨(i + 2, c1, c2), ⟨h0, nxt h0 hs⟩, by show p.length - (i + 2) < p.length - (i + 1); omega, ?_⟩))))⟩
          have := rp_snoc (chF p q) (i + 1)
          show rqS p q c1 c2 (i + 1 + 1) = (_, [(500, AObj.sym (vi p) false 1), (501, AObj.sym (vi q) false 1), (1000, AObj.sym (vp (chS p q (i + 1)) ++ [vI (chF p q (i + 1)).1, vI (chF p q (i + 1)).2]) true 2)])
          rw [this]
        · refine .inr ⟨sayIf (chF_den hv h0) hs, ?_⟩
          first | (show _ = _; rw [rgP, if_neg (fun h => hs (h _ h0))]) | (rw [rgP, if_neg (fun h => hs (h _ h0))])
      · show (if 0 = 0 then _ else _)
        rw [if_pos rfl]
        show nRg4 _ _ (i + 1) (vp (chS p q (i + 1))) _
        rw [nRg4_text]
        have : i + 1 = p.length := by omega
        refine ⟨⟨rfl, by simp⟩, ?_⟩
        show _ = _
        rw [rgP, if_pos (show allS p q from fun j hj => hall j (by omega)), ← this]
end Go.Proofs.G5f

/- Chapter 7: FlatChanges, in data. -/
namespace Go.Proofs.G5f
open Go Go.Abs Go.Proofs Go.Proofs.G7
set_option maxRecDepth 100000
theorem v2leR (l : List (Int × Int)) : 0 + l.length * 2 ≤ (vp l).length := by simp
theorem chE_p {p q : List Int} (h : prE p ≠ 0) : chE p q = prE p := by unfold chE; rw [fst0, if_neg h]
theorem chE_q {p q : List Int} (h : prE p = 0) (h2 : prE q ≠ 0) : chE p q = prE q := by unfold chE; rw [fst0, if_pos h, fst0, if_neg h2]
theorem chE_l {p q : List Int} (h : prE p = 0) (h2 : prE q = 0) (h3 : p.length ≠ q.length) : chE p q = 10 := by
  unfold chE; rw [fst0, if_pos h, fst0, if_pos h2, fst0]
  have : sameE p.length q.length = 10 := by unfold sameE; rw [if_pos (by omega)]
  rw [this]; rfl
theorem conLc (p q : List Int) : C5 4 [.sl p.length 1 (vi p), .sl q.length 1 (vi q)] [.val (.bool true)] := by
  refine con_flat hok mixed Try.func4 rfl (by show 2 ≤ 400; omega) rfl (by kernel_rfl) (fun caps => ?_)
  show gLc _ _ p.length (caps 500) (vi p) q.length (caps 501) (vi q) _
  rw [gLc_text]
  refine .inl ⟨⟨conAw⟩, ?_⟩
  simp only [bc_t (v1le p), bc_t (v1le q), vi_whole, eq_self, true_and]
  by_cases h1 : p.length ≤ 12
  · refine .inl ⟨saySt h1, ?_⟩
    by_cases h2 : q.length ≤ 12
    · refine .inl ⟨saySt h2, ⟨conCI p (by omega)⟩, ⟨conCI q (by omega)⟩, ?_⟩
      have hc := conCh p q (by omega) (by omega)
      have hp := conRP p (by omega)
      have hq := conRP q (by omega)
      by_cases he : chE p q = 0
      · have hv := chE_ok.1 he
        have hr := conRg hv
        have hl := hv.l
        rw [prE_ok.2 hv.p] at hp
        rw [prE_ok.2 hv.q] at hq
        by_cases ha : allS p q
        · rw [chP, if_pos he, if_pos ha] at hc
          rw [rgP, if_pos ha] at hr
          have e1 := rp_take (chF p q) p.length
          have e2 := v2leR (chS p q p.length)
          have e3 := conFr (chS p q p.length) (chS p q p.length) (by simp; omega)
          rw [decide_eq_true rfl] at e3
          simp only [List.length_map, List.length_range] at e2 e3
          refine .inr ⟨_, _, _, ⟨hc⟩, _, ⟨hp⟩, bc_beq (fun _ => ⟨_, ⟨hq⟩, bc_beq (fun _ => bc_bne (fun h => absurd h (by omega)) (fun _ => bc_bne (fun h => absurd rfl h) (fun _ => ?_))) (fun h => absurd rfl h)⟩) (fun h => absurd rfl h)⟩
          refine .inr ⟨_, _, .inl ⟨⟨hr⟩, bc_beq (fun _ => ?_) (fun h => absurd rfl h)⟩⟩
          simp only [bc_t e2, e1]
          exact .inl ⟨⟨e3⟩, by trivial⟩
        · rw [chP, if_pos he, if_neg ha] at hc
          rw [rgP, if_neg ha] at hr
          refine .inl ⟨_, ⟨hc⟩, _, ⟨hp⟩, bc_beq (fun _ => ⟨_, ⟨hq⟩, bc_beq (fun _ => bc_bne (fun h => absurd h (by omega)) (fun _ => bc_bne (fun h => absurd rfl h) (fun _ => ?_))) (fun h => absurd rfl h)⟩) (fun h => absurd rfl h)⟩
          exact .inl (.inr ⟨⟨hr⟩, bc_beq (fun _ => by trivial) (fun h => absurd rfl h)⟩)
      · rw [chP, if_neg he] at hc
        by_cases hp0 : prE p = 0
        · by_cases hq0 : prE q = 0
          · have hl : p.length ≠ q.length := fun h => he (chE_ok.2 ⟨h, prE_ok.1 hp0, prE_ok.1 hq0⟩)
            rw [chE_l hp0 hq0 hl] at hc
            refine .inl ⟨_, ⟨hc⟩, _, ⟨hp⟩, bc_beq (fun _ => ⟨_, ⟨hq⟩, bc_beq (fun _ => bc_bne (fun _ => bc_beq (fun _ => by trivial) (fun h => absurd rfl h)) (fun h => absurd h (by omega))) (fun h => absurd hq0 h)⟩) (fun h => absurd hp0 h)⟩
          · rw [chE_q hp0 hq0] at hc
            refine .inl ⟨_, ⟨hc⟩, _, ⟨hp⟩, bc_beq (fun _ => ⟨_, ⟨hq⟩, bc_beq (fun h => absurd h hq0) (fun _ => bc_bne (fun _ => bc_beq (fun _ => by trivial) (fun h => absurd rfl h)) (fun h => absurd h hq0))⟩) (fun h => absurd hp0 h)⟩
        · rw [chE_p hp0] at hc
          exact .inl ⟨_, ⟨hc⟩, _, ⟨hp⟩, bc_beq (fun h => absurd h hp0) (fun _ => bc_beq (fun h => absurd h hp0) (fun _ => bc_bne (fun _ => bc_beq (fun _ => by trivial) (fun h => absurd rfl h)) (fun h => absurd h hp0)))⟩
    · exact .inr ⟨saySf h2, by trivial⟩
  · exact .inr ⟨saySf h1, by trivial⟩
theorem prE_nil : prE [] = 10 := prE_10 (.inl (by simp))
theorem conLcna (q : List Int) : C5 4 [.nil, .sl q.length 1 (vi q)] [.val (.bool true)] := by
  refine con_flat hok mixed Try.func4 rfl (by show 1 ≤ 400; omega) rfl (by kernel_rfl) (fun caps => ?_)
  show gLcna _ _ q.length (caps 500) (vi q) _
  rw [gLcna_text]
  refine .inl ⟨⟨conAw⟩, ?_⟩
  simp only [bc_t (v1le q), vi_whole, eq_self, true_and]
  refine .inl ⟨⟨conShn⟩, ?_⟩
  by_cases h2 : q.length ≤ 12
  · have hc := conCh [] q (by simp) (by omega)
    have e : chE [] q = 10 := by rw [chE_p (by rw [prE_nil]; decide), prE_nil]
    rw [chP, e, if_neg (by decide)] at hc
    exact .inl ⟨saySt h2, ⟨conCIn⟩, ⟨conCI q (by omega)⟩, .inl ⟨_, ⟨hc⟩, _, ⟨conRPn⟩, bc_beq (fun h => absurd h (by decide)) (fun _ => bc_beq (fun h => absurd h (by decide)) (fun _ => bc_bne (fun _ => bc_beq (fun _ => by trivial) (fun h => absurd rfl h)) (fun h => absurd h (by decide))))⟩⟩
  · exact .inr ⟨saySf h2, by trivial⟩
theorem conLcan (p : List Int) : C5 4 [.sl p.length 1 (vi p), .nil] [.val (.bool true)] := by
  refine con_flat hok mixed Try.func4 rfl (by show 1 ≤ 400; omega) rfl (by kernel_rfl) (fun caps => ?_)
  show gLcan _ _ p.length (caps 500) (vi p) _
  rw [gLcan_text]
  refine .inl ⟨⟨conAw⟩, ?_⟩
  simp only [bc_t (v1le p), vi_whole, eq_self, true_and]
  by_cases h1 : p.length ≤ 12
  · have hc := conCh p [] (by omega) (by simp)
    have hp := conRP p (by omega)
    refine .inl ⟨saySt h1, .inl ⟨⟨conShn⟩, ⟨conCI p (by omega)⟩, ⟨conCIn⟩, ?_⟩⟩
    by_cases hp0 : prE p = 0
    · have e : chE p [] = 10 := by rw [chE_q hp0 (by rw [prE_nil]; decide), prE_nil]
      rw [chP, e, if_neg (by decide)] at hc
      exact .inl ⟨_, ⟨hc⟩, _, ⟨hp⟩, bc_beq (fun _ => ⟨_, ⟨conRPn⟩, bc_beq (fun h => absurd h (by decide)) (fun _ => bc_bne (fun _ => bc_beq (fun _ => by trivial) (fun h => absurd rfl h)) (fun h => absurd h (by decide)))⟩) (fun h => absurd hp0 h)⟩
    · rw [chP, chE_p hp0, if_neg hp0] at hc
      exact .inl ⟨_, ⟨hc⟩, _, ⟨hp⟩, bc_beq (fun h => absurd h hp0) (fun _ => bc_beq (fun h => absurd h hp0) (fun _ => bc_bne (fun _ => bc_beq (fun _ => by trivial) (fun h => absurd rfl h)) (fun h => absurd h hp0)))⟩
  · exact .inr ⟨saySf h1, by trivial⟩
theorem conLcnn : C5 4 [.nil, .nil] [.val (.bool true)] := by
  refine con_flat hok mixed Try.func4 rfl (by show 0 ≤ 400; omega) rfl (by kernel_rfl) (fun caps => ?_)
  show gLcnn _ _ _
  rw [gLcnn_text]
  refine .inl ⟨⟨conAw⟩, ?_⟩
  try simp only [eq_self, true_and]
  have hc := conCh [] [] (by simp) (by simp)
  have e : chE [] [] = 10 := by rw [chE_p (by rw [prE_nil]; decide), prE_nil]
  rw [chP, e, if_neg (by decide)] at hc
  exact .inl ⟨⟨conShn⟩, .inl ⟨⟨conShn⟩, ⟨conCIn⟩, ⟨conCIn⟩, .inl ⟨_, ⟨hc⟩, _, ⟨conRPn⟩, bc_beq (fun h => absurd h (by decide)) (fun _ => bc_beq (fun h => absurd h (by decide)) (fun _ => bc_bne (fun _ => bc_beq (fun _ => by trivial) (fun h => absurd rfl h)) (fun h => absurd h (by decide))))⟩⟩⟩
end Go.Proofs.G5f

/- FlatChanges: whatever the input, it returns true, and the input reads as it did. No condition. -/
namespace Go.Proofs.Ytpjfmeijfkbfaaa.K
open Go Go.Abs Go.RowKit Go.ChangeShapes Go.WideShapes Go.ChangeAt Go.Proofs Go.Flat Go.Proofs.G5f
set_option maxRecDepth 100000
namespace FlatChanges
abbrev shs : List Sh := [.one 22, .one 22]
theorem shapes : Try.f4.params.toList.mapM (argSh Try.prog) = some shs := by kernel_rfl
theorem all (ds : List D) (h : ShDs Try.prog shs ds) : Con Try.prog 4 ds [.val (.bool true)] := by
  cases h with | cons h1 t => cases t with | cons h2 t =>
  cases t
  rcases leaf_ints Try.underlying22 (by kernel_rfl) h1 with rfl | ⟨l, rfl⟩ <;> rcases leaf_ints Try.underlying22 (by kernel_rfl) h2 with rfl | ⟨m, rfl⟩
  · exact conLcnn
  · exact conLcna m
  · exact conLcan l
  · exact conLc l m
theorem lifted (os : Os) (started : os.Started) (H : Type) (enc : TypeId × Value → H) :
    ReturnsInHanded {} Try.checked os 4 .any (Rows.flatChangesSpec.pre6 enc Try.prog Try.f4 Rows.flatChangesRow.domain false) (Rows.flatChangesSpec.post enc Try.prog Try.f4 false true false false) := by
  refine returnsInHanded_of_change (C := Try.checked) own started (by kernel_rfl) Try.func4
    (ChangeSpec.witness6 (enc := enc) (C := Try.checked) false ⟨#[], #[.slice none 0 0, .slice none 0 0], []⟩ 8 (by kernel_rfl) (by kernel_rfl) (by kernel_rfl) (by kernel_rfl)) ?_
  intro W base args ds gs before hval hW _ _
  exact law_shapes (tb := 4) (s := Rows.flatChangesSpec) shapes all laidP mapsP slicesP (tsP (by kernel_rfl)) rfl Try.underlying4 rfl (fun ds h => by
    match ds, h with
    | [_, _], _ => exact ⟨rfl, rfl, rfl⟩) hval hW
theorem holds : Rows.FlatChangesSaid :=
  OpenClaim.holds_of_wide 4 Try.f4 rfl rfl rfl rfl rfl rfl rfl ⟨rfl, rfl, rfl, rfl, rfl⟩ rfl rfl rfl rfl rfl (by kernel_rfl) Try.func4 (by kernel_rfl)
    (of_decide_eq_true (by kernel_rfl)) (by unfold Func.isWrapper; first | (rw [if_pos (by decide +kernel)]; kernel_rfl) | (rw [if_neg (by decide +kernel)]; exact ⟨rfl, rfl⟩))
    (fun os started H enc _ => lifted os started H enc)
#print axioms holds
end FlatChanges
end Go.Proofs.Ytpjfmeijfkbfaaa.K

/- Functions over items that are handed a closure: what they do (chapter 7: answers by limits, the first wrong point, worn points). -/
namespace Go.Abs
/-- pairs of numbers as cells -/
def prs : List (Int × Int) → List Value
  | [] => []
  | p :: r => .int .i64 p.1 :: .int .i64 p.2 :: prs r
/-- the answer for a change, by limits in millionths -/
def bkV (lo hi n d : Int) : Int := if IntKind.wrap .i64 (1000000 * n) > IntKind.wrap .i64 (hi * d) then 2 else if IntKind.wrap .i64 (1000000 * n) ≤ IntKind.wrap .i64 (lo * d) then 0 else 1
def bkL (lo hi : Int) : List Value → List Value
  | .int _ n :: .int _ d :: r => .int .i64 (bkV lo hi n d) :: bkL lo hi r
  | _ => []
def bkC : FuncId → List D → List D → Prop := fun _ ds rs =>
  match ds, rs with
  | [.val (.int _ lo), .val (.int _ hi), .sl _ _ cs], [.sl _ _ out] => out = bkL lo hi cs
  | _, _ => False
/-- (cl, tr: the closure, the type of a range) -/
def eachB (cl : FuncId) (tr : TypeId) : SpecS := fun args bs K =>
  match args, bs with
  | [.slice (some ⟨i, 0, none⟩) n _, .func (.func g) a c], [(i', .sym cs opn es), (b, .cells [.int .i64 lo, .int .i64 hi] t o e)] =>
    match a.toList, c.toList with
    | [], [.pointer (some ⟨b', 0, none⟩)] =>
      if (i == 500 && i' == 500 && b == 900 && b' == 900 && g == cl && opn == false && es == 2 && t == tr && o == false && e == 1) = true then
        0 < n ∧ (∃ l : List (Int × Int), cs = prs l ∧ n = l.length ∧ l.length < 1000000000) ∧
          ∃ out : List Value, Says bkC 0 [.val (.int .i64 lo), .val (.int .i64 hi), .sl n 2 cs] [.sl n 1 out] ∧ K (.slice (some ⟨1000, 0, none⟩) n n) [(1000, .sym out true 1), (900, .cells [.int .i64 lo, .int .i64 hi] t o e)]
      else False
    | _, _ => False
  | _, _ => False
/-- the first wrong point: its index, its error, and the last position -/
def ptE (at' h : Int) : Int := if (0 ≤ at' ∧ at' ≤ 10000) ∧ (-100000 ≤ h ∧ h ≤ 100000) then 0 else 2
def fpL (bf : Int) (i : Int) : List Value → Int × Int × Int
  | .int _ a :: .int _ h :: r => if ptE a h = 0 then (if a ≤ bf then (i, 9, bf) else fpL a (i + 1) r) else (i, ptE a h, a)
  | _ => (0, 0, bf)
def fpC : FuncId → List D → List D → Prop := fun _ ds rs =>
  match ds, rs with
  | [.val (.int _ bf), .sl _ _ cs], [.val (.int _ i), .val (.int _ e), .val (.int _ b)] => (i, e, b) = fpL bf 0 cs
  | _, _ => False
def firstP (cl : FuncId) (ti : TypeId) : SpecS := fun args bs K =>
  match args, bs with
  | [.slice (some ⟨i, 0, none⟩) n _, .func (.func g) a c], [(i', .sym cs opn es), (b, .cells [.int .i64 bf] t o e)] =>
    match a.toList, c.toList with
    | [], [.pointer (some ⟨b', 0, none⟩)] =>
      if (i == 500 && i' == 500 && b == 900 && b' == 900 && g == cl && opn == false && es == 2 && t == ti && o == false && e == 1) = true then
        (∃ l : List (Int × Int), cs = prs l ∧ n = l.length ∧ l.length < 1000000000) ∧
          ∃ r1 : Int, ∃ r2 : Int, ∃ r3 : Int, Says fpC 0 [.val (.int .i64 bf), .sl n 2 cs] [.val (.int .i64 r1), .val (.int .i64 r2), .val (.int .i64 r3)] ∧ K (.tuple #[.int .i64 r1, .int .i64 r2]) [(900, .cells [.int .i64 r3] t o e)]
      else False
    | _, _ => False
  | _, _ => False
/-- points after a strip -/
def wrV (lo hi w a h : Int) : Int := if lo ≤ a ∧ a ≤ hi then IntKind.wrap .i64 (h - w) else h
def wrL (lo hi w : Int) : List Value → List Value
  | .int _ a :: .int _ h :: r => .int .i64 a :: .int .i64 (wrV lo hi w a h) :: wrL lo hi w r
  | _ => []
def wrC : FuncId → List D → List D → Prop := fun _ ds rs =>
  match ds, rs with
  | [.val (.int _ lo), .val (.int _ hi), .val (.int _ w), .sl _ _ cs], [.sl _ _ out] => out = wrL lo hi w cs
  | _, _ => False
def eachW (cl : FuncId) (ts : TypeId) : SpecS := fun args bs K =>
  match args, bs with
  | [.slice (some ⟨i, 0, none⟩) n _, .func (.func g) a c], [(i', .sym cs opn es), (b, .cells [.int .i64 lo, .int .i64 hi, .int .i64 w] t o e)] =>
    match a.toList, c.toList with
    | [], [.pointer (some ⟨b', 0, none⟩)] =>
      if (i == 900 && i' == 900 && b == 901 && b' == 901 && g == cl && opn == true && es == 2 && t == ts && o == false && e == 1) = true then
        0 < n ∧ (∃ l : List (Int × Int), cs = prs l ∧ n = l.length ∧ l.length < 1000000000) ∧
          ∃ out : List Value, Says wrC 0 [.val (.int .i64 lo), .val (.int .i64 hi), .val (.int .i64 w), .sl n 2 cs] [.sl n 2 out] ∧ K (.slice (some ⟨1000, 0, none⟩) n n) [(1000, .sym out true 2), (900, .sym cs true 2), (901, .cells [.int .i64 lo, .int .i64 hi, .int .i64 w] t o e)]
      else False
    | _, _ => False
  | _, _ => False
end Go.Abs
