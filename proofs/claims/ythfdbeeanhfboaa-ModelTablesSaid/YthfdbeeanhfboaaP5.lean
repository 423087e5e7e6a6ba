/- Texts of the proof, put together: M4T2, M4C, M4G, M4D, M4T3, M4E, M4F, AbsTab, M4H. -/
import Derived.Test.YthfdbeeanhfboaaM4T
import Derived.Test.YthfdbeeanhfboaaP3
/- What is left to show of each function, written out; the kernel reckons it. -/
namespace Go.Proofs.M4
open Go Go.Abs Go.Proofs
set_option maxRecDepth 100000
set_option linter.unusedVariables false
def preW (C : Ct) : FuncId → Option Handler := fun g => if g == 115 then some (saidH Try.prog C) else none
abbrev hW (C : Ct) : Handler := handlerX Try.prog (preW C) 8 6
def g115 (C : Ct) (n b : Int) (k : List D → Prop) : Prop := wpFn Try.prog (hW C) (fun _ _ _ => False) 8 115 #[vI n, vI b] (heapOf []) (dataK k)
theorem g115_text (C : Ct) (n : Int) (b : Int) (k : List D → Prop) : g115 C n b k =
 (bcase (b != 0)
 (bcase (b != 0)
 (((bcase (b != 0)
 ((Go.Value.int Go.IntKind.i64 (Int.tmod n b)) = (Go.Value.int Go.IntKind.i64 (Int.tmod n b)))
 False) ∧
 (((Go.Value.int Go.IntKind.i64 (b)) = (Go.Value.int Go.IntKind.i64 (b))) ∧
 (((Go.Value.int Go.IntKind.i64 (n)) = (Go.Value.int Go.IntKind.i64 (n))) ∧
 ((bcase (b != 0)
 ((Go.Value.int Go.IntKind.i64 (Go.IntKind.wrap Go.IntKind.i64 (Int.tdiv n b))) = (Go.Value.int Go.IntKind.i64 (Go.IntKind.wrap Go.IntKind.i64 (Int.tdiv n b))))
 False) ∧
 (((Go.Value.int Go.IntKind.i64 (b)) = (Go.Value.int Go.IntKind.i64 (b))) ∧
 (((Go.Value.int Go.IntKind.i64 (n)) = (Go.Value.int Go.IntKind.i64 (n))) ∧
 True)))))) ∧
 (((bcase (b != 0)
 ((Go.Value.int Go.IntKind.i64 (Int.tmod n b)) = (Go.Value.int Go.IntKind.i64 (Int.tmod n b)))
 False) ∧
 (((Go.Value.int Go.IntKind.i64 (b)) = (Go.Value.int Go.IntKind.i64 (b))) ∧
 (((Go.Value.int Go.IntKind.i64 (n)) = (Go.Value.int Go.IntKind.i64 (n))) ∧
 True))) ∧
 (True ∧
 (bcase (decide (Int.tmod n b < 0))
 (k [(D.val (Go.Value.int Go.IntKind.i64 (Go.IntKind.wrap Go.IntKind.i64 (Go.IntKind.wrap Go.IntKind.i64 (Int.tdiv n b) - 1)))), (D.val (Go.Value.int Go.IntKind.i64 (Go.IntKind.wrap Go.IntKind.i64 (Int.tmod n b + b))))])
 (k [(D.val (Go.Value.int Go.IntKind.i64 (Go.IntKind.wrap Go.IntKind.i64 (Int.tdiv n b)))), (D.val (Go.Value.int Go.IntKind.i64 (Int.tmod n b)))])))))
 False)
 False) := by kernel_rfl
def g112 (C : Ct) (a b lo hi p q r s : Int) (k : List D → Prop) : Prop := wpFn Try.prog (hW C) (fun _ _ _ => False) 8 112 #[.agg #[vI a, vI b, vI lo, vI hi], .agg #[vI p, vI q, vI r, vI s]] (heapOf []) (dataK k)
theorem g112_text (C : Ct) (a : Int) (b : Int) (lo : Int) (hi : Int) (p : Int) (q : Int) (r : Int) (s : Int) (k : List D → Prop) : g112 C a b lo hi p q r s k =
 ((((Go.Value.int Go.IntKind.i64 (Go.IntKind.wrap Go.IntKind.i64 (q * s))) = (Go.Value.int Go.IntKind.i64 (Go.IntKind.wrap Go.IntKind.i64 (q * s)))) ∧
 (((Go.Value.int Go.IntKind.i64 (s)) = (Go.Value.int Go.IntKind.i64 (s))) ∧
 (((Go.Value.pointer (Option.some (Go.Addr.mk 1003 3 Option.none))) = (Go.Value.pointer (Option.some (Go.Addr.mk 1003 3 Option.none)))) ∧
 (((Go.Value.pointer (Option.some (Go.Addr.mk 1003 2 Option.none))) = (Go.Value.pointer (Option.some (Go.Addr.mk 1003 2 Option.none)))) ∧
 (((Go.Value.int Go.IntKind.i64 (q)) = (Go.Value.int Go.IntKind.i64 (q))) ∧
 (((Go.Value.pointer (Option.some (Go.Addr.mk 1003 1 Option.none))) = (Go.Value.pointer (Option.some (Go.Addr.mk 1003 1 Option.none)))) ∧
 (((Go.Value.pointer (Option.some (Go.Addr.mk 1003 0 Option.none))) = (Go.Value.pointer (Option.some (Go.Addr.mk 1003 0 Option.none)))) ∧
 True))))))) ∧
 ((((Go.Value.int Go.IntKind.i64 (Go.IntKind.wrap Go.IntKind.i64 (q * s))) = (Go.Value.int Go.IntKind.i64 (Go.IntKind.wrap Go.IntKind.i64 (q * s)))) ∧
 (((Go.Value.int Go.IntKind.i64 (s)) = (Go.Value.int Go.IntKind.i64 (s))) ∧
 (((Go.Value.pointer (Option.some (Go.Addr.mk 1003 3 Option.none))) = (Go.Value.pointer (Option.some (Go.Addr.mk 1003 3 Option.none)))) ∧
 (((Go.Value.pointer (Option.some (Go.Addr.mk 1003 2 Option.none))) = (Go.Value.pointer (Option.some (Go.Addr.mk 1003 2 Option.none)))) ∧
 (((Go.Value.int Go.IntKind.i64 (q)) = (Go.Value.int Go.IntKind.i64 (q))) ∧
 (((Go.Value.pointer (Option.some (Go.Addr.mk 1003 1 Option.none))) = (Go.Value.pointer (Option.some (Go.Addr.mk 1003 1 Option.none)))) ∧
 (((Go.Value.pointer (Option.some (Go.Addr.mk 1003 0 Option.none))) = (Go.Value.pointer (Option.some (Go.Addr.mk 1003 0 Option.none)))) ∧
 True))))))) ∧
 ((((Go.Value.int Go.IntKind.i64 (Go.IntKind.wrap Go.IntKind.i64 (q * s))) = (Go.Value.int Go.IntKind.i64 (Go.IntKind.wrap Go.IntKind.i64 (q * s)))) ∧
 (((Go.Value.int Go.IntKind.i64 (s)) = (Go.Value.int Go.IntKind.i64 (s))) ∧
 (((Go.Value.pointer (Option.some (Go.Addr.mk 1003 3 Option.none))) = (Go.Value.pointer (Option.some (Go.Addr.mk 1003 3 Option.none)))) ∧
 (((Go.Value.pointer (Option.some (Go.Addr.mk 1003 2 Option.none))) = (Go.Value.pointer (Option.some (Go.Addr.mk 1003 2 Option.none)))) ∧
 (((Go.Value.int Go.IntKind.i64 (q)) = (Go.Value.int Go.IntKind.i64 (q))) ∧
 (((Go.Value.pointer (Option.some (Go.Addr.mk 1003 1 Option.none))) = (Go.Value.pointer (Option.some (Go.Addr.mk 1003 1 Option.none)))) ∧
 (((Go.Value.pointer (Option.some (Go.Addr.mk 1003 0 Option.none))) = (Go.Value.pointer (Option.some (Go.Addr.mk 1003 0 Option.none)))) ∧
 True))))))) ∧
 (True ∧
 ((((Go.Value.int Go.IntKind.i64 (q)) = (Go.Value.int Go.IntKind.i64 (q))) ∧
 (((Go.Value.pointer (Option.some (Go.Addr.mk 1005 1 Option.none))) = (Go.Value.pointer (Option.some (Go.Addr.mk 1005 1 Option.none)))) ∧
 (((Go.Value.int Go.IntKind.i64 (Go.IntKind.wrap Go.IntKind.i64 (a * p))) = (Go.Value.int Go.IntKind.i64 (Go.IntKind.wrap Go.IntKind.i64 (a * p)))) ∧
 (((Go.Value.int Go.IntKind.i64 (p)) = (Go.Value.int Go.IntKind.i64 (p))) ∧
 (((Go.Value.pointer (Option.some (Go.Addr.mk 1005 0 Option.none))) = (Go.Value.pointer (Option.some (Go.Addr.mk 1005 0 Option.none)))) ∧
 (((Go.Value.int Go.IntKind.i64 (a)) = (Go.Value.int Go.IntKind.i64 (a))) ∧
 (((Go.Value.pointer (Option.some (Go.Addr.mk 1002 0 Option.none))) = (Go.Value.pointer (Option.some (Go.Addr.mk 1002 0 Option.none)))) ∧
 (((Go.Value.int Go.IntKind.i64 (0 : Int)) = (Go.Value.int Go.IntKind.i64 (0 : Int))) ∧
 True)))))))) ∧
 (∃ n1 : Int,
 (∃ n2 : Int,
 ((Says C 115 [(D.val (Go.Value.int Go.IntKind.i64 (Go.IntKind.wrap Go.IntKind.i64 (a * p)))), (D.val (Go.Value.int Go.IntKind.i64 (q)))] [(D.val (Go.Value.int Go.IntKind.i64 (n1))), (D.val (Go.Value.int Go.IntKind.i64 (n2)))]) ∧
 ((((Go.Value.int Go.IntKind.i64 (n2)) = (Go.Value.int Go.IntKind.i64 (n2))) ∧
 (((Go.Value.int Go.IntKind.i64 (n1)) = (Go.Value.int Go.IntKind.i64 (n1))) ∧
 (((Go.Value.tuple [(Go.Value.int Go.IntKind.i64 (n1)), (Go.Value.int Go.IntKind.i64 (n2))].toArray) = (Go.Value.tuple [(Go.Value.int Go.IntKind.i64 (n1)), (Go.Value.int Go.IntKind.i64 (n2))].toArray)) ∧
 (((Go.Value.pointer (Option.some (Go.Addr.mk 1005 1 Option.none))) = (Go.Value.pointer (Option.some (Go.Addr.mk 1005 1 Option.none)))) ∧
 (((Go.Value.int Go.IntKind.i64 (p)) = (Go.Value.int Go.IntKind.i64 (p))) ∧
 (((Go.Value.pointer (Option.some (Go.Addr.mk 1005 0 Option.none))) = (Go.Value.pointer (Option.some (Go.Addr.mk 1005 0 Option.none)))) ∧
 (((Go.Value.int Go.IntKind.i64 (a)) = (Go.Value.int Go.IntKind.i64 (a))) ∧
 (((Go.Value.pointer (Option.some (Go.Addr.mk 1002 0 Option.none))) = (Go.Value.pointer (Option.some (Go.Addr.mk 1002 0 Option.none)))) ∧
 (((Go.Value.int Go.IntKind.i64 (0 : Int)) = (Go.Value.int Go.IntKind.i64 (0 : Int))) ∧
 True))))))))) ∧
 ((((Go.Value.int Go.IntKind.i64 (n2)) = (Go.Value.int Go.IntKind.i64 (n2))) ∧
 True) ∧
 (True ∧
 (bcase (q != 0)
 ((((Go.Value.int Go.IntKind.i64 (s)) = (Go.Value.int Go.IntKind.i64 (s))) ∧
 (((Go.Value.pointer (Option.some (Go.Addr.mk 1006 1 Option.none))) = (Go.Value.pointer (Option.some (Go.Addr.mk 1006 1 Option.none)))) ∧
 (((Go.Value.int Go.IntKind.i64 (Go.IntKind.wrap Go.IntKind.i64 (b * r))) = (Go.Value.int Go.IntKind.i64 (Go.IntKind.wrap Go.IntKind.i64 (b * r)))) ∧
 (((Go.Value.int Go.IntKind.i64 (r)) = (Go.Value.int Go.IntKind.i64 (r))) ∧
 (((Go.Value.pointer (Option.some (Go.Addr.mk 1006 0 Option.none))) = (Go.Value.pointer (Option.some (Go.Addr.mk 1006 0 Option.none)))) ∧
 (((Go.Value.int Go.IntKind.i64 (b)) = (Go.Value.int Go.IntKind.i64 (b))) ∧
 (((Go.Value.pointer (Option.some (Go.Addr.mk 1002 1 Option.none))) = (Go.Value.pointer (Option.some (Go.Addr.mk 1002 1 Option.none)))) ∧
 (((Go.Value.int Go.IntKind.i64 (1 : Int)) = (Go.Value.int Go.IntKind.i64 (1 : Int))) ∧
 True)))))))) ∧
 (∃ n3 : Int,
 (∃ n4 : Int,
 ((Says C 115 [(D.val (Go.Value.int Go.IntKind.i64 (Go.IntKind.wrap Go.IntKind.i64 (b * r)))), (D.val (Go.Value.int Go.IntKind.i64 (s)))] [(D.val (Go.Value.int Go.IntKind.i64 (n3))), (D.val (Go.Value.int Go.IntKind.i64 (n4)))]) ∧
 ((((Go.Value.int Go.IntKind.i64 (n4)) = (Go.Value.int Go.IntKind.i64 (n4))) ∧
 (((Go.Value.int Go.IntKind.i64 (n3)) = (Go.Value.int Go.IntKind.i64 (n3))) ∧
 (((Go.Value.tuple [(Go.Value.int Go.IntKind.i64 (n3)), (Go.Value.int Go.IntKind.i64 (n4))].toArray) = (Go.Value.tuple [(Go.Value.int Go.IntKind.i64 (n3)), (Go.Value.int Go.IntKind.i64 (n4))].toArray)) ∧
 (((Go.Value.pointer (Option.some (Go.Addr.mk 1006 1 Option.none))) = (Go.Value.pointer (Option.some (Go.Addr.mk 1006 1 Option.none)))) ∧
 (((Go.Value.int Go.IntKind.i64 (r)) = (Go.Value.int Go.IntKind.i64 (r))) ∧
 (((Go.Value.pointer (Option.some (Go.Addr.mk 1006 0 Option.none))) = (Go.Value.pointer (Option.some (Go.Addr.mk 1006 0 Option.none)))) ∧
 (((Go.Value.int Go.IntKind.i64 (b)) = (Go.Value.int Go.IntKind.i64 (b))) ∧
 (((Go.Value.pointer (Option.some (Go.Addr.mk 1002 1 Option.none))) = (Go.Value.pointer (Option.some (Go.Addr.mk 1002 1 Option.none)))) ∧
 (((Go.Value.int Go.IntKind.i64 (1 : Int)) = (Go.Value.int Go.IntKind.i64 (1 : Int))) ∧
 True))))))))) ∧
 ((((Go.Value.int Go.IntKind.i64 (n4)) = (Go.Value.int Go.IntKind.i64 (n4))) ∧
 True) ∧
 (True ∧
 (bcase (s != 0)
 (∃ n5 : Int,
 (∃ n6 : Int,
 ((Says C 115 [(D.val (Go.Value.int Go.IntKind.i64 (Go.IntKind.wrap Go.IntKind.i64 (Go.IntKind.wrap Go.IntKind.i64 (0 + Go.IntKind.wrap Go.IntKind.i64 (n2 * Go.IntKind.wrap Go.IntKind.i64 (Int.tdiv (Go.IntKind.wrap Go.IntKind.i64 (q * s)) q))) + Go.IntKind.wrap Go.IntKind.i64 (n4 * Go.IntKind.wrap Go.IntKind.i64 (Int.tdiv (Go.IntKind.wrap Go.IntKind.i64 (q * s)) s)))))), (D.val (Go.Value.int Go.IntKind.i64 (Go.IntKind.wrap Go.IntKind.i64 (q * s))))] [(D.val (Go.Value.int Go.IntKind.i64 (n5))), (D.val (Go.Value.int Go.IntKind.i64 (n6)))]) ∧
 (bcase (decide (n6 > 0))
 (bcase (decide (lo ≤ Go.IntKind.wrap Go.IntKind.i64 (Go.IntKind.wrap Go.IntKind.i64 (Go.IntKind.wrap Go.IntKind.i64 (0 + n1) + n3) + n5)))
 (bcase (decide (Go.IntKind.wrap Go.IntKind.i64 (Go.IntKind.wrap Go.IntKind.i64 (Go.IntKind.wrap Go.IntKind.i64 (Go.IntKind.wrap Go.IntKind.i64 (0 + n1) + n3) + n5) + 1) ≤ hi))
 (k [(D.val (Go.Value.bool true))])
 (k [(D.val (Go.Value.bool false))]))
 (k [(D.val (Go.Value.bool false))]))
 (bcase (decide (lo ≤ Go.IntKind.wrap Go.IntKind.i64 (Go.IntKind.wrap Go.IntKind.i64 (Go.IntKind.wrap Go.IntKind.i64 (0 + n1) + n3) + n5)))
 (bcase (decide (Go.IntKind.wrap Go.IntKind.i64 (Go.IntKind.wrap Go.IntKind.i64 (Go.IntKind.wrap Go.IntKind.i64 (0 + n1) + n3) + n5) ≤ hi))
 (k [(D.val (Go.Value.bool true))])
 (k [(D.val (Go.Value.bool false))]))
 (k [(D.val (Go.Value.bool false))]))))))
 False))))))))
 False)))))))))))) := by kernel_rfl
def g98 (C : Ct) (p q r s : Int) (k : List D → Prop) : Prop := wpFn Try.prog (hW C) (fun _ _ _ => False) 8 98 #[vP p q, vP r s] (heapOf []) (dataK k)
theorem g98_text (C : Ct) (p : Int) (q : Int) (r : Int) (s : Int) (k : List D → Prop) : g98 C p q r s k =
 (bcase (decide (Go.IntKind.wrap Go.IntKind.i64 (p * s) < Go.IntKind.wrap Go.IntKind.i64 (r * q)))
 (k [(D.val (Go.Value.bool true))])
 (k [(D.val (Go.Value.bool false))])) := by kernel_rfl
end Go.Proofs.M4

/- Chapter 4: what each function does, in data. -/
namespace Go.Proofs.M4
open Go Go.Abs Go.Proofs
set_option maxRecDepth 100000
theorem mixed : Try.prog.follows .mixedOrders = true := by kernel_rfl
abbrev C4 : FuncId → List D → List D → Prop := Con Try.prog
/-! ### checks of ranges -/
theorem limE1 (lo hi a : Int) : limE lo hi [.int .i64 a] = if lo ≤ a ∧ a ≤ hi then 0 else 2 := by
  simp only [limE]; split <;> split <;> first | rfl | omega
theorem limE2 (lo hi a b : Int) : limE lo hi [.int .i64 a, .int .i64 b] = if (lo ≤ a ∧ a ≤ hi) ∧ lo ≤ b ∧ b ≤ hi then 0 else 2 := by
  simp only [limE]; repeat' split
  all_goals first | rfl | omega
theorem limE4 (lo hi a b c d : Int) : limE lo hi [.int .i64 a, .int .i64 b, .int .i64 c, .int .i64 d] = if (lo ≤ a ∧ a ≤ hi) ∧ (lo ≤ b ∧ b ≤ hi) ∧ (lo ≤ c ∧ c ≤ hi) ∧ lo ≤ d ∧ d ≤ hi then 0 else 2 := by
  simp only [limE]; repeat' split
  all_goals first | rfl | omega
theorem limGood : LimGood Try.prog 87 3 := by
  refine ⟨mixed, ⟨_, _, Try.func87, rfl⟩, fun cap lo hi x => ?_, fun cap lo hi x y => ?_, fun cap lo hi x y z => ?_, fun cap lo hi x y z u => ?_⟩
  · show lm1 cap lo hi x _
    rw [lm1_text, limE1]
    repeat' first | refine bc_dec (fun _ => ?_) (fun _ => ?_) | exact ⟨by rw [if_neg (by omega)], rfl⟩ | exact ⟨by rw [if_pos (by omega)], rfl⟩
  · show lm2 cap lo hi x y _
    rw [lm2_text, limE2]
    repeat' first | refine bc_dec (fun _ => ?_) (fun _ => ?_) | exact ⟨by rw [if_neg (by omega)], rfl⟩ | exact ⟨by rw [if_pos (by omega)], rfl⟩
  · show lm3 cap lo hi x y z _
    rw [lm3_text]
    have e : limE lo hi [.int .i64 x, .int .i64 y, .int .i64 z] = if (lo ≤ x ∧ x ≤ hi) ∧ (lo ≤ y ∧ y ≤ hi) ∧ lo ≤ z ∧ z ≤ hi then 0 else 2 := by
      simp only [limE]; repeat' split
      all_goals first | rfl | omega
    rw [e]
    repeat' first | refine bc_dec (fun _ => ?_) (fun _ => ?_) | exact ⟨by rw [if_neg (by omega)], rfl⟩ | exact ⟨by rw [if_pos (by omega)], rfl⟩
  · show lm4 cap lo hi x y z u _
    rw [lm4_text, limE4]
    repeat' first | refine bc_dec (fun _ => ?_) (fun _ => ?_) | exact ⟨by rw [if_neg (by omega)], rfl⟩ | exact ⟨by rw [if_pos (by omega)], rfl⟩
theorem preOK : PreOK Try.prog (preM C4) := by
  intro g h he args ats H k hk
  unfold preM at he
  split at he
  · rename_i e
    obtain rfl := Option.some.inj he
    rw [beq_iff_eq] at e
    subst e
    exact wpState_call (fun args bs K hk => lim_ok limGood hk) hk
  · split at he
    · obtain rfl := Option.some.inj he
      exact fixH_ok (fun _ _ _ h => h) _ _ _ _ _ hk
    · split at he
      · obtain rfl := Option.some.inj he
        exact fixH_ok (fun _ _ _ h => h) _ _ _ _ _ hk
      · split at he
        · obtain rfl := Option.some.inj he
          exact saidH_ok (fun _ _ _ h => h) _ _ _ _ _ hk
        · cases he
theorem hok : HandlerOK Try.prog (hM C4) := handlerX_ok mixed preOK (by decide) 6
theorem hokE : HandlerOK Try.prog (hE C4) := handlerX_ok mixed (fun g h he => by cases he) (by decide) 6
theorem hokE2 : HandlerOK Try.prog (hW C4) := handlerX_ok mixed (fun g h he args ats H k hk => by
  unfold preW at he
  split at he
  · obtain rfl := Option.some.inj he
    exact saidH_ok (fun _ _ _ h => h) _ _ _ _ _ hk
  · cases he) (by decide) 6
theorem hokW : HandlerOK Try.prog (hW C4) := hokE2
theorem says_lim1 {lo hi a e : Int} (h : e = if lo ≤ a ∧ a ≤ hi then 0 else 2) : Says limC 0 [dI lo, dI hi, .sl 1 1 [.int .i64 a]] [dI e] := ⟨by show e = limE lo hi _; rw [limE1, h]⟩

/-! ### the first error -/
theorem con54 (l : List Int) (hlen : l.length < 1000000000) : C4 54 [.sl l.length 1 (vi l)] [dI (fst0 l)] := by
  let inv : Nat × Nat → Prop := fun x => x.1 ≤ l.length ∧ fst0 l = fst0 (l.drop x.1)
  let st : Nat × Nat → Slots × Blocks := fun x => (s54 l.length x.2 x.1, [Q500 (vi l)])
  refine con_of (L := fun _ s b => ∃ x, inv x ∧ st x = (s, b)) hok mixed Try.func54 rfl (by show 1 ≤ 400; omega) rfl (ids := [0]) (by kernel_rfl) rfl (fun caps => ?_) (fun id hid => ?_)
  · show g54 _ _ l.length (caps 500) (vi l) _
    rw [g54_text]
    exact ⟨(0, caps 500), ⟨by simp, rfl⟩, rfl⟩
  · obtain rfl := List.mem_singleton.1 hid
    refine ⟨Nat × Nat, st, inv, fun x => l.length - x.1, ⟨fun s b h => h, by kernel_rfl, ?_⟩⟩
    rintro ⟨i, cap⟩ ⟨hi, hr⟩
    simp only at hi hr
    show r54 _ _ l.length cap (vi l) i _ _ _
    rw [r54_text]
    refine bc_dec (fun h => ?_) (fun h => ?_)
    · have hi' : i < l.length := by omega
      rw [List.drop_eq_getElem_cons hi', fst0] at hr
      refine bc_yes (by omega) (bc_yes h ⟨l[i], vi_at l i hi', bc_bne (fun hc => ?_) (fun hc => ?_)⟩)
      · rw [if_neg hc] at hr
        show [dI l[i]] = [dI (fst0 l)]
        rw [hr]
      · rw [if_pos hc] at hr
        refine ⟨(i + 1, cap), ⟨by show i + 1 ≤ l.length; omega, hr⟩, by show l.length - (i + 1) < l.length - i; omega, ?_⟩
        rw [w64 (by omega) (by omega)]; rfl
    · show (if 0 = 0 then _ else _)
      rw [if_pos rfl]
      show n54 _ _ _
      rw [n54_text]
      have : i = l.length := by omega
      rw [this, List.drop_length] at hr
      show [dI 0] = [dI (fst0 l)]
      rw [hr]; rfl
theorem con55 (a : Int) : C4 55 [.sl 1 1 [.int .i64 a]] [dI (xErr a)] := by
  refine con_walk hokE mixed (u := 8) (by decide) Try.func55 rfl (by show 1 ≤ 400; omega) (fun caps => ?_)
  show f55 _ (caps 500) a _
  rw [f55_text]
  refine ⟨a, ⟨by simp, rfl⟩, ?_⟩
  unfold xErr
  repeat' first | refine bc_dec (fun _ => ?_) (fun _ => ?_) | (show _ = _; rw [if_neg (by omega)]) | (show _ = _; rw [if_pos (by omega)])
theorem con55b (a b : Int) : C4 55 [.sl 2 1 [.int .i64 a, .int .i64 b]] [dI (if xErr a = 0 ∧ xErr b = 0 then 0 else 2)] := by
  refine con_walk hokE mixed (u := 8) (by decide) Try.func55 rfl (by show 1 ≤ 400; omega) (fun caps => ?_)
  show f55b _ (caps 500) a b _
  rw [f55b_text]
  refine ⟨a, ⟨by simp, rfl⟩, ?_⟩
  simp only [xErr0]
  refine bc_dec (fun _ => ?_) (fun _ => bc_dec (fun _ => ?_) (fun _ => ⟨b, ⟨by simp, rfl⟩, bc_dec (fun _ => ?_) (fun _ => bc_dec (fun _ => ?_) (fun _ => ?_))⟩))
  all_goals first | (show _ = _; rw [if_neg (by omega)]; done) | (show _ = _; rw [if_pos (by omega)])
end Go.Proofs.M4

/- Chapter 4: divisors and fractions, in data. -/
namespace Go.Proofs.M4
open Go Go.Abs Go.Proofs
set_option maxRecDepth 100000
theorem con70 (a b : Int) (ha : -9223372036854775808 ≤ a ∧ a ≤ 9223372036854775807) (hb : -9223372036854775807 ≤ b ∧ b ≤ 9223372036854775807) (h0 : b = 0 → -9223372036854775807 ≤ a) : C4 70 [dI a, dI b] [dI (Int.gcd a b)] := by
  let inv : Int × Int → Prop := fun x => (-9223372036854775808 ≤ x.1 ∧ x.1 ≤ 9223372036854775807) ∧ (-9223372036854775807 ≤ x.2 ∧ x.2 ≤ 9223372036854775807) ∧ (x.2 = 0 → -9223372036854775807 ≤ x.1) ∧ Int.gcd x.1 x.2 = Int.gcd a b
  let st : Int × Int → Slots × Blocks := fun x => (s70 x.1 x.2, [])
  refine con_of (L := fun _ s b => ∃ x, inv x ∧ st x = (s, b)) hok mixed Try.func70 rfl (by show 0 ≤ 400; omega) rfl (ids := [0]) (by kernel_rfl) rfl (fun caps => ?_) (fun id hid => ?_)
  · show g70 _ _ a b _
    rw [g70_text]
    exact ⟨(a, b), ⟨ha, hb, h0, rfl⟩, rfl⟩
  · obtain rfl := List.mem_singleton.1 hid
    refine ⟨Int × Int, st, inv, fun x => x.2.natAbs, ⟨fun s b h => h, by kernel_rfl, ?_⟩⟩
    rintro ⟨x, y⟩ ⟨hx, hy, hxy, hg⟩
    simp only at hx hy hxy hg
    show r70 _ _ x y _ _ _
    rw [r70_text]
    refine bc_bne (fun h => ?_) (fun h => ?_)
    · simp only [bc_n h, true_and, and_true]
      have hlt := gcd_step_lt (a := x) h
      have hst := gcd_step x y
      refine ⟨(y, x.tmod y), ⟨⟨by show -9223372036854775808 ≤ y; omega, hy.2⟩, ?_, fun _ => hy.1, by show Int.gcd y (x.tmod y) = _; omega⟩, hlt, rfl⟩
      show -9223372036854775807 ≤ x.tmod y ∧ x.tmod y ≤ 9223372036854775807
      have : (x.tmod y).natAbs < y.natAbs := hlt
      omega
    · show (if 0 = 0 then _ else _)
      rw [if_pos rfl]
      show n70 _ _ x _
      have hxl := hxy h
      rw [n70_text, w64 (by omega) (by omega)]
      subst h
      have := gcd_end x
      show [dI _] = [dI _]
      rw [show ((Int.gcd a b : Nat) : Int) = (Int.gcd x 0 : Nat) by rw [hg], this]
      have e : (if 0 - x > x then 0 - x else x) = (if x < 0 then -x else x) := by split <;> split <;> omega
      rw [e]
theorem con88 (a b : Int) (hb : 0 < b ∧ b ≤ 9223372036854775807) : C4 88 [dI a, dI b] [dI (Int.gcd a b)] := by
  let inv : Int × Int → Prop := fun x => (0 ≤ x.1 ∧ x.1 ≤ 9223372036854775807) ∧ (0 ≤ x.2 ∧ x.2 ≤ 9223372036854775807) ∧ Int.gcd x.1 x.2 = Int.gcd a b
  let st : Int × Int → Slots × Blocks := fun x => (s88 x.1 x.2, [])
  refine con_of (L := fun _ s b => ∃ x, inv x ∧ st x = (s, b)) hok mixed Try.func88 rfl (by show 0 ≤ 400; omega) rfl (ids := [0]) (by kernel_rfl) rfl (fun caps => ?_) (fun id hid => ?_)
  · show g88 _ _ a b _
    rw [g88_text]
    have hlt := gcd_step_lt (a := a) (b := b) (by omega)
    have hst := gcd_step a b
    refine bc_bne (fun _ => ?_) (fun h => absurd h (by omega))
    rw [w64 (by omega) (by omega)]
    refine ⟨(b, if 0 - a.tmod b > a.tmod b then 0 - a.tmod b else a.tmod b), ⟨⟨by omega, hb.2⟩, ?_, ?_⟩, rfl⟩
    · show 0 ≤ (if 0 - a.tmod b > a.tmod b then 0 - a.tmod b else a.tmod b) ∧ (if 0 - a.tmod b > a.tmod b then 0 - a.tmod b else a.tmod b) ≤ 9223372036854775807
      split <;> omega
    · show Int.gcd b (if 0 - a.tmod b > a.tmod b then 0 - a.tmod b else a.tmod b) = Int.gcd a b
      have e : Int.gcd b (a.tmod b) = Int.gcd a b := by omega
      split
      · rw [← e]
        show Nat.gcd b.natAbs (0 - a.tmod b).natAbs = Nat.gcd b.natAbs (a.tmod b).natAbs
        congr 1; omega
      · exact e
  · obtain rfl := List.mem_singleton.1 hid
    refine ⟨Int × Int, st, inv, fun x => x.2.natAbs, ⟨fun s b h => h, by kernel_rfl, ?_⟩⟩
    rintro ⟨x, y⟩ ⟨hx, hy, hg⟩
    simp only at hx hy hg
    show r88 _ _ x y _ _ _
    rw [r88_text]
    refine bc_dec (fun h => ?_) (fun h => ?_)
    · have hn : y ≠ 0 := by omega
      simp only [bc_n hn, true_and, and_true]
      have hlt := gcd_step_lt (a := x) hn
      have hst := gcd_step x y
      have h0 : 0 ≤ x.tmod y := Int.tmod_nonneg _ hx.1
      refine ⟨(y, x.tmod y), ⟨hy, ⟨h0, ?_⟩, by show Int.gcd y (x.tmod y) = _; omega⟩, hlt, rfl⟩
      show x.tmod y ≤ 9223372036854775807
      have : (x.tmod y).natAbs < y.natAbs := hlt
      omega
    · show (if 0 = 0 then _ else _)
      rw [if_pos rfl]
      show n88 _ _ x _
      rw [n88_text]
      have hy0 : y = 0 := by omega
      subst hy0
      have := gcd_end x
      show [dI _] = [dI _]
      rw [show ((Int.gcd a b : Nat) : Int) = (Int.gcd x 0 : Nat) by rw [hg], this, if_neg (by omega)]
/-- a fraction in lowest terms -/
def low (n d : Int) : Int × Int := if d < 0 then ((0 - n).tdiv (Int.gcd n d), (0 - d).tdiv (Int.gcd n d)) else (n.tdiv (Int.gcd n d), d.tdiv (Int.gcd n d))
theorem gcd_neg2 (n d : Int) : Int.gcd (0 - n) (0 - d) = Int.gcd n d := by
  show Nat.gcd (0 - n).natAbs (0 - d).natAbs = Nat.gcd n.natAbs d.natAbs
  congr 1 <;> omega
theorem tdiv_small {n g : Int} (hn : -4611686018427387904 ≤ n ∧ n ≤ 4611686018427387904) (_ : 0 < g) : -4611686018427387904 ≤ n.tdiv g ∧ n.tdiv g ≤ 4611686018427387904 := by
  have h := Int.natAbs_tdiv_le_natAbs n g
  omega
theorem tdiv_neg' (n g : Int) : n.tdiv (0 - g) = (0 - n).tdiv g := by
  rw [show (0 : Int) - g = -g by omega, show (0 : Int) - n = -n by omega, Int.tdiv_neg, Int.neg_tdiv]
theorem con65 (n d : Int) (hn : -4611686018427387904 ≤ n ∧ n ≤ 4611686018427387904) (hd : -4611686018427387904 ≤ d ∧ d ≤ 4611686018427387904) (h0 : d ≠ 0) : C4 65 [dI n, dI d] [.agg [dI (low n d).1, dI (low n d).2]] := by
  refine con_flat hok mixed Try.func65 rfl (by show 0 ≤ 400; omega) rfl (by kernel_rfl) (fun caps => ?_)
  show g65 _ _ n d _
  rw [g65_text]
  have hg := gcd_pos (a := n) (b := d) (.inr h0)
  have hg' : ((Int.gcd n d : Nat) : Int) ≠ 0 := by omega
  refine bc_dec (fun h => ?_) (fun h => ?_)
  · rw [w64 (z := 0 - n) (by omega) (by omega), w64 (z := 0 - d) (by omega) (by omega)]
    have c := con88 (0 - n) (0 - d) ⟨by omega, by omega⟩
    rw [gcd_neg2] at c
    have b1 := tdiv_small (n := 0 - n) (g := Int.gcd n d) (by omega) hg
    have b2 := tdiv_small (n := 0 - d) (g := Int.gcd n d) (by omega) hg
    refine ⟨_, ⟨c⟩, ?_⟩
    simp only [bc_n hg', true_and, and_true]
    rw [w64 (by omega) (by omega), w64 (by omega) (by omega)]
    show _ = _
    rw [low, if_pos h]
  · have b1 := tdiv_small (n := n) (g := Int.gcd n d) hn hg
    have b2 := tdiv_small (n := d) (g := Int.gcd n d) hd hg
    refine ⟨_, ⟨con88 n d ⟨by omega, by omega⟩⟩, ?_⟩
    simp only [bc_n hg', true_and, and_true]
    rw [w64 (by omega) (by omega), w64 (by omega) (by omega)]
    show _ = _
    rw [low, if_neg h]
theorem con69 (n d : Int) (hn : -4611686018427387904 ≤ n ∧ n ≤ 4611686018427387904) (hd : -4611686018427387904 ≤ d ∧ d ≤ 4611686018427387904) (h0 : d ≠ 0) : C4 69 [dI n, dI d] [.agg [dI (low n d).1, dI (low n d).2]] := by
  refine con_flat hok mixed Try.func69 rfl (by show 0 ≤ 400; omega) rfl (by kernel_rfl) (fun caps => ?_)
  show g69 _ _ n d _
  rw [g69_text]
  have hg := gcd_pos (a := n) (b := d) (.inr h0)
  have hg' : ((Int.gcd n d : Nat) : Int) ≠ 0 := by omega
  have hgl : ((Int.gcd n d : Nat) : Int) ≤ 4611686018427387904 := by
    have : Int.gcd n d ≤ d.natAbs := Nat.le_of_dvd (by omega) (Nat.gcd_dvd_right ..)
    omega
  refine ⟨_, ⟨con70 n d (by omega) (by omega) (by omega)⟩, bc_dec (fun h => ?_) (fun h => ?_)⟩
  · rw [w64 (z := 0 - ((Int.gcd n d : Nat) : Int)) (by omega) (by omega)]
    have hg2 : 0 - ((Int.gcd n d : Nat) : Int) ≠ 0 := by omega
    have b1 := tdiv_small (n := 0 - n) (g := Int.gcd n d) (by omega) hg
    have b2 := tdiv_small (n := 0 - d) (g := Int.gcd n d) (by omega) hg
    simp only [bc_n hg2, true_and, and_true, tdiv_neg']
    rw [w64 (by omega) (by omega), w64 (by omega) (by omega)]
    show _ = _
    rw [low, if_pos h]
  · have b1 := tdiv_small (n := n) (g := Int.gcd n d) hn hg
    have b2 := tdiv_small (n := d) (g := Int.gcd n d) hd hg
    simp only [bc_n hg', true_and, and_true]
    rw [w64 (by omega) (by omega), w64 (by omega) (by omega)]
    show _ = _
    rw [low, if_neg h]
/-- rounded down, and what is left -/
def dv (n b : Int) : Int × Int := if n.tmod b < 0 then (IntKind.wrap .i64 (IntKind.wrap .i64 (n.tdiv b) - 1), IntKind.wrap .i64 (n.tmod b + b)) else (IntKind.wrap .i64 (n.tdiv b), n.tmod b)
theorem con115 (n b : Int) (h : b ≠ 0) : C4 115 [dI n, dI b] [dI (dv n b).1, dI (dv n b).2] := by
  refine con_walk hokE2 mixed (u := 8) (by decide) Try.func115 rfl (by show 0 ≤ 400; omega) (fun caps => ?_)
  show g115 _ n b _
  rw [g115_text]
  simp only [bc_n h, true_and, and_true]
  refine bc_dec (fun h1 => ?_) (fun h1 => ?_)
  · show _ = _; rw [dv, if_pos h1]
  · show _ = _; rw [dv, if_neg h1]
end Go.Proofs.M4

/- Chapter 4: tables, in data. -/
namespace Go.Proofs.M4
open Go Go.Abs Go.Proofs
set_option maxRecDepth 100000
abbrev tabD (ps : List (Int × Int)) : List D := [dI (tab ps).1, dI (tab ps).2]
theorem con14 (ps : List (Int × Int)) (hlen : ps.length < 1000000000) : C4 14 [dTab ps] (tabD ps) := by
  let inv : Nat × Nat → Prop := fun x => x.1 ≤ ps.length ∧ tab ps = tchk (ps.drop x.1) (prev ps x.1) x.1
  let st : Nat × Nat → Slots × Blocks := fun x => (s14 ps.length x.2 x.1, [T500 (vp ps)])
  refine con_of (L := fun _ s b => ∃ x, inv x ∧ st x = (s, b)) hok mixed Try.func14 rfl (by show 1 ≤ 400; omega) rfl (ids := [0]) (by kernel_rfl) rfl (fun caps => ?_) (fun id hid => ?_)
  · show g14 _ _ ps.length (caps 500) (vp ps) _
    rw [g14_text]
    refine bc_beq (fun h => ?_) (fun h0 => bc_dec (fun h => ?_) (fun h5 => ?_))
    · show _ = _; rw [tabD, tab, if_pos (by omega)]
    · show _ = _; rw [tabD, tab, if_neg (by omega), if_pos (by omega)]
    · exact ⟨(0, caps 500), ⟨by simp, by rw [tab, if_neg (by omega), if_neg (by omega)]; rfl⟩, rfl⟩
  · obtain rfl := List.mem_singleton.1 hid
    refine ⟨Nat × Nat, st, inv, fun x => ps.length - x.1, ⟨fun s b h => h, by kernel_rfl, ?_⟩⟩
    rintro ⟨i, cap⟩ ⟨hi, hr⟩
    simp only at hi hr
    show r14 _ _ ps.length cap (vp ps) i _ _ _
    rw [r14_text]
    refine bc_dec (fun h => ?_) (fun h => ?_)
    · have hi' : i < ps.length := by omega
      have hz : (0 : Int) ≤ (i : Int) := by omega
      rw [List.drop_eq_getElem_cons hi', tchk_cons] at hr
      have bad : ¬ (xErr ps[i].1 = 0 ∧ vErr ps[i].2 = 0) → [dI i, dI 2] = tabD ps := fun hb => by rw [tabD, hr, if_neg hb]
      rw [xErr0, vErr0] at bad
      simp only [Int.toNat_natCast, bc_t hz, bc_t h, at1 (vp_one ps i hi'), at1 (vp_sndA ps i hi' 500), true_and, and_true]
      refine bc_dec (fun h1 => bc_dec (fun h2 => bc_dec (fun h3 => bc_dec (fun h4 => ?_) (fun _ => bad (by omega))) (fun _ => bad (by omega))) (fun _ => bad (by omega))) (fun _ => bad (by omega))
      rw [if_pos ⟨xErr0.2 ⟨h1, h2⟩, vErr0.2 ⟨h3, h4⟩⟩] at hr
      cases i with
      | zero =>
        have hn : ¬ ((0 : Nat) : Int) > 0 := by omega
        simp only [bc_f hn, true_and]
        refine ⟨(1, cap), ⟨by show 1 ≤ ps.length; omega, ?_⟩, by show ps.length - 1 < ps.length - 0; omega, ?_⟩
        · rw [hr]; simp only [prev, List.getElem?_eq_getElem hi']; rfl
        · rw [w64 (by omega) (by omega)]; rfl
      | succ j =>
        have hj : j < ps.length := by omega
        have hw : IntKind.wrap .i64 (((j + 1 : Nat) : Int) - 1) = (j : Int) := by rw [w64 (by omega) (by omega)]; omega
        have hp : prev ps (j + 1) = some ps[j] := List.getElem?_eq_getElem hj
        have hz0 : (0 : Int) ≤ (j : Int) := by omega
        have hz1 : (j : Int) < (ps.length : Int) := by omega
        have hgt : ((j + 1 : Nat) : Int) > 0 := by omega
        simp only [hp] at hr
        simp only [bc_t hgt, hw, bc_t hz0, bc_t hz1, Int.toNat_natCast, at1 (vp_one ps j hj), and_true]
        refine bc_dec (fun h5 => ?_) (fun h5 => ?_)
        · simp only [bc_t h5, true_and]
          rw [if_pos h5] at hr
          show _ = _
          rw [tabD, hr]
        · simp only [bc_f h5, true_and]
          rw [if_neg h5] at hr
          refine ⟨(j + 1 + 1, cap), ⟨by show j + 1 + 1 ≤ ps.length; omega, ?_⟩, by show ps.length - (j + 1 + 1) < ps.length - (j + 1); omega, ?_⟩
          · rw [hr]; simp only [prev, List.getElem?_eq_getElem hi']; rfl
          · rw [w64 (by omega) (by omega)]; rfl
    · show (if 0 = 0 then _ else _)
      rw [if_pos rfl]
      show n14 _ _ _
      rw [n14_text]
      have : i = ps.length := by omega
      rw [this, List.drop_length] at hr
      show _ = _
      rw [tabD, hr]; rfl
theorem con10 (ps : List (Int × Int)) (hlen : ps.length < 1000000000) : C4 10 [dTab ps] (tabD ps) := by
  let inv : Nat × Nat → Prop := fun x => x.1 ≤ ps.length ∧ tab ps = tchk (ps.drop x.1) (prev ps x.1) x.1
  let st : Nat × Nat → Slots × Blocks := fun x => (s10 ps.length x.2 x.1, [T500 (vp ps)])
  refine con_of (L := fun _ s b => ∃ x, inv x ∧ st x = (s, b)) hok mixed Try.func10 rfl (by show 1 ≤ 400; omega) rfl (ids := [0]) (by kernel_rfl) rfl (fun caps => ?_) (fun id hid => ?_)
  · show g10 _ _ ps.length (caps 500) (vp ps) _
    rw [g10_text]
    refine bc_beq (fun h => ?_) (fun h0 => bc_dec (fun h => ?_) (fun h5 => ?_))
    · show _ = _; rw [tabD, tab, if_pos (by omega)]
    · show _ = _; rw [tabD, tab, if_neg (by omega), if_pos (by omega)]
    · exact ⟨(0, caps 500), ⟨by simp, by rw [tab, if_neg (by omega), if_neg (by omega)]; rfl⟩, rfl⟩
  · obtain rfl := List.mem_singleton.1 hid
    refine ⟨Nat × Nat, st, inv, fun x => ps.length - x.1, ⟨fun s b h => h, by kernel_rfl, ?_⟩⟩
    rintro ⟨i, cap⟩ ⟨hi, hr⟩
    simp only at hi hr
    show r10 _ _ ps.length cap (vp ps) i _ _ _
    rw [r10_text]
    refine bc_dec (fun h => ?_) (fun h => ?_)
    · have hi' : i < ps.length := by omega
      have hz : (0 : Int) ≤ (i : Int) := by omega
      rw [List.drop_eq_getElem_cons hi', tchk_cons] at hr
      simp only [Int.toNat_natCast, bc_t hz, bc_t h, at2 (vp_two ps i hi'), true_and, and_true]
      refine ⟨xErr ps[i].1, ⟨con55 _⟩, vErr ps[i].2, says_lim1 rfl, fst0 [xErr ps[i].1, vErr ps[i].2], ⟨con54 [_, _] (by simp)⟩, bc_bne (fun hne => ?_) (fun hz0 => ?_)⟩
      · rw [fst0_two] at hne ⊢
        have hb : ¬ (xErr ps[i].1 = 0 ∧ vErr ps[i].2 = 0) := by
          rintro ⟨h1, h2⟩
          rw [if_pos h1] at hne
          exact hne h2
        have h2 : (if xErr ps[i].1 = 0 then vErr ps[i].2 else xErr ps[i].1) = 2 := by
          have := xErr_or ps[i].1
          have := vErr_or ps[i].2
          split at hne <;> rename_i hx
          · rw [if_pos hx]; omega
          · rw [if_neg hx]; omega
        show _ = _
        rw [h2, tabD, hr, if_neg hb]
      · rw [fst0_two] at hz0
        have hb : xErr ps[i].1 = 0 ∧ vErr ps[i].2 = 0 := by
          split at hz0
          · rename_i hx; exact ⟨hx, hz0⟩
          · rename_i hx; exact absurd hz0 hx
        rw [if_pos hb] at hr
        cases i with
        | zero =>
          have hn : ¬ ((0 : Nat) : Int) > 0 := by omega
          simp only [bc_f hn, true_and]
          refine ⟨(1, cap), ⟨by show 1 ≤ ps.length; omega, ?_⟩, by show ps.length - 1 < ps.length - 0; omega, ?_⟩
          · rw [hr]; simp only [prev, List.getElem?_eq_getElem hi']; rfl
          · rw [w64 (by omega) (by omega)]; rfl
        | succ j =>
          have hj : j < ps.length := by omega
          have hw : IntKind.wrap .i64 (((j + 1 : Nat) : Int) - 1) = (j : Int) := by rw [w64 (by omega) (by omega)]; omega
          have hp : prev ps (j + 1) = some ps[j] := List.getElem?_eq_getElem hj
          have hy0 : (0 : Int) ≤ (j : Int) := by omega
          have hy1 : (j : Int) < (ps.length : Int) := by omega
          have hgt : ((j + 1 : Nat) : Int) > 0 := by omega
          simp only [hp] at hr
          simp only [bc_t hgt, hw, bc_t hy0, bc_t hy1, Int.toNat_natCast, at1 (vp_one ps j hj), and_true]
          refine bc_dec (fun h5 => ?_) (fun h5 => ?_)
          · simp only [bc_t h5, true_and]
            rw [if_pos h5] at hr
            show _ = _
            rw [tabD, hr]
          · simp only [bc_f h5, true_and]
            rw [if_neg h5] at hr
            refine ⟨(j + 1 + 1, cap), ⟨by show j + 1 + 1 ≤ ps.length; omega, ?_⟩, by show ps.length - (j + 1 + 1) < ps.length - (j + 1); omega, ?_⟩
            · rw [hr]; simp only [prev, List.getElem?_eq_getElem hi']; rfl
            · rw [w64 (by omega) (by omega)]; rfl
    · show (if 0 = 0 then _ else _)
      rw [if_pos rfl]
      show n10 _ _ _
      rw [n10_text]
      have : i = ps.length := by omega
      rw [this, List.drop_length] at hr
      show _ = _
      rw [tabD, hr]; rfl
theorem con11 (ps : List (Int × Int)) (hlen : ps.length < 1000000000) : C4 11 [dTab ps] [dTab ps] := by
  refine con_flat hok mixed Try.func11 rfl (by show 1 ≤ 400; omega) rfl (by kernel_rfl) (fun caps => ?_)
  show g11 _ _ ps.length (caps 500) (vp ps) _
  rw [g11_text]
  refine bc_yes (by simp) (bc_beq (fun h => ?_) (fun h => bc_yes (by omega) (bc_yes (by omega) (bc_yes (by omega) ?_))))
  · refine ⟨⟨rfl, rfl⟩, ?_⟩
    have : ps = [] := List.length_eq_zero_iff.1 h
    subst this
    rfl
  · refine ⟨⟨rfl, by simp⟩, ?_⟩
    show [D.sl (0 + ps.length) 2 _] = [dTab ps]
    rw [vp_whole]
    simp
theorem con11n : C4 11 [.nil] [dTab []] := by
  refine con_flat hok mixed Try.func11 rfl (by show 0 ≤ 400; omega) rfl (by kernel_rfl) (fun caps => ?_)
  show g11n _ _ _
  rw [g11n_text]
  exact ⟨⟨rfl, rfl⟩, rfl⟩
end Go.Proofs.M4

/- What is left to show of each function, written out; the kernel reckons it. -/
namespace Go.Proofs.M4
open Go Go.Abs Go.Proofs
set_option maxRecDepth 100000
set_option linter.unusedVariables false
def r13b (C : Ct) (L : AtLoop) (n cap : Nat) (l : List Value) (x y : Int) (m : Nat) (vs : List Value) (i : Int) (B : Bx) (X : Xx) (k : List D → Prop) : Prop := wpRound Try.prog (hM C) L 13 0 (s13 n cap m m i) (b13 x y l (.sym vs true 1)) B X (dataK k)
theorem r13b_text (C : Ct) (L : AtLoop) (n : Nat) (cap : Nat) (l : List Go.Value) (x : Int) (y : Int) (m : Nat) (vs : List Go.Value) (i : Int) (B : Bx) (X : Xx) (k : List D → Prop) : r13b C L n cap l x y m vs i B X k =
 (bcase (decide (i < (↑n : Int)))
 (bcase (decide (0 ≤ i))
 (bcase (decide (i < (↑n : Int)))
 (∃ n1 : Int,
 (∃ n2 : Int,
 ((At (l) (0 + Int.toNat i * 2) 2 [(Go.Value.int Go.IntKind.i64 (n1)), (Go.Value.int Go.IntKind.i64 (n2))]) ∧
 (bcase (decide (x < n1))
 (bcase (decide (n1 < y))
 (bcase (decide (m < m + 1))
 (bcase (decide ((2 * (m + 1) + 768) * 8 ≤ 281474976710656))
 (bcase (decide (m + 1 ≤ 1099511627776))
 (bcase (decide (0 + m * 1 ≤ List.length vs))
 (bcase (decide (0 + m * 1 = List.length vs))
 (B [(Prod.mk 3 (Go.Value.pointer (Option.some (Go.Addr.mk 1000 0 Option.none)))), (Prod.mk 4 (Go.Value.pointer (Option.some (Go.Addr.mk 1001 0 Option.none)))), (Prod.mk 9 (Go.Value.slice (Option.some (Go.Addr.mk 1002 0 Option.none)) (m + 1) (m + 1))), (Prod.mk 42 (Go.Value.slice (Option.some (Go.Addr.mk 500 0 Option.none)) (n) (cap))), (Prod.mk 43 (Go.Value.int Go.IntKind.i64 ((↑n : Int)))), (Prod.mk 44 (Go.Value.int Go.IntKind.i64 (Go.IntKind.wrap Go.IntKind.i64 (i + 1))))] [(Prod.mk 1000 (AObj.cells [(Go.Value.int Go.IntKind.i64 (x)), (Go.Value.int Go.IntKind.i64 (y))] 24 false 1)), (Prod.mk 1001 (AObj.cells [(Go.Value.int Go.IntKind.i64 (0 : Int)), (Go.Value.int Go.IntKind.i64 (0 : Int))] 24 false 2)), (Prod.mk 1002 (AObj.sym ((List.take (m * 1) (List.drop 0 vs)) ++ [(Go.Value.int Go.IntKind.i64 (n2))]) true 1)), (Prod.mk 500 (AObj.sym (l) false 2))])
 False)
 False)
 False)
 False)
 False)
 (B [(Prod.mk 3 (Go.Value.pointer (Option.some (Go.Addr.mk 1000 0 Option.none)))), (Prod.mk 4 (Go.Value.pointer (Option.some (Go.Addr.mk 1001 0 Option.none)))), (Prod.mk 9 (Go.Value.slice (Option.some (Go.Addr.mk 1002 0 Option.none)) (m) (m))), (Prod.mk 42 (Go.Value.slice (Option.some (Go.Addr.mk 500 0 Option.none)) (n) (cap))), (Prod.mk 43 (Go.Value.int Go.IntKind.i64 ((↑n : Int)))), (Prod.mk 44 (Go.Value.int Go.IntKind.i64 (Go.IntKind.wrap Go.IntKind.i64 (i + 1))))] [(Prod.mk 1000 (AObj.cells [(Go.Value.int Go.IntKind.i64 (x)), (Go.Value.int Go.IntKind.i64 (y))] 24 false 1)), (Prod.mk 1001 (AObj.cells [(Go.Value.int Go.IntKind.i64 (0 : Int)), (Go.Value.int Go.IntKind.i64 (0 : Int))] 24 false 2)), (Prod.mk 1002 (AObj.sym (vs) true 1)), (Prod.mk 500 (AObj.sym (l) false 2))]))
 (B [(Prod.mk 3 (Go.Value.pointer (Option.some (Go.Addr.mk 1000 0 Option.none)))), (Prod.mk 4 (Go.Value.pointer (Option.some (Go.Addr.mk 1001 0 Option.none)))), (Prod.mk 9 (Go.Value.slice (Option.some (Go.Addr.mk 1002 0 Option.none)) (m) (m))), (Prod.mk 42 (Go.Value.slice (Option.some (Go.Addr.mk 500 0 Option.none)) (n) (cap))), (Prod.mk 43 (Go.Value.int Go.IntKind.i64 ((↑n : Int)))), (Prod.mk 44 (Go.Value.int Go.IntKind.i64 (Go.IntKind.wrap Go.IntKind.i64 (i + 1))))] [(Prod.mk 1000 (AObj.cells [(Go.Value.int Go.IntKind.i64 (x)), (Go.Value.int Go.IntKind.i64 (y))] 24 false 1)), (Prod.mk 1001 (AObj.cells [(Go.Value.int Go.IntKind.i64 (0 : Int)), (Go.Value.int Go.IntKind.i64 (0 : Int))] 24 false 2)), (Prod.mk 1002 (AObj.sym (vs) true 1)), (Prod.mk 500 (AObj.sym (l) false 2))])))))
 False)
 False)
 (X 0 [(Prod.mk 4 (Go.Value.pointer (Option.some (Go.Addr.mk 1000 0 Option.none)))), (Prod.mk 9 (Go.Value.slice (Option.some (Go.Addr.mk 1001 0 Option.none)) (m) (m)))] [(Prod.mk 1000 (AObj.cells [(Go.Value.int Go.IntKind.i64 (0 : Int)), (Go.Value.int Go.IntKind.i64 (0 : Int))] 24 false 2)), (Prod.mk 1001 (AObj.sym (vs) true 1))])) := by kernel_rfl
def n13b (C : Ct) (L : AtLoop) (m : Nat) (vs : List Value) (k : List D → Prop) : Prop := wpNext Try.prog (hM C) L 13 0 .normal [(4, P1 1000 0), (9, .slice (some ⟨1001, 0, none⟩) m m)] [(1000, .cells [vI 0, vI 0] 24 false 2), (1001, .sym vs true 1)] (dataK k)
theorem n13b_text (C : Ct) (L : AtLoop) (m : Nat) (vs : List Go.Value) (k : List D → Prop) : n13b C L m vs k =
 (bcase (decide (0 + m * 1 ≤ List.length vs))
 (∃ n1 : Int,
 ((Says C 59 [(D.sl (m) 1 (List.take (m * 1) (List.drop 0 vs)))] [(D.val (Go.Value.int Go.IntKind.i64 (n1)))]) ∧
 (bcase (decide (0 + m * 1 ≤ List.length vs))
 (∃ n2 : Int,
 ((Says C 60 [(D.sl (m) 1 (List.take (m * 1) (List.drop 0 vs)))] [(D.val (Go.Value.int Go.IntKind.i64 (n2)))]) ∧
 (k [(D.agg [(D.val (Go.Value.int Go.IntKind.i64 (n1))), (D.val (Go.Value.int Go.IntKind.i64 (n2)))]), (D.val (Go.Value.int Go.IntKind.i64 (0 : Int)))])))
 False)))
 False) := by kernel_rfl
def n17 (C : Ct) (L : AtLoop) (lo hi : Int) (k : List D → Prop) : Prop := wpNext Try.prog (hM C) L 17 0 .normal [(4, P1 1000 0), (7, P1 1001 0)] [(1000, .cells [vI 0, vI 0] 24 false 2), (1001, .cells [vI lo, vI hi] 24 false 2)] (dataK k)
theorem n17_text (C : Ct) (L : AtLoop) (lo : Int) (hi : Int) (k : List D → Prop) : n17 C L lo hi k =
 (k [(D.agg [(D.val (Go.Value.int Go.IntKind.i64 (lo))), (D.val (Go.Value.int Go.IntKind.i64 (hi)))])]) := by kernel_rfl
def n45 (C : Ct) (L : AtLoop) (v w : Int) (at' : Int) (k : List D → Prop) : Prop := wpNext Try.prog (hM C) L 45 0 .normal [(5, P1 1000 0), (8, P1 1001 0), (10, vI at')] (b45 v w) (dataK k)
theorem n45_text (C : Ct) (L : AtLoop) (v : Int) (w : Int) (at' : Int) (k : List D → Prop) : n45 C L v w at' k =
 (k [(D.agg [(D.val (Go.Value.int Go.IntKind.i64 (Go.IntKind.wrap Go.IntKind.i64 (v + 1)))), (D.val (Go.Value.int Go.IntKind.i64 (at')))]), (D.val (Go.Value.int Go.IntKind.i64 (0 : Int)))]) := by kernel_rfl
end Go.Proofs.M4

/- Chapter 4: values of tables, in data. -/
namespace Go.Proofs.M4
open Go Go.Abs Go.Proofs
set_option maxRecDepth 100000
theorem con61 (n b : Int) (hn : -4611686018427387904 ≤ n ∧ n ≤ 4611686018427387904) (hb : 0 < b) : C4 61 [dI n, dI b] [dI (n / b)] := by
  refine con_flat hok mixed Try.func61 rfl (by show 0 ≤ 400; omega) rfl (by kernel_rfl) (fun caps => ?_)
  show g61 _ _ n b _
  rw [g61_text]
  have hne : b ≠ 0 := by omega
  have hs := tdiv_small (n := n) hn hb
  have hf := floor_eq (n := n) hb
  refine bc_bne (fun _ => bc_bne (fun _ => bc_dec (fun h => ?_) (fun h => ?_)) (fun h => absurd h hne)) (fun h => absurd h hne)
  · rw [if_pos h] at hf
    rw [w64 (z := n.tdiv b) (by omega) (by omega), w64 (by omega) (by omega)]
    show [dI _] = _; rw [hf]
  · rw [if_neg h] at hf
    rw [w64 (z := n.tdiv b) (by omega) (by omega)]
    show [dI _] = _; rw [hf]
/-- the numbers of a line -/
theorem line_num {p q : Int × Int} {x : Int} (hp : 0 ≤ p.1 ∧ p.1 ≤ 20000) (hq : 0 ≤ q.1 ∧ q.1 ≤ 20000) (vp' : 1 ≤ p.2 ∧ p.2 ≤ 100000) (vq : 1 ≤ q.2 ∧ q.2 ≤ 100000) (h1 : p.1 ≤ x) (h2 : x ≤ q.1) :
    (0 ≤ p.2 * (q.1 - x) ∧ p.2 * (q.1 - x) ≤ 2000000000) ∧ (0 ≤ q.2 * (x - p.1) ∧ q.2 * (x - p.1) ≤ 2000000000) := by
  refine ⟨⟨Int.mul_nonneg (by omega) (by omega), ?_⟩, Int.mul_nonneg (by omega) (by omega), ?_⟩
  · have := Int.mul_le_mul (a := p.2) (c := 100000) (b := q.1 - x) (d := 20000) (by omega) (by omega) (by omega) (by omega); omega
  · have := Int.mul_le_mul (a := q.2) (c := 100000) (b := x - p.1) (d := 20000) (by omega) (by omega) (by omega) (by omega); omega
theorem con57 {ps : List (Int × Int)} (hv : VT ps) (x : Int) (hx : 0 ≤ x ∧ x ≤ 20000) : C4 57 [dTab ps, dI x] [dI (valV x ps)] := by
  have hlen := hv.few
  have hpos := hv.some
  let at_ : Nat → Prop := fun i => match i with
    | 0 => True
    | j + 1 => ∀ h : j < ps.length, ps[j].1 < x ∧ valV x ps = valGo x ps[j] (ps.drop (j + 1))
  let inv : Nat × Nat → Prop := fun y => y.1 ≤ ps.length ∧ at_ y.1
  let st : Nat × Nat → Slots × Blocks := fun y => (s57 ps.length y.2 x y.1, [T500 (vp ps)])
  refine con_of (L := fun _ s b => ∃ x, inv x ∧ st x = (s, b)) hok mixed Try.func57 rfl (by show 1 ≤ 400; omega) rfl (ids := [0]) (by kernel_rfl) rfl (fun caps => ?_) (fun id hid => ?_)
  · show g57 _ _ ps.length (caps 500) (vp ps) x _
    rw [g57_text]
    exact ⟨(0, caps 500), ⟨by simp, trivial⟩, rfl⟩
  · obtain rfl := List.mem_singleton.1 hid
    refine ⟨Nat × Nat, st, inv, fun x => ps.length - x.1, ⟨fun s b h => h, by kernel_rfl, ?_⟩⟩
    rintro ⟨i, cap⟩ ⟨hi, hr⟩
    simp only at hi hr
    have out : (∀ h : i < ps.length, x ≤ ps[i].1) → n57 C4 (fun _ s b => ∃ x, inv x ∧ st x = (s, b)) ps.length cap (vp ps) x i (· = [dI (valV x ps)]) := by
      intro hxi
      rw [n57_text]
      cases i with
      | zero =>
        refine bc_true (by simp) (bc_yes (by omega) ⟨_, vp_snd ps 0 hpos, ?_⟩)
        show [dI _] = [dI _]
        rw [valV_le hpos (hxi hpos)]
      | succ j =>
        have hj : j < ps.length := by omega
        obtain ⟨hlt, hr⟩ := hr hj
        have hw : IntKind.wrap .i64 (((j + 1 : Nat) : Int) - 1) = (j : Int) := by rw [w64 (by omega) (by omega)]; omega
        have hz0 : (0 : Int) ≤ (j : Int) := by omega
        have hz1 : (j : Int) < (ps.length : Int) := by omega
        simp only [hw, bc_t hz0, bc_t hz1, Int.toNat_natCast]
        refine bc_false (by simp; omega) (bc_beq (fun he => ?_) (fun hne => ?_))
        · refine ⟨_, vp_sndA ps j hj 500, ?_⟩
          rw [List.drop_eq_nil_of_le (by omega)] at hr
          show [dI _] = [dI _]
          rw [hr]; rfl
        · have hi' : j + 1 < ps.length := by omega
          have hy0 : (0 : Int) ≤ ((j + 1 : Nat) : Int) := by omega
          have hy1 : ((j + 1 : Nat) : Int) < (ps.length : Int) := by omega
          rw [List.drop_eq_getElem_cons hi', valGo, if_pos (hxi hi')] at hr
          have hup := hv.up j hi'
          have h1 := hv.lo ps[j] (List.getElem_mem hj)
          have h2 := hv.lo ps[j + 1] (List.getElem_mem hi')
          have v1 := hv.val ps[j] (List.getElem_mem hj)
          have v2 := hv.val ps[j + 1] (List.getElem_mem hi')
          obtain ⟨m1, m2⟩ := line_num h1 h2 v1 v2 (by omega) (hxi hi')
          have hxi' := hxi hi'
          have hd : IntKind.wrap .i64 (ps[j + 1].1 - ps[j].1) ≠ 0 := by rw [w64 (by omega) (by omega)]; omega
          simp only [bc_t hy0, bc_t hy1, at2 (vp_two ps j hj), at2 (vp_two ps (j + 1) hi'), bc_n hd, true_and, and_true]
          show [dI _] = [dI _]
          rw [hr, line, w64 (z := ps[j + 1].1 - x) (by omega) (by omega), w64 (z := x - ps[j].1) (by omega) (by omega), w64 (z := ps[j + 1].1 - ps[j].1) (by omega) (by omega), w64 (z := ps[j].2 * _) (by omega) (by omega), w64 (z := ps[j + 1].2 * _) (by omega) (by omega), w64 (z := _ + _) (by omega) (by omega), tdiv_nn (by omega)]
          have hb := line_bounds (p := ps[j]) (q := ps[j + 1]) hup (by omega : ps[j].1 ≤ x) hxi' v1 v2
          unfold line at hb
          rw [w64 (by omega) (by omega)]
    show r57 _ _ ps.length cap (vp ps) x i _ _ _
    rw [r57_text]
    refine bc_dec (fun h => ?_) (fun h => ?_)
    · have hi' : i < ps.length := by omega
      refine bc_yes (by omega) (bc_yes h ⟨_, vp_one ps i hi', bc_dec (fun hxl => ?_) (fun hxl => ?_)⟩)
      · refine ⟨(i + 1, cap), ⟨by show i + 1 ≤ ps.length; omega, ?_⟩, by show ps.length - (i + 1) < ps.length - i; omega, ?_⟩
        · intro _
          refine ⟨hxl, ?_⟩
          cases i with
          | zero => exact valV_gt hpos (by omega)
          | succ j =>
            have hr := (hr (show j < ps.length by omega)).2
            rw [List.drop_eq_getElem_cons hi', valGo, if_neg (by omega)] at hr
            exact hr
        · rw [w64 (by omega) (by omega)]; rfl
      · show (if 0 = 0 then _ else _)
        rw [if_pos rfl]
        exact out (fun _ => by omega)
    · show (if 0 = 0 then _ else _)
      rw [if_pos rfl]
      exact out (fun h' => by omega)
theorem con16 {ps : List (Int × Int)} (hv : VT ps) (x : Int) (_ : 0 ≤ x ∧ x ≤ 20000) : C4 16 [dTab ps, dI x] [dI (valV x ps)] := by
  have hlen := hv.few
  have hpos := hv.some
  let inv : Nat × Nat → Prop := fun y => 0 < y.1 ∧ y.1 ≤ ps.length ∧ ∀ h : y.1 - 1 < ps.length, ps[y.1 - 1].1 < x ∧ valV x ps = valGo x ps[y.1 - 1] (ps.drop y.1)
  let st : Nat × Nat → Slots × Blocks := fun y => (s57 ps.length y.2 x y.1, [T500 (vp ps)])
  refine con_of (L := fun _ s b => ∃ x, inv x ∧ st x = (s, b)) hok mixed Try.func16 rfl (by show 1 ≤ 400; omega) rfl (ids := [0]) (by kernel_rfl) rfl (fun caps => ?_) (fun id hid => ?_)
  · show g16 _ _ ps.length (caps 500) (vp ps) x _
    rw [g16_text]
    refine bc_yes (by omega) ⟨_, vp_one ps 0 hpos, bc_dec (fun hx => ?_) (fun hx => ?_)⟩
    · refine bc_yes (by omega) ⟨_, vp_snd ps 0 hpos, ?_⟩
      show [dI _] = [dI _]
      rw [valV_le hpos hx]
    · refine ⟨(1, caps 500), ⟨by show 0 < 1; omega, by show 1 ≤ ps.length; omega, fun _ => ⟨?_, ?_⟩⟩, rfl⟩
      · show ps[0].1 < x; omega
      · exact valV_gt hpos hx
  · obtain rfl := List.mem_singleton.1 hid
    refine ⟨Nat × Nat, st, inv, fun x => ps.length - x.1, ⟨fun s b h => h, by kernel_rfl, ?_⟩⟩
    rintro ⟨i, cap⟩ ⟨hi0, hi, hr⟩
    simp only at hi0 hi hr
    obtain ⟨j, rfl⟩ : ∃ j, i = j + 1 := ⟨i - 1, by omega⟩
    have hj : j < ps.length := by omega
    have hr := hr hj
    simp only [Nat.add_sub_cancel] at hr
    obtain ⟨hlt, hr⟩ := hr
    have hw : IntKind.wrap .i64 (((j + 1 : Nat) : Int) - 1) = (j : Int) := by rw [w64 (by omega) (by omega)]; omega
    have hz0 : (0 : Int) ≤ (j : Int) := by omega
    have hz1 : (j : Int) < (ps.length : Int) := by omega
    show r16 _ _ ps.length cap (vp ps) x ((j + 1 : Nat) : Int) _ _ _
    rw [r16_text]
    refine bc_dec (fun h => ?_) (fun h => ?_)
    · have hi' : j + 1 < ps.length := by omega
      have hy0 : (0 : Int) ≤ ((j + 1 : Nat) : Int) := by omega
      rw [List.drop_eq_getElem_cons hi', valGo] at hr
      simp only [hw, bc_t hz0, bc_t hz1, bc_t hy0, bc_t h, Int.toNat_natCast, at2 (vp_two ps j hj), at2 (vp_two ps (j + 1) hi'), true_and, and_true]
      refine bc_dec (fun hxq => ?_) (fun hxq => ?_)
      · rw [if_pos hxq] at hr
        have hup := hv.up j hi'
        have h1 := hv.lo ps[j] (List.getElem_mem hj)
        have h2 := hv.lo ps[j + 1] (List.getElem_mem hi')
        have v1 := hv.val ps[j] (List.getElem_mem hj)
        have v2 := hv.val ps[j + 1] (List.getElem_mem hi')
        obtain ⟨m1, m2⟩ := line_num h1 h2 v1 v2 (by omega) hxq
        have e : ps[j].2 * (ps[j + 1].1 - ps[j].1) + (ps[j + 1].2 - ps[j].2) * (x - ps[j].1) = ps[j].2 * (ps[j + 1].1 - x) + ps[j + 1].2 * (x - ps[j].1) := by
          have : ps[j + 1].1 - ps[j].1 = (ps[j + 1].1 - x) + (x - ps[j].1) := by omega
          rw [this, Int.mul_add, Int.sub_mul]; omega
        have b1 : -2000000000 ≤ (ps[j + 1].2 - ps[j].2) * (x - ps[j].1) ∧ (ps[j + 1].2 - ps[j].2) * (x - ps[j].1) ≤ 2000000000 := by
          have c1 : 0 ≤ ps[j].2 * (x - ps[j].1) := Int.mul_nonneg (by omega) (by omega)
          have c2 : ps[j].2 * (x - ps[j].1) ≤ 100000 * 20000 := Int.mul_le_mul (by omega) (by omega) (by omega) (by omega)
          rw [Int.sub_mul]; omega
        rw [w64 (z := ps[j + 1].1 - ps[j].1) (by omega) (by omega), w64 (z := x - ps[j].1) (by omega) (by omega), w64 (z := ps[j + 1].2 - ps[j].2) (by omega) (by omega), w64 (z := ps[j].2 * _) (by omega) (by omega), w64 (z := (ps[j + 1].2 - ps[j].2) * _) (by omega) (by omega), w64 (z := _ + _) (by omega) (by omega), e]
        refine ⟨_, ⟨con61 _ _ ⟨by omega, by omega⟩ (by omega)⟩, ?_⟩
        show [dI _] = [dI _]
        rw [hr]; rfl
      · rw [if_neg hxq] at hr
        refine ⟨(j + 1 + 1, cap), ⟨by show 0 < j + 1 + 1; omega, by show j + 1 + 1 ≤ ps.length; omega, fun _ => ⟨?_, hr⟩⟩, by show ps.length - (j + 1 + 1) < ps.length - (j + 1); omega, ?_⟩
        · show ps[j + 1].1 < x; omega
        · rw [w64 (by omega) (by omega)]; rfl
    · show (if 0 = 0 then _ else _)
      rw [if_pos rfl]
      show n16 _ _ ps.length cap (vp ps) _
      have he : j + 1 = ps.length := by omega
      have hwl : IntKind.wrap .i64 ((ps.length : Int) - 1) = (j : Int) := by rw [← he]; exact hw
      rw [n16_text]
      simp only [hwl, bc_t hz0, bc_t hz1, Int.toNat_natCast]
      rw [List.drop_eq_nil_of_le (by omega)] at hr
      refine ⟨_, vp_sndA ps j hj 500, ?_⟩
      show [dI _] = [dI _]
      rw [hr]; rfl
end Go.Proofs.M4

/- Chapter 4: ranges of values, in data. -/
namespace Go.Proofs.M4
open Go Go.Abs Go.Proofs
set_option maxRecDepth 100000
theorem con59 (a : Int) (r : List Int) (hlen : (a :: r).length < 1000000000) : C4 59 [.sl (a :: r).length 1 (vi (a :: r))] [dI (r.foldl min a)] := by
  generalize hl : a :: r = l at hlen ⊢
  let inv : (Nat × Int) × Nat → Prop := fun x => x.1.1 ≤ l.length ∧ r.foldl min a = (l.drop x.1.1).foldl min x.1.2
  let st : (Nat × Int) × Nat → Slots × Blocks := fun x => (s59 l.length x.2 x.1.2 x.1.1, [Q500 (vi l)])
  have hpos : 0 < l.length := by rw [← hl]; simp
  refine con_of (L := fun _ s b => ∃ x, inv x ∧ st x = (s, b)) hok mixed Try.func59 rfl (by show 1 ≤ 400; omega) rfl (ids := [0]) (by kernel_rfl) rfl (fun caps => ?_) (fun id hid => ?_)
  · show g59 _ _ l.length (caps 500) (vi l) _
    rw [g59_text]
    refine bc_no (by omega) (bc_yes (by omega) ⟨l[0], vi_at l 0 hpos, ((1, l[0]), caps 500), ⟨by show 1 ≤ l.length; omega, ?_⟩, rfl⟩)
    subst hl; rfl
  · obtain rfl := List.mem_singleton.1 hid
    refine ⟨_, st, inv, fun x => l.length - x.1.1, ⟨fun s b h => h, by kernel_rfl, ?_⟩⟩
    rintro ⟨⟨i, m⟩, cap⟩ ⟨hi, hr⟩
    simp only at hi hr
    show r59 _ _ l.length cap (vi l) m i _ _ _
    rw [r59_text]
    refine bc_dec (fun h => ?_) (fun h => ?_)
    · have hi' : i < l.length := by omega
      rw [List.drop_eq_getElem_cons hi', List.foldl_cons] at hr
      refine bc_yes (by omega) (bc_yes h ⟨l[i], vi_at l i hi', ((i + 1, min m l[i]), cap), ⟨by show i + 1 ≤ l.length; omega, hr⟩, by show l.length - (i + 1) < l.length - i; omega, ?_⟩)
      rw [w64 (by omega) (by omega), show (if l[i] < m then l[i] else m) = min m l[i] by split <;> omega]; rfl
    · show (if 0 = 0 then _ else _)
      rw [if_pos rfl]
      show n59 _ _ m _
      rw [n59_text]
      have : i = l.length := by omega
      rw [this, List.drop_length] at hr
      show [dI _] = [dI _]
      rw [hr]; rfl
theorem con60 (a : Int) (r : List Int) (hlen : (a :: r).length < 1000000000) : C4 60 [.sl (a :: r).length 1 (vi (a :: r))] [dI (r.foldl max a)] := by
  generalize hl : a :: r = l at hlen ⊢
  let inv : (Nat × Int) × Nat → Prop := fun x => x.1.1 ≤ l.length ∧ r.foldl max a = (l.drop x.1.1).foldl max x.1.2
  let st : (Nat × Int) × Nat → Slots × Blocks := fun x => (s59 l.length x.2 x.1.2 x.1.1, [Q500 (vi l)])
  have hpos : 0 < l.length := by rw [← hl]; simp
  refine con_of (L := fun _ s b => ∃ x, inv x ∧ st x = (s, b)) hok mixed Try.func60 rfl (by show 1 ≤ 400; omega) rfl (ids := [0]) (by kernel_rfl) rfl (fun caps => ?_) (fun id hid => ?_)
  · show g60 _ _ l.length (caps 500) (vi l) _
    rw [g60_text]
    refine bc_no (by omega) (bc_yes (by omega) ⟨l[0], vi_at l 0 hpos, ((1, l[0]), caps 500), ⟨by show 1 ≤ l.length; omega, ?_⟩, rfl⟩)
    subst hl; rfl
  · obtain rfl := List.mem_singleton.1 hid
    refine ⟨_, st, inv, fun x => l.length - x.1.1, ⟨fun s b h => h, by kernel_rfl, ?_⟩⟩
    rintro ⟨⟨i, m⟩, cap⟩ ⟨hi, hr⟩
    simp only at hi hr
    show r60 _ _ l.length cap (vi l) m i _ _ _
    rw [r60_text]
    refine bc_dec (fun h => ?_) (fun h => ?_)
    · have hi' : i < l.length := by omega
      rw [List.drop_eq_getElem_cons hi', List.foldl_cons] at hr
      refine bc_yes (by omega) (bc_yes h ⟨l[i], vi_at l i hi', ((i + 1, max m l[i]), cap), ⟨by show i + 1 ≤ l.length; omega, hr⟩, by show l.length - (i + 1) < l.length - i; omega, ?_⟩)
      rw [w64 (by omega) (by omega), show (if l[i] > m then l[i] else m) = max m l[i] by split <;> omega]; rfl
    · show (if 0 = 0 then _ else _)
      rw [if_pos rfl]
      show n60 _ _ m _
      rw [n60_text]
      have : i = l.length := by omega
      rw [this, List.drop_length] at hr
      show [dI _] = [dI _]
      rw [hr]; rfl
theorem fst0_zero {a b : Int} : fst0 [a, b] = 0 ↔ a = 0 ∧ b = 0 := by
  rw [fst0_two]; split <;> simp_all
theorem con12 {ps : List (Int × Int)} (hlen : ps.length < 1000000000) (x : Int) : C4 12 [dTab ps, dI x] (if (tab ps).2 = 0 ∧ xErr x = 0 then [dI (valV x ps), dI 0] else [dI 0, dI (fst0 [(tab ps).2, xErr x])]) := by
  refine con_flat hok mixed Try.func12 rfl (by show 1 ≤ 400; omega) rfl (by kernel_rfl) (fun caps => ?_)
  show g12 _ _ ps.length (caps 500) (vp ps) x _
  rw [g12_text]
  simp only [vp_whole, vp_length]
  have hle : 0 + ps.length * 2 ≤ ps.length * 2 := by omega
  refine bc_yes hle ⟨_, _, ⟨con10 ps hlen⟩, xErr x, ⟨con55 x⟩, fst0 [(tab ps).2, xErr x], ⟨con54 [_, _] (by simp)⟩, bc_bne (fun h => ?_) (fun h => ?_)⟩
  · rw [if_neg (fun h' => h (fst0_zero.2 h'))]
  · have h' := fst0_zero.1 h
    refine bc_yes hle ⟨valV x ps, ⟨con57 (tab_ok h'.1) x (xErr0.1 h'.2)⟩, ?_⟩
    rw [if_pos h']
/-- the errors of a range of temperatures -/
def rErr (lo hi : Int) : Int := if xErr lo = 0 ∧ xErr hi = 0 then (if lo > hi then 9 else 0) else 2
theorem fst0_three (a b c : Int) : fst0 [a, b, c] = if a = 0 then (if b = 0 then c else b) else a := by
  simp only [fst0]
  repeat' split
  all_goals first | rfl | omega
theorem con13 {ps : List (Int × Int)} (hlen : ps.length < 1000000000) (lo hi : Int) : C4 13 [dTab ps, .agg [dI lo, dI hi]] (if (tab ps).2 = 0 ∧ rErr lo hi = 0 then [.agg [dI (mnOver lo hi ps), dI (mxOver lo hi ps)], dI 0] else [.agg [dI 0, dI 0], dI (if (tab ps).2 = 0 then rErr lo hi else (tab ps).2)]) := by
  let vals : Nat → List Int := fun i => ((ps.take i).filter fun p => decide (inn lo hi p)).map (·.2)
  let all : Nat → List Int := fun i => valV lo ps :: valV hi ps :: vals i
  let inv : Nat × Nat → Prop := fun x => x.1 ≤ ps.length ∧ (tab ps).2 = 0 ∧ rErr lo hi = 0
  let blk : Nat → AObj := fun i => if vals i = [] then .cells [vI (valV lo ps), vI (valV hi ps)] 3 false 1 else .sym (vi (all i)) true 1
  let st : Nat × Nat → Slots × Blocks := fun x => (s13 ps.length x.2 (all x.1).length (all x.1).length x.1, b13 lo hi (vp ps) (blk x.1))
  have hvals : ∀ i (h : i < ps.length), vals (i + 1) = if inn lo hi ps[i] then vals i ++ [ps[i].2] else vals i := by
    intro i h
    simp only [vals]
    rw [List.take_add_one, List.getElem?_eq_getElem h, Option.toList_some, List.filter_append, List.map_append]
    split
    · rename_i hc
      rw [List.filter_cons_of_pos (by simpa using hc)]; rfl
    · rename_i hc
      rw [List.filter_cons_of_neg (by simpa using hc)]; simp
  refine con_of (L := fun _ s b => ∃ x, inv x ∧ st x = (s, b)) hok mixed Try.func13 rfl (by show 1 ≤ 400; omega) rfl (ids := [0]) (by kernel_rfl) rfl (fun caps => ?_) (fun id hid => ?_)
  · show g13 _ _ ps.length (caps 500) (vp ps) lo hi _
    rw [g13_text]
    simp only [vp_whole, vp_length, eq_self, true_and, and_true]
    have hle : 0 + ps.length * 2 ≤ ps.length * 2 := by omega
    have start : (tab ps).2 = 0 → rErr lo hi = 0 → ∃ x, inv x ∧ st x = (s13 ps.length (caps 500) 2 2 0, b13 lo hi (vp ps) (.cells [vI (valV lo ps), vI (valV hi ps)] 3 false 1)) := fun hv hr => ⟨(0, caps 500), ⟨Nat.zero_le _, hv, hr⟩, rfl⟩
    refine bc_yes hle ⟨_, _, ⟨con10 ps hlen⟩, if xErr lo = 0 ∧ xErr hi = 0 then 0 else 2, ⟨con55b lo hi⟩, bc_dec (fun hgt => ?_) (fun hgt => ?_)⟩
    · refine ⟨fst0 [(tab ps).2, if xErr lo = 0 ∧ xErr hi = 0 then 0 else 2, 9], ⟨con54 [_, _, _] (by simp)⟩, bc_bne (fun h => ?_) (fun h => ?_)⟩
      · rw [fst0_three] at h ⊢
        have hr : rErr lo hi ≠ 0 := by unfold rErr; rw [if_pos hgt]; split <;> omega
        rw [if_neg (show ¬ ((tab ps).2 = 0 ∧ rErr lo hi = 0) from fun h' => hr h'.2)]
        have e : (if (tab ps).2 = 0 then (if (if xErr lo = 0 ∧ xErr hi = 0 then (0 : Int) else 2) = 0 then 9 else if xErr lo = 0 ∧ xErr hi = 0 then 0 else 2) else (tab ps).2) = if (tab ps).2 = 0 then rErr lo hi else (tab ps).2 := by
          unfold rErr
          rw [if_pos hgt]
          repeat' split
          all_goals first | rfl | omega
        show [_, dI _] = _
        rw [e]
      · exfalso
        rw [fst0_three] at h
        repeat' split at h
        all_goals omega
    · refine ⟨fst0 [(tab ps).2, if xErr lo = 0 ∧ xErr hi = 0 then 0 else 2, 0], ⟨con54 [_, _, _] (by simp)⟩, bc_bne (fun h => ?_) (fun h => ?_)⟩
      · rw [fst0_three] at h ⊢
        have e : (if (tab ps).2 = 0 then (if (if xErr lo = 0 ∧ xErr hi = 0 then (0 : Int) else 2) = 0 then 0 else if xErr lo = 0 ∧ xErr hi = 0 then 0 else 2) else (tab ps).2) = if (tab ps).2 = 0 then rErr lo hi else (tab ps).2 := by
          unfold rErr
          rw [if_neg hgt]
          repeat' split
          all_goals first | rfl | omega
        rw [e] at h ⊢
        rw [if_neg (show ¬ ((tab ps).2 = 0 ∧ rErr lo hi = 0) from fun h' => h (by rw [if_pos h'.1]; exact h'.2))]
      · rw [fst0_three] at h
        have ht : (tab ps).2 = 0 := by
          split at h
          · assumption
          · exact h
        rw [if_pos ht] at h
        have hx : xErr lo = 0 ∧ xErr hi = 0 := by
          by_cases hc : xErr lo = 0 ∧ xErr hi = 0
          · exact hc
          · rw [if_neg hc] at h; simp at h
        have hr : rErr lo hi = 0 := by rw [rErr, if_pos hx, if_neg hgt]
        have hv := tab_ok ht
        refine bc_yes hle ⟨valV lo ps, ⟨con57 hv lo (xErr0.1 hx.1)⟩, bc_yes hle ⟨valV hi ps, ⟨con57 hv hi (xErr0.1 hx.2)⟩, ?_⟩⟩
        exact start ht hr
  · obtain rfl := List.mem_singleton.1 hid
    refine ⟨Nat × Nat, st, inv, fun x => ps.length - x.1, ⟨fun s b h => h, by kernel_rfl, ?_⟩⟩
    rintro ⟨i, cap⟩ ⟨hi', hT, hr⟩
    simp only at hi' hT hr
    have hlen := (tab_ok hT).few
    have fin : (if (tab ps).2 = 0 ∧ rErr lo hi = 0 then [D.agg [dI (mnOver lo hi ps), dI (mxOver lo hi ps)], dI 0] else [.agg [dI 0, dI 0], dI (if (tab ps).2 = 0 then rErr lo hi else (tab ps).2)]) = [D.agg [dI ((valV hi ps :: vals ps.length).foldl min (valV lo ps)), dI ((valV hi ps :: vals ps.length).foldl max (valV lo ps))], dI 0] := by
      rw [if_pos ⟨hT, hr⟩]
      simp only [vals, List.take_length, List.foldl_cons, mnOver, mxOver, mnK_filter, mxK_filter]
    show wpRound _ _ _ 13 0 (st (i, cap)).1 (st (i, cap)).2 _ _ _
    by_cases hv0 : vals i = []
    · have hst : st (i, cap) = (s13 ps.length cap 2 2 i, b13 lo hi (vp ps) (.cells [vI (valV lo ps), vI (valV hi ps)] 3 false 1)) := by
        simp only [st, all, blk, hv0, if_true, List.length_cons, List.length_nil]
      rw [hst]
      show r13 _ _ ps.length cap (vp ps) lo hi (valV lo ps) (valV hi ps) i _ _ _
      rw [r13_text]
      refine bc_dec (fun h => ?_) (fun h => ?_)
      · have hi2 : i < ps.length := by omega
        have hz : (0 : Int) ≤ (i : Int) := by omega
        have same : ¬ inn lo hi ps[i] → ∃ y, inv y ∧ ps.length - y.1 < ps.length - i ∧ st y = (s13 ps.length cap 2 2 (IntKind.wrap .i64 ((i : Int) + 1)), b13 lo hi (vp ps) (.cells [vI (valV lo ps), vI (valV hi ps)] 3 false 1)) := by
          intro hn
          have e := hvals i hi2
          rw [if_neg hn, hv0] at e
          refine ⟨(i + 1, cap), ⟨by show i + 1 ≤ ps.length; omega, hT, hr⟩, by show ps.length - (i + 1) < ps.length - i; omega, ?_⟩
          rw [w64 (by omega) (by omega)]
          simp only [st, all, blk, e, if_true, List.length_cons, List.length_nil]
          rfl
        simp only [Int.toNat_natCast, bc_t hz, bc_t h, at2 (vp_two ps i hi2)]
        refine bc_dec (fun h1 => bc_dec (fun h2 => ?_) (fun h2 => same (fun hc => h2 hc.2))) (fun h1 => same (fun hc => h1 hc.1))
        have e := hvals i hi2
        rw [if_pos ⟨h1, h2⟩, hv0] at e
        refine ⟨(i + 1, cap), ⟨by show i + 1 ≤ ps.length; omega, hT, hr⟩, by show ps.length - (i + 1) < ps.length - i; omega, ?_⟩
        rw [w64 (by omega) (by omega)]
        simp only [st, all, blk, e, List.nil_append, List.length_cons, List.length_nil, List.cons_ne_nil, if_false, vi, List.map_cons, List.map_nil]
        rfl
      · show (if 0 = 0 then _ else _)
        rw [if_pos rfl]
        show n13 _ _ lo hi (valV lo ps) (valV hi ps) _
        have he : i = ps.length := by omega
        rw [he] at hv0
        rw [n13_text, fin, hv0]
        exact ⟨_, ⟨con59 (valV lo ps) [valV hi ps] (by simp)⟩, _, ⟨con60 (valV lo ps) [valV hi ps] (by simp)⟩, rfl⟩
    · have hst : st (i, cap) = (s13 ps.length cap (all i).length (all i).length i, b13 lo hi (vp ps) (.sym (vi (all i)) true 1)) := by
        simp only [st, blk, hv0, if_false]
      rw [hst]
      have hal : (all i).length ≤ 14 := by
        simp only [all, vals, List.length_cons, List.length_map]
        have := List.length_filter_le (fun p => decide (inn lo hi p)) (ps.take i)
        have h3 : (ps.take i).length ≤ ps.length := List.length_take_le' ..
        omega
      show r13b _ _ ps.length cap (vp ps) lo hi (all i).length (vi (all i)) i _ _ _
      rw [r13b_text]
      refine bc_dec (fun h => ?_) (fun h => ?_)
      · have hi2 : i < ps.length := by omega
        have hz : (0 : Int) ≤ (i : Int) := by omega
        have same : ¬ inn lo hi ps[i] → ∃ y, inv y ∧ ps.length - y.1 < ps.length - i ∧ st y = (s13 ps.length cap (all i).length (all i).length (IntKind.wrap .i64 ((i : Int) + 1)), b13 lo hi (vp ps) (.sym (vi (all i)) true 1)) := by
          intro hn
          have e := hvals i hi2
          rw [if_neg hn] at e
          refine ⟨(i + 1, cap), ⟨by show i + 1 ≤ ps.length; omega, hT, hr⟩, by show ps.length - (i + 1) < ps.length - i; omega, ?_⟩
          rw [w64 (by omega) (by omega)]
          simp only [st, all, blk, e, hv0, if_false]
          rfl
        simp only [Int.toNat_natCast, bc_t hz, bc_t h, at2 (vp_two ps i hi2)]
        refine bc_dec (fun h1 => bc_dec (fun h2 => ?_) (fun h2 => same (fun hc => h2 hc.2))) (fun h1 => same (fun hc => h1 hc.1))
        have e := hvals i hi2
        rw [if_pos ⟨h1, h2⟩] at e
        have hl : (vi (all i)).length = (all i).length := vi_length _
        refine bc_yes (by omega) (bc_yes (by omega) (bc_yes (by omega) (bc_yes (by omega) (bc_yes (by omega) ?_))))
        refine ⟨(i + 1, cap), ⟨by show i + 1 ≤ ps.length; omega, hT, hr⟩, by show ps.length - (i + 1) < ps.length - i; omega, ?_⟩
        have hne : vals i ++ [ps[i].2] ≠ [] := by simp
        rw [w64 (by omega) (by omega), vi_whole]
        simp only [st, all, blk, e, hne, if_false, List.length_cons, List.length_append, List.length_nil, vi, List.map_cons, List.map_append, List.map_nil, List.cons_append]
        rfl
      · show (if 0 = 0 then _ else _)
        rw [if_pos rfl]
        show n13b _ _ (all i).length (vi (all i)) _
        have he : i = ps.length := by omega
        rw [he] at hal ⊢
        rw [n13b_text, fin]
        have hl : (vi (all ps.length)).length = (all ps.length).length := vi_length _
        simp only [vi_whole]
        have c1 := con59 (valV lo ps) (valV hi ps :: vals ps.length) (by show (all ps.length).length < _; omega)
        have c2 := con60 (valV lo ps) (valV hi ps :: vals ps.length) (by show (all ps.length).length < _; omega)
        exact bc_yes (by omega) ⟨_, ⟨c1⟩, bc_yes (by omega) ⟨_, ⟨c2⟩, rfl⟩⟩
theorem con17 {ps : List (Int × Int)} (hv : VT ps) {lo hi : Int} (h0 : 0 ≤ lo ∧ lo ≤ 20000) (h1 : 0 ≤ hi ∧ hi ≤ 20000) (hlh : lo ≤ hi) : C4 17 [dTab ps, .agg [dI lo, dI hi]] [.agg [dI (mnOver lo hi ps), dI (mxOver lo hi ps)]] := by
  have hlen := hv.few
  let inv : (Nat × Int × Int) × Nat → Prop := fun x => x.1.1 ≤ ps.length ∧ mnW lo hi (ps.drop x.1.1) x.1.2.1 = mnOver lo hi ps ∧ mxW lo hi (ps.drop x.1.1) x.1.2.2 = mxOver lo hi ps
  let st : (Nat × Int × Int) × Nat → Slots × Blocks := fun x => (s17 ps.length x.2 x.1.1, b17 lo hi x.1.2.1 x.1.2.2 (vp ps))
  refine con_of (L := fun _ s b => ∃ x, inv x ∧ st x = (s, b)) hok mixed Try.func17 rfl (by show 1 ≤ 400; omega) rfl (ids := [0]) (by kernel_rfl) rfl (fun caps => ?_) (fun id hid => ?_)
  · show g17 _ _ ps.length (caps 500) (vp ps) lo hi _
    rw [g17_text]
    simp only [vp_whole, vp_length, eq_self, true_and, and_true]
    have hle : 0 + ps.length * 2 ≤ ps.length * 2 := by omega
    refine bc_yes hle ⟨_, ⟨con16 hv lo h0⟩, bc_yes hle ⟨_, ⟨con16 hv hi h1⟩, ?_⟩⟩
    refine ⟨((0, min (valV lo ps) (valV hi ps), max (valV lo ps) (valV hi ps)), caps 500), ⟨Nat.zero_le _, mnOver_W hv.inc hlh, mxOver_W hv.inc hlh⟩, ?_⟩
    have e1 : (if valV hi ps < valV lo ps then valV hi ps else valV lo ps) = min (valV lo ps) (valV hi ps) := by split <;> omega
    have e2 : (if valV hi ps > valV lo ps then valV hi ps else valV lo ps) = max (valV lo ps) (valV hi ps) := by split <;> omega
    rw [e1, e2]; rfl
  · obtain rfl := List.mem_singleton.1 hid
    refine ⟨_, st, inv, fun x => ps.length - x.1.1, ⟨fun s b h => h, by kernel_rfl, ?_⟩⟩
    rintro ⟨⟨i, m, M⟩, cap⟩ ⟨hi', hm, hM⟩
    simp only at hi' hm hM
    show r17 _ _ ps.length cap (vp ps) lo hi m M i _ _ _
    rw [r17_text]
    refine bc_dec (fun h => ?_) (fun h => ?_)
    · have hi2 : i < ps.length := by omega
      have hz : (0 : Int) ≤ (i : Int) := by omega
      rw [List.drop_eq_getElem_cons hi2, mnW] at hm
      rw [List.drop_eq_getElem_cons hi2, mxW] at hM
      simp only [Int.toNat_natCast, bc_t hz, bc_t h, at1 (vp_one ps i hi2), at1 (vp_sndA ps i hi2 500), eq_self, true_and, and_true]
      refine bc_dec (fun h2 => bc_dec (fun h3 => ?_) (fun h3 => ?_)) (fun h2 => ?_)
      · rw [if_pos ⟨h2, h3⟩] at hm hM
        refine ⟨((i + 1, min m ps[i].2, max M ps[i].2), cap), ⟨by show i + 1 ≤ ps.length; omega, hm, hM⟩, by show ps.length - (i + 1) < ps.length - i; omega, ?_⟩
        have e1 : (if ps[i].2 < m then ps[i].2 else m) = min m ps[i].2 := by split <;> omega
        have e2 : (if ps[i].2 > M then ps[i].2 else M) = max M ps[i].2 := by split <;> omega
        rw [w64 (by omega) (by omega), e1, e2]; rfl
      · rw [if_neg (fun hc => h3 hc.2)] at hm hM
        refine ⟨((i + 1, m, M), cap), ⟨by show i + 1 ≤ ps.length; omega, hm, hM⟩, by show ps.length - (i + 1) < ps.length - i; omega, ?_⟩
        rw [w64 (by omega) (by omega)]; rfl
      · rw [if_neg (fun hc => h2 hc.1)] at hm hM
        refine ⟨((i + 1, m, M), cap), ⟨by show i + 1 ≤ ps.length; omega, hm, hM⟩, by show ps.length - (i + 1) < ps.length - i; omega, ?_⟩
        rw [w64 (by omega) (by omega)]; rfl
    · show (if 0 = 0 then _ else _)
      rw [if_pos rfl]
      show n17 _ _ m M _
      rw [n17_text]
      have he : i = ps.length := by omega
      rw [he, List.drop_length] at hm hM
      show [D.agg [dI _, dI _]] = _
      rw [← hm, ← hM]; rfl
theorem con14n : C4 14 [.nil] [dI 0, dI 10] := by
  let inv : Unit → Prop := fun _ => False
  let st : Unit → Slots × Blocks := fun _ => (default, [])
  refine con_of (L := fun _ s b => ∃ x, inv x ∧ st x = (s, b)) hok mixed Try.func14 rfl (by show 0 ≤ 400; omega) rfl (ids := [0]) (by kernel_rfl) rfl (fun caps => ?_) (fun id hid => ?_)
  · show g14n _ _ _
    rw [g14n_text]
  · obtain rfl := List.mem_singleton.1 hid
    exact ⟨_, st, inv, fun _ => 0, ⟨fun s b h => h, by kernel_rfl, fun x h => h.elim⟩⟩
end Go.Proofs.M4

/- The evaluator with a table: calls whose outcome on some data is known are not entered. -/
namespace Go.Abs
open Go.RowKit
variable {P : Program} {ρ : Ren} {w0 : Start} {w : World} {H : Heap}

/-! ### Data of values, computed -/
def readCO (H : Heap) : List Value → Option (List D)
  | [] => some []
  | v :: r =>
    match v with
    | .slice none 0 0 => (readCO H r).map (.nil :: ·)
    | .slice (some ⟨i, o, none⟩) len _ =>
      match H.get i with
      | some (.sym cs _ es) => if o + len * es ≤ cs.length then (readCO H r).map (.sl len es ((cs.drop o).take (len * es)) :: ·) else none
      | some (.cells cs _ _ es) => if o + len * es ≤ cs.length then (if ((cs.drop o).take (len * es)).all cellP then (readCO H r).map (.sl len es ((cs.drop o).take (len * es)) :: ·) else none) else none
      | _ => none
    | v => if plain 8 v then (readCO H r).map (.val v :: ·) else none
def readVO (H : Heap) : List Value → Option (List D)
  | [] => some []
  | .agg cs :: r => (readCO H cs.toList).bind fun ds => (readVO H r).map (.agg ds :: ·)
  | v :: r => (readCO H [v]).bind fun ds => (readVO H r).map (ds ++ ·)
theorem readCO_ok : ∀ {l : List Value} {ds : List D}, readCO H l = some ds → ∀ k : List D → Prop, k ds → readCells H l k
  | [], ds, h, k, hk => by
    simp only [readCO, Option.some.injEq] at h; subst h; exact hk
  | v :: r, ds, h, k, hk => by
    unfold readCO at h
    unfold readCells
    split at h
    · obtain ⟨x, hx, rfl⟩ := Option.map_eq_some_iff.1 h
      exact readCO_ok hx _ hk
    · simp only
      split at h
      · rename_i hg
        simp only [hg]
        split at h
        · rename_i hle
          obtain ⟨x, hx, rfl⟩ := Option.map_eq_some_iff.1 h
          exact bcase_intro (fun _ => readCO_ok hx _ hk) (fun hf => absurd hle (of_decide_eq_false hf))
        · cases h
      · rename_i hg
        simp only [hg]
        split at h
        · rename_i hle
          split at h
          · rename_i hall
            obtain ⟨x, hx, rfl⟩ := Option.map_eq_some_iff.1 h
            exact bcase_intro (fun _ => bcase_intro (fun _ => readCO_ok hx _ hk) (fun hf => by rw [hall] at hf; cases hf)) (fun hf => absurd hle (of_decide_eq_false hf))
          · cases h
        · cases h
      · cases h
    · rename_i h1 h2
      split
      · exact absurd rfl h1
      · exact absurd rfl (h2 _ _ _ _)
      · split at h
        · rename_i hp
          obtain ⟨x, hx, rfl⟩ := Option.map_eq_some_iff.1 h
          rw [if_pos hp]
          exact readCO_ok hx _ hk
        · cases h
theorem readVO_ok : ∀ {l : List Value} {ds : List D}, readVO H l = some ds → ∀ k : List D → Prop, k ds → readVals H l k
  | [], ds, h, k, hk => by
    simp only [readVO, Option.some.injEq] at h; subst h; exact hk
  | v :: r, ds, h, k, hk => by
    unfold readVO at h
    unfold readVals
    split at h
    · rename_i e; cases e
    · rename_i e; cases e
      obtain ⟨x, hx, h⟩ := Option.bind_eq_some_iff.1 h
      obtain ⟨y, hy, rfl⟩ := Option.map_eq_some_iff.1 h
      exact readCO_ok hx _ (readVO_ok hy _ hk)
    · rename_i h1 e; cases e
      obtain ⟨x, hx, h⟩ := Option.bind_eq_some_iff.1 h
      obtain ⟨y, hy, rfl⟩ := Option.map_eq_some_iff.1 h
      split
      · rename_i e; cases e
      · rename_i e; cases e; exact absurd rfl (h1 _)
      · rename_i e; cases e
        exact readCO_ok hx _ (readVO_ok hy _ hk)

/-! ### Data laid, computed -/
def layCO : List D → Heap → Option (List Value × Heap)
  | [], H => some ([], H)
  | .nil :: r, H => (layCO r H).map fun x => (.slice none 0 0 :: x.1, x.2)
  | .sl n es cs :: r, H => (layCO r (H.new (.sym cs true es))).map fun x => (.slice (some ⟨H.next, 0, none⟩) n n :: x.1, x.2)
  | .val v :: r, H => match v with
    | .agg _ => none
    | v => (layCO r H).map fun x => (v :: x.1, x.2)
  | .agg _ :: _, _ => none
def layVO : List D → Heap → Option (List Value × Heap)
  | [], H => some ([], H)
  | .agg ds :: r, H => (layCO ds H).bind fun x => (layVO r x.2).map fun y => (.agg x.1.toArray :: y.1, y.2)
  | d :: r, H => (layCO [d] H).bind fun x => match x.1 with
    | [v] => (layVO r x.2).map fun y => (v :: y.1, y.2)
    | _ => none
theorem layCO_ok : ∀ {ds : List D} {H : Heap} {x : List Value × Heap}, layCO ds H = some x → ∀ k : List Value → Heap → Prop, k x.1 x.2 → layC ds H k
  | [], H, x, h, k, hk => by
    simp only [layCO, Option.some.injEq] at h; subst h; exact hk
  | .nil :: r, H, x, h, k, hk => by
    obtain ⟨y, hy, rfl⟩ := Option.map_eq_some_iff.1 h
    exact layCO_ok hy _ hk
  | .sl n es cs :: r, H, x, h, k, hk => by
    obtain ⟨y, hy, rfl⟩ := Option.map_eq_some_iff.1 h
    exact layCO_ok hy _ hk
  | .val v :: r, H, x, h, k, hk => by
    unfold layCO at h
    unfold layC
    split at h
    · cases h
    · rename_i hv
      split
      · exact absurd rfl (hv _)
      · obtain ⟨y, hy, rfl⟩ := Option.map_eq_some_iff.1 h
        exact layCO_ok hy _ hk
  | .agg _ :: _, H, x, h, k, hk => by cases h
theorem layVO_ok : ∀ {ds : List D} {H : Heap} {x : List Value × Heap}, layVO ds H = some x → ∀ k : List Value → Heap → Prop, k x.1 x.2 → layV ds H k
  | [], H, x, h, k, hk => by
    simp only [layVO, Option.some.injEq] at h; subst h; exact hk
  | d :: r, H, x, h, k, hk => by
    unfold layVO at h
    unfold layV
    split at h
    · rename_i e; cases e
    · rename_i e; cases e
      obtain ⟨y, hy, h⟩ := Option.bind_eq_some_iff.1 h
      obtain ⟨z, hz, rfl⟩ := Option.map_eq_some_iff.1 h
      exact layCO_ok hy _ (layVO_ok hz _ hk)
    · rename_i h1 e; cases e
      obtain ⟨y, hy, h⟩ := Option.bind_eq_some_iff.1 h
      split at h
      · rename_i he
        obtain ⟨z, hz, rfl⟩ := Option.map_eq_some_iff.1 h
        split
        · rename_i e; cases e
        · rename_i e; cases e; exact absurd rfl (h1 _)
        · rename_i e; cases e
          refine layCO_ok hy _ ?_
          simp only [he]
          exact layVO_ok hz _ hk
      · cases h

/-! ### Data given, computed -/
def giveCO (H : Heap) : List Nat → List Value → Option (List Nat × List D)
  | used, [] => some (used, [])
  | used, v :: r =>
    match v with
    | .slice none 0 0 => (giveCO H used r).map fun x => (x.1, .nil :: x.2)
    | .slice (some ⟨i, 0, none⟩) len cap =>
      if gbase ≤ i ∧ used.contains i = false then
        match H.get i with
        | some (.sym cs true es) => if len = cap ∧ cs.length = len * es then (giveCO H (i :: used) r).map fun x => (x.1, .sl len es cs :: x.2) else none
        | some (.cells cs _ _ es) => if len = cap ∧ cs.length = len * es then (if cs.all cellP then (giveCO H (i :: used) r).map fun x => (x.1, .sl len es cs :: x.2) else none) else none
        | _ => none
      else none
    | v => if plain 8 v then (giveCO H used r).map fun x => (x.1, .val v :: x.2) else none
def giveVO (H : Heap) : List Nat → List Value → Option (List D)
  | _, [] => some []
  | used, .agg cs :: r => (giveCO H used cs.toList).bind fun x => (giveVO H x.1 r).map (.agg x.2 :: ·)
  | used, v :: r => (giveCO H used [v]).bind fun x => (giveVO H x.1 r).map (x.2 ++ ·)
def giveO (v : Value) (H : Heap) : Option (List D) :=
  match v with
  | .tuple vs => if vs.size = 1 then none else giveVO H [] vs.toList
  | v => giveVO H [] [v]
theorem giveCO_ok : ∀ {l : List Value} {used : List Nat} {x : List Nat × List D}, giveCO H used l = some x → ∀ k : List Nat → List D → Prop, k x.1 x.2 → giveCells H used l k
  | [], used, x, h, k, hk => by
    simp only [giveCO, Option.some.injEq] at h; subst h; exact hk
  | v :: r, used, x, h, k, hk => by
    unfold giveCO at h
    unfold giveCells
    split at h
    · obtain ⟨y, hy, rfl⟩ := Option.map_eq_some_iff.1 h
      exact giveCO_ok hy _ hk
    · simp only
      split at h
      · rename_i hc
        rw [if_pos hc]
        split at h
        · rename_i hg
          simp only [hg]
          split at h
          · rename_i hl
            obtain ⟨y, hy, rfl⟩ := Option.map_eq_some_iff.1 h
            exact ⟨hl, giveCO_ok hy _ hk⟩
          · cases h
        · rename_i hg
          simp only [hg]
          split at h
          · rename_i hl
            split at h
            · rename_i hall
              obtain ⟨y, hy, rfl⟩ := Option.map_eq_some_iff.1 h
              exact ⟨hl, bcase_intro (fun _ => giveCO_ok hy _ hk) (fun hf => by rw [hall] at hf; cases hf)⟩
            · cases h
          · cases h
        · cases h
      · cases h
    · rename_i h1 h2
      split
      · exact absurd rfl h1
      · exact absurd rfl (h2 _ _ _)
      · split at h
        · rename_i hp
          obtain ⟨y, hy, rfl⟩ := Option.map_eq_some_iff.1 h
          rw [if_pos hp]
          exact giveCO_ok hy _ hk
        · cases h
theorem giveVO_ok : ∀ {l : List Value} {used : List Nat} {ds : List D}, giveVO H used l = some ds → ∀ k : List D → Prop, k ds → giveVals H used l k
  | [], used, ds, h, k, hk => by
    simp only [giveVO, Option.some.injEq] at h; subst h; exact hk
  | v :: r, used, ds, h, k, hk => by
    unfold giveVO at h
    unfold giveVals
    split at h
    · rename_i e; cases e
    · rename_i e; cases e
      obtain ⟨x, hx, h⟩ := Option.bind_eq_some_iff.1 h
      obtain ⟨y, hy, rfl⟩ := Option.map_eq_some_iff.1 h
      exact giveCO_ok hx _ (giveVO_ok hy _ hk)
    · rename_i h1 e; cases e
      obtain ⟨x, hx, h⟩ := Option.bind_eq_some_iff.1 h
      obtain ⟨y, hy, rfl⟩ := Option.map_eq_some_iff.1 h
      split
      · rename_i e; cases e
      · rename_i e; cases e; exact absurd rfl (h1 _)
      · rename_i e; cases e
        exact giveCO_ok hx _ (giveVO_ok hy _ hk)
theorem giveO_ok {v : Value} {ds : List D} (h : giveO v H = some ds) : dataK (· = ds) v H := by
  unfold giveO at h
  unfold dataK
  split at h
  · split at h
    · cases h
    · rename_i hs
      simp only [if_neg hs]
      exact giveVO_ok h _ rfl
  · rename_i hn
    split
    · exact absurd rfl (hn _)
    · exact giveVO_ok h _ rfl

/-! ### Data compared -/
def cEq : Value → Value → Bool
  | .int j a, .int k b => j == k && a == b
  | .bool a, .bool b => a == b
  | .string a, .string b => a.data.toList == b.data.toList
  | _, _ => false
def csEq : List Value → List Value → Bool
  | [], [] => true
  | a :: xs, b :: bs => cEq a b && csEq xs bs
  | _, _ => false
def d1Eq : D → D → Bool
  | .nil, .nil => true
  | .val a, .val b => cEq a b
  | .sl n es cs, .sl m fs bs => n == m && es == fs && csEq cs bs
  | _, _ => false
def d2Eq : List D → List D → Bool
  | [], [] => true
  | a :: xs, b :: bs => d1Eq a b && d2Eq xs bs
  | _, _ => false
def dEq : D → D → Bool
  | .agg a, .agg b => d2Eq a b
  | a, b => d1Eq a b
def dsEq : List D → List D → Bool
  | [], [] => true
  | a :: xs, b :: bs => dEq a b && dsEq xs bs
  | _, _ => false
theorem cEq_ok : ∀ {a b : Value}, cEq a b = true → a = b := by
  intro a b h
  unfold cEq at h
  split at h
  · simp only [Bool.and_eq_true, beq_iff_eq] at h; rw [h.1, h.2]
  · rw [eq_of_beq h]
  · rename_i x y
    have e := eq_of_beq h
    obtain ⟨x⟩ := x
    obtain ⟨y⟩ := y
    have : x = y := Array.ext' e
    rw [this]
  · cases h
theorem csEq_ok : ∀ {a b : List Value}, csEq a b = true → a = b
  | [], [], _ => rfl
  | a :: xs, b :: bs, h => by
    simp only [csEq, Bool.and_eq_true] at h
    rw [cEq_ok h.1, csEq_ok h.2]
  | [], _ :: _, h => by cases h
  | _ :: _, [], h => by cases h
theorem d1Eq_ok {a b : D} (h : d1Eq a b = true) : a = b := by
  unfold d1Eq at h
  split at h
  · rfl
  · rw [cEq_ok h]
  · simp only [Bool.and_eq_true, beq_iff_eq] at h
    rw [h.1.1, h.1.2, csEq_ok h.2]
  · cases h
theorem d2Eq_ok : ∀ {a b : List D}, d2Eq a b = true → a = b
  | [], [], _ => rfl
  | a :: xs, b :: bs, h => by
    simp only [d2Eq, Bool.and_eq_true] at h
    rw [d1Eq_ok h.1, d2Eq_ok h.2]
  | [], _ :: _, h => by cases h
  | _ :: _, [], h => by cases h
theorem dEq_ok {a b : D} (h : dEq a b = true) : a = b := by
  unfold dEq at h
  split at h
  · rw [d2Eq_ok h]
  · exact d1Eq_ok h
theorem dsEq_ok : ∀ {a b : List D}, dsEq a b = true → a = b
  | [], [], _ => rfl
  | a :: xs, b :: bs, h => by
    simp only [dsEq, Bool.and_eq_true] at h
    rw [dEq_ok h.1, dsEq_ok h.2]
  | [], _ :: _, h => by cases h
  | _ :: _, [], h => by cases h

/-! ### The evaluator with a table -/
abbrev Tab := FuncId → Option (List D → Option (List D))
/-- (a list of what is known) -/
def tabLook : List (List D × List D) → List D → Option (List D)
  | [], _ => none
  | p :: r, ds => if dsEq p.1 ds then some p.2 else tabLook r ds
theorem tabLook_ok : ∀ {t : List (List D × List D)} {ds rs : List D}, tabLook t ds = some rs → (ds, rs) ∈ t
  | [], _, _, h => by cases h
  | p :: r, ds, rs, h => by
    unfold tabLook at h
    split at h
    · rename_i he
      simp only [Option.some.injEq] at h
      rw [← dsEq_ok he, ← h]
      exact List.mem_cons_self ..
    · exact List.mem_cons_of_mem _ (tabLook_ok h)
def tabCall (t : List D → Option (List D)) (args : Array Value) (H : Heap) : Option (Value × Heap) :=
  (readVO H args.toList).bind fun ds => (t ds).bind fun rs => (layVO rs H).map fun x => (tupleOf x.1, x.2)
def evalT (P : Program) (tab : Tab) : Nat → Self
  | 0 => ⟨fun _ _ _ => none, fun _ _ _ _ => none⟩
  | n + 1 => ⟨fun f args H => match tab f with | none => callBody P (evalT P tab n) f args H | some t => tabCall t args H, fun round c A H => codeA P (evalT P tab n) round c A H⟩
def TabOK (P : Program) (tab : Tab) : Prop := ∀ f t, tab f = some t → ∀ ds rs, t ds = some rs → Con P f ds rs
theorem tabCall_sound {f : FuncId} {t : List D → Option (List D)} (ht : ∀ ds rs, t ds = some rs → Con P f ds rs) {args : Array Value} {v : Value} {H' : Heap} (h : tabCall t args H = some (v, H')) : CallH P f args H (fun u K => u = v ∧ K = H') := by
  obtain ⟨ds, h1, h⟩ := Option.bind_eq_some_iff.1 h
  obtain ⟨rs, h2, h⟩ := Option.bind_eq_some_iff.1 h
  obtain ⟨x, h3, h⟩ := Option.map_eq_some_iff.1 h
  simp only [Prod.mk.injEq] at h
  obtain ⟨rfl, rfl⟩ := h
  refine wpFix_call (C := fun g ds rs => g = f ∧ t ds = some rs ∨ Con P g ds rs) (fun g ds rs hc => ?_) (fix := t) ?_
  · rcases hc with ⟨rfl, hm⟩ | hc
    · exact ht _ _ hm
    · exact hc
  · unfold wpFix
    refine readVO_ok h1 _ ?_
    simp only [h2]
    exact ⟨⟨.inl ⟨rfl, h2⟩⟩, layVO_ok h3 _ ⟨rfl, rfl⟩⟩
theorem evalT_sound {tab : Tab} (htab : TabOK P tab) (hmix : P.follows .mixedOrders = true) : ∀ n, SelfS P w0 (evalT P tab n)
  | 0 => ⟨fun n _ _ h => by simp [evalT] at h, fun n _ _ _ h => by simp [evalT] at h, fun n _ _ _ h => by simp [evalT] at h⟩
  | k + 1 => ⟨fun {ρ H w f args args' v H'} n g ha h => by
      simp only [evalT] at h
      split at h
      · exact callBody_sound (evalT_sound htab hmix k) g n ha h
      · rename_i t ht
        refine (tabCall_sound (htab f t ht) h w0 ρ w args' n g ha).mono ?_
        rintro e w' ⟨u, K, ρ', v', ⟨rfl, rfl⟩, h1, h2, h3, h4⟩
        exact ⟨ρ', v', h1, h2, h3, h4⟩, fun n g rr ra h => codeA_sound (evalT_sound htab hmix k) hmix n _ g rr ra h,
      fun n g rr ra h => loopIn_once (loop_body (evalT_sound htab hmix k) n _ (fun g rr ra h => codeA_sound (evalT_sound htab hmix k) hmix n _ g rr ra h) g rr ra h)⟩
/-- A call of known data is run. -/
def runOK (P : Program) (tab : Tab) (n : Nat) (f : FuncId) (ds rs : List D) (caps : Nat → Nat) : Bool :=
  match (evalT P tab n).call f (layVals caps 500 ds).1.toArray (heapOf (layVals caps 500 ds).2) with
  | some (v, H) => (match giveO v H with | some rs' => dsEq rs' rs | none => false)
  | none => false
theorem con_run {tab : Tab} (htab : TabOK P tab) (hmix : P.follows .mixedOrders = true) {n : Nat} {f : FuncId} {ds rs : List D} (hcount : countV ds ≤ 400) (h : ∀ caps, runOK P tab n f ds rs caps = true) : Con P f ds rs := by
  intro w args hr
  obtain ⟨caps, ρ, hst, g, ha⟩ := lay_gam hr hcount
  have h := h caps
  unfold runOK at h
  split at h
  · rename_i v H hc
    split at h
    · rename_i rs' hg
      have e := dsEq_ok h
      subst e
      refine callsIn_wide.1 (((evalT_sound htab hmix n).call 0 g (by simpa using ha) hc).mono ?_)
      rintro e w' ⟨ρ', v', rfl, hv, g', ext'⟩
      obtain ⟨vs, ds', u, rfl, h1, rfl⟩ := dataK_out g' hv (giveO_ok hg)
      exact ⟨⟨vs, u, rfl, h1⟩, g'.below.below hst⟩
    · cases h
  · cases h
end Go.Abs

/- Chapter 4: stripes, in data. -/
namespace Go.Proofs.M4
open Go Go.Abs Go.Proofs
set_option maxRecDepth 100000
abbrev W (z : Int) : Int := IntKind.wrap .i64 z
/-- what is measured of a point, rounded down, and what is left -/
def stZ (a b p q r s : Int) : Int × Int := dv (W (W (0 + W ((dv (W (a * p)) q).2 * W (Int.tdiv (W (q * s)) q))) + W ((dv (W (b * r)) s).2 * W (Int.tdiv (W (q * s)) s)))) (W (q * s))
def stT (a b p q r s : Int) : Int := W (W (W (0 + (dv (W (a * p)) q).1) + (dv (W (b * r)) s).1) + (stZ a b p q r s).1)
/-- does a stripe hold a point -/
def stripeB (a b lo hi p q r s : Int) : Bool := decide (lo ≤ stT a b p q r s) && decide ((if (stZ a b p q r s).2 > 0 then W (stT a b p q r s + 1) else stT a b p q r s) ≤ hi)
theorem con112 (a b lo hi p q r s : Int) (hq : q ≠ 0) (hs : s ≠ 0) (hqs : W (q * s) ≠ 0) : C4 112 [.agg [dI a, dI b, dI lo, dI hi], .agg [dI p, dI q, dI r, dI s]] [.val (.bool (stripeB a b lo hi p q r s))] := by
  refine con_walk hokW mixed (u := 8) (by decide) Try.func112 rfl (by show 0 ≤ 400; omega) (fun caps => ?_)
  show g112 _ a b lo hi p q r s _
  rw [g112_text]
  simp only [eq_self, true_and, and_true]
  refine ⟨(dv (W (a * p)) q).1, (dv (W (a * p)) q).2, ⟨con115 _ _ hq⟩, bc_bne (fun _ => ?_) (fun h => absurd h hq)⟩
  refine ⟨(dv (W (b * r)) s).1, (dv (W (b * r)) s).2, ⟨con115 _ _ hs⟩, bc_bne (fun _ => ?_) (fun h => absurd h hs)⟩
  refine ⟨(stZ a b p q r s).1, (stZ a b p q r s).2, ⟨con115 _ _ hqs⟩, ?_⟩
  have hT : IntKind.wrap IntKind.i64 (IntKind.wrap IntKind.i64 (IntKind.wrap IntKind.i64 (0 + (dv (W (a * p)) q).1) + (dv (W (b * r)) s).1) + (stZ a b p q r s).1) = stT a b p q r s := rfl
  rw [hT]
  unfold stripeB
  generalize stT a b p q r s = t
  generalize (stZ a b p q r s).2 = z
  refine bc_dec (fun h1 => bc_dec (fun h2 => bc_dec (fun h3 => ?_) (fun h3 => ?_)) (fun h2 => ?_)) (fun h1 => bc_dec (fun h2 => bc_dec (fun h3 => ?_) (fun h3 => ?_)) (fun h2 => ?_))
  · show [D.val (Value.bool true)] = _; rw [if_pos h1, decide_eq_true h2, decide_eq_true h3]; rfl
  · show [D.val (Value.bool false)] = _; rw [if_pos h1, decide_eq_true h2, decide_eq_false h3]; rfl
  · show [D.val (Value.bool false)] = _; rw [if_pos h1, decide_eq_false h2]; rfl
  · show [D.val (Value.bool true)] = _; rw [if_neg h1, decide_eq_true h2, decide_eq_true h3]; rfl
  · show [D.val (Value.bool false)] = _; rw [if_neg h1, decide_eq_true h2, decide_eq_false h3]; rfl
  · show [D.val (Value.bool false)] = _; rw [if_neg h1, decide_eq_false h2]; rfl
/-- what is known of small functions, for runs of known data -/
def tabM : Tab := fun f =>
  if f = 65 then some fun ds => match ds with
    | [.val (.int .i64 n), .val (.int .i64 d)] => if -4611686018427387904 ≤ n ∧ n ≤ 4611686018427387904 ∧ -4611686018427387904 ≤ d ∧ d ≤ 4611686018427387904 ∧ d ≠ 0 then some [.agg [dI (low n d).1, dI (low n d).2]] else none
    | _ => none
  else if f = 112 then some fun ds => match ds with
    | [.agg [.val (.int .i64 a), .val (.int .i64 b), .val (.int .i64 lo), .val (.int .i64 hi)], .agg [.val (.int .i64 p), .val (.int .i64 q), .val (.int .i64 r), .val (.int .i64 s)]] => if q ≠ 0 ∧ s ≠ 0 ∧ W (q * s) ≠ 0 then some [.val (.bool (stripeB a b lo hi p q r s))] else none
    | _ => none
  else none
theorem tabM_ok : TabOK Try.prog tabM := by
  intro f t ht ds rs h
  unfold tabM at ht
  split at ht
  · rename_i hf
    subst hf
    obtain rfl := Option.some.inj ht
    simp only at h
    split at h
    · split at h
      · rename_i hc
        obtain rfl := Option.some.inj h
        exact con65 _ _ ⟨hc.1, hc.2.1⟩ ⟨hc.2.2.1, hc.2.2.2.1⟩ hc.2.2.2.2
      · cases h
    · cases h
  · split at ht
    · rename_i hf
      subst hf
      obtain rfl := Option.some.inj ht
      simp only at h
      split at h
      · split at h
        · rename_i hc
          obtain rfl := Option.some.inj h
          exact con112 _ _ _ _ _ _ _ _ hc.1 hc.2.1 hc.2.2
        · cases h
      · cases h
    · cases ht
end Go.Proofs.M4
