/- One operation, operations in their order: what is left to show is enough. -/
import Derived.Test.YtiahlinolhpecaaAbsApp
namespace Go.Abs
open Go.RowKit
variable {P : Program} {ρ : Ren} {w0 w : World} {H : Heap} {h : Handler}

/-- A call ends as said. -/
def CallH (P : Program) (f : FuncId) (args : Array Value) (H : Heap) (k : Value → Heap → Prop) : Prop :=
  ∀ (w0 : World) (ρ : Ren) (w : World) (args' : Array Value) (n : Nat), Gam w0 ρ H w → LR ρ args.toList args'.toList →
    CallsIn Fence.wide n P f args' w fun e w' => ∃ v H' ρ' v', k v H' ∧ e = .returned v' ∧ VR ρ' v v' ∧ Gam w0 ρ' H' w' ∧ Ext ρ ρ' H H'
def HandlerOK (P : Program) (h : Handler) : Prop := ∀ g args ats H k, h g args ats H k → CallH P g args H k

theorem wpOp_L (hh : HandlerOK P h) (g : Gam w0 ρ H w) {ops : Array Oper} {o : Oper} {A : AAct} {a : Act} {rC : Option Nat} {n : Nat} {next : Act → World → Prop} {Q : Exit → Act → World → Prop} {k : AAct → Heap → Prop}
    (ra : ∀ t, t ∈ looks ops o → VR ρ (A.slot t) (a.tmps.getD t undef)) (hop : wpOp P h o A H k)
    (K : ∀ ρ' v v' w' H', VR ρ' v v' → k (A.put o.dst v) H' → Gam w0 ρ' H' w' → Ext ρ ρ' H H' → next (a.put o.dst v') w') : o.wpIn (Fr rC) n P a w next Q := by
  have hs := evalN_sound (P := P) (w0 := w0)
  have plain1 : ∀ {nx : ANext} {H' : Heap}, opA P H A.eval o = some (nx, H') → (match nx with | .value v => k (A.put o.dst v) H' | .skip => k (A.put o.dst undef) H' | .enter f args => ∃ ats, h f args ats H' (fun v H'' => k (A.put o.dst v) H'') | .round _ _ => False) → o.wpIn (Fr rC) n P a w next Q := by
    intro nx H' hop hk
    obtain ⟨ρ1, nx', w1, g1, ext1, hnx, hrun⟩ := opA_sound g (env' := a.eval) (fun y hy => eval_L ra y hy) hop
    refine ⟨fun f _ => Fr_fn _ f, ?_⟩
    rw [Oper.semAt_eq _ _ _ (no_defer hop), hrun]
    have dep : (Fr rC).depth.isSome = true → 1 ≤ n := by rw [Fr_depth]; simp
    cases hnx with
    | value hv => exact K ρ1 _ _ w1 H' hv hk g1 ext1
    | skip => exact K ρ1 _ _ w1 H' (VR.undef _) hk g1 ext1
    | enter ha =>
      obtain ⟨ats, hc⟩ := hk
      refine ⟨dep, (Fr_calls (hh _ _ _ _ _ hc w0 ρ1 w1 _ (n - 1) g1 ha)).mono ?_⟩
      rintro e w2 ⟨v, H2, ρ2, v', hk2, rfl, hv, g2, ext2⟩
      exact K ρ2 _ _ w2 H2 hv hk2 g2 (ext1.trans ext2)
    | round hm hL ha => exact hk.elim
  unfold wpOp at hop
  split at hop
  · rename_i hst
    obtain ⟨H', w1, hk, g1, ext1, hrun⟩ := store_op (P := P) g (env' := a.eval) (fun y hy => eval_L ra y hy) hst hop
    refine ⟨fun f _ => Fr_fn _ f, ?_⟩
    rw [Oper.semAt_eq _ _ _ (fun c e => by simp [isStore, e] at hst), hrun]
    exact K ρ undef undef w1 H' (VR.undef _) hk g1 ext1
  split at hop
  · split at hop
    · rename_i H' he
      exact plain1 he hop
    · cases hop
  · split at hop
    · split at hop
      · rename_i v H' he
        exact plain1 he (wpVal_out hop)
      · rename_i g' args H' he
        exact plain1 he ⟨_, hop⟩
      · cases hop
    · split at hop
      · rename_i hap
        obtain ⟨ρ1, v, v', w1, H', hk, g1, ext1, hv, hrun⟩ := append_op (P := P) g (env' := a.eval) (fun y hy => eval_L ra y hy) hap hop
        refine ⟨fun f _ => Fr_fn _ f, ?_⟩
        rw [Oper.semAt_eq _ _ _ (fun c e => by simp [isAppend, e] at hap), hrun]
        exact K ρ1 v v' w1 H' hv hk g1 ext1
      · obtain ⟨v, H', he, hk⟩ := wpVop_out hop
        exact plain1 he hk

theorem asize_put' (A : AAct) (dst : Option Tmp) (v : Value) : (A.put dst v).size = A.size := by
  cases dst with
  | none => rfl
  | some d => simp only [AAct.put, AAct.put1]; split <;> rfl

theorem wpOps_sound (hh : HandlerOK P h) {rC : Option Nat} {n : Nat} {ops : Array Oper} {Q : Exit → Act → World → Prop} : ∀ (l : List Nat) {ρ : Ren} {H : Heap} {w : World} {A : AAct} {a : Act} {k : AAct → Heap → Prop}, Gam w0 ρ H w → ActR ρ A a →
    wpOps P h ops l A H k → (∀ ρ' A' H' a' w', k A' H' → A'.size = A.size → ActR ρ' A' a' → Gam w0 ρ' H' w' → Ext ρ ρ' H H' → Q .normal a' w') → wpOpsIn (Fr rC) n P ops Q l a w := by
  intro l
  induction l with
  | nil =>
    intro ρ H w A a k g ra h K
    exact K ρ A H a w h rfl ra g (.refl _ _)
  | cons i rest ih =>
    intro ρ H w A a k g ra h K
    simp only [wpOps] at h
    simp only [wpOpsIn]
    cases ho : ops[i]? with
    | none =>
      simp only [ho] at h ⊢
      exact ih g ra h K
    | some o =>
      simp only [ho] at h ⊢
      cases hw : wantedA ops A o with
      | none => simp [hw] at h
      | some b =>
        have hwr := wanted_R ra hw
        cases b with
        | true =>
          simp only [hw] at h
          rw [if_pos hwr]
          refine wpOp_L hh g (ops := ops) (fun t _ => ra.slot t) h ?_
          intro ρ1 v v' w1 H1 hv hk g1 ext1
          exact ih g1 ((ra.mono ext1.le).put _ hv) hk (fun ρ2 A2 H2 a2 w2 q1 q2 q3 q4 q5 => K ρ2 A2 H2 a2 w2 q1 (q2.trans (asize_put' _ _ _)) q3 q4 (ext1.trans q5))
        | false =>
          simp only [hw] at h
          rw [if_neg (by rw [hwr]; simp)]
          exact ⟨fun f _ => Fr_fn _ f, ih g (ra.put _ (VR.undef _)) h (fun ρ2 A2 H2 a2 w2 q1 q2 q3 q4 q5 => K ρ2 A2 H2 a2 w2 q1 (q2.trans (asize_put' _ _ _)) q3 q4 q5)⟩
end Go.Abs
