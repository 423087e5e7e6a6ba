/- Operations carried out one after the other; calls; rounds: the evaluator is sound. -/
import Derived.Test.YtiahlinolhpecaaAbsVal
import Derived.RangeFuncNested
import Derived.RangeFuncCalls
namespace Go.Abs
open Go.RowKit
variable {P : Program} {ρ : Ren} {w0 w : World} {H : Heap}

theorem ActR.put1 {A : AAct} {a : Act} (r : ActR ρ A a) (d : Tmp) {v v' : Value} (h : VR ρ v v') : ActR ρ (A.put1 d v) { a with tmps := a.tmps.setIfInBounds d v' } := by
  unfold AAct.put1
  split
  · rename_i hd
    refine ⟨by simpa using r.size, ?_, r.defers⟩
    intro t
    have hs : ∀ t, (({ A with tmps := A.tmps.set (d + 1) d v } : AAct).slot t) = if t = d then v else A.slot t := by
      intro t
      unfold AAct.slot
      rw [Tree.get_set _ _ _ _ _ (by omega)]
      split <;> rfl
    rw [hs]
    by_cases e : t = d
    · subst e
      have : (a.tmps.setIfInBounds t v').getD t undef = v' := by
        simp [Array.getD_eq_getD_getElem?, r.size, hd]
      rw [if_pos rfl, this]
      exact h
    · have : (a.tmps.setIfInBounds d v').getD t undef = a.tmps.getD t undef := by
        simp only [Array.getD_eq_getD_getElem?, Array.getElem?_setIfInBounds]
        rw [if_neg (fun x => e x.symm)]
      rw [if_neg e, this]
      exact r.slot t
  · rename_i hd
    have : a.tmps.setIfInBounds d v' = a.tmps := by
      apply Array.ext_getElem?
      intro i
      simp only [Array.getElem?_setIfInBounds]
      split
      · rename_i e
        subst e
        rw [if_neg (by rw [r.size]; exact hd)]
        exact (Array.getElem?_eq_none (Nat.le_of_not_lt (by rw [r.size]; exact hd))).symm
      · rfl
    rw [this]
    exact r
theorem ActR.put {A : AAct} {a : Act} (r : ActR ρ A a) (d : Option Tmp) {v v' : Value} (h : VR ρ v v') : ActR ρ (A.put d v) (a.put d v') := by
  cases d with
  | none => exact r
  | some d => exact r.put1 d h
theorem ActR.eval {A : AAct} {a : Act} (r : ActR ρ A a) (y : Operand) : VR ρ (A.eval y) (a.eval y) := by
  cases y with
  | tmp t => exact r.slot t
  | const v =>
    simp only [AAct.eval, Act.eval]
    split
    · rename_i h; exact plain_refl ρ 8 v h
    · exact .unknown _ _
  | global g =>
    simp only [AAct.eval, Act.eval]
    split
    · rename_i h; exact .glob g 0 h
    · exact .unknown _ _
  | func f => exact VR.func' .nil .nil

theorem wanted_L {A : AAct} {a : Act} {ops : Array Oper} {o : Oper} {b : Bool} (r : ∀ t, t ∈ looks ops o → VR ρ (A.slot t) (a.tmps.getD t undef)) (h : wantedA ops A o = some b) : Region.wanted o (yielded ops a.tmps) = b := by
  unfold wantedA at h
  unfold Region.wanted
  split at h
  · rename_i hg
    simp only [Option.some.injEq] at h
    rw [hg, ← h]
  · rename_i j want hg
    rw [hg]
    simp only
    unfold yielded
    cases hd : (ops[j]?).bind (·.dst) with
    | none =>
      simp only [hd, Option.some.injEq] at h
      rw [← h]
      simp
    | some d =>
      simp only [hd] at h
      have hs := r d (List.mem_append_right _ (by simp [hg, hd]))
      simp only [Option.bind_some]
      have hget : a.tmps[d]? = none ∨ a.tmps[d]? = some (a.tmps.getD d undef) := by
        by_cases hlt : d < a.tmps.size
        · right; simp [Array.getD_eq_getD_getElem?, hlt]
        · left; exact Array.getElem?_eq_none (Nat.le_of_not_lt hlt)
      split at h
      · rename_i b' e
        rw [e] at hs
        have hv := hs.bool_inv
        simp only [Option.some.injEq] at h
        rcases hget with e0 | e0
        · have : a.tmps.getD d undef = undef := by rw [Array.getD_eq_getD_getElem?, e0]; rfl
          rw [this] at hv
          cases hv
        · rw [e0, hv]
          simp only
          rw [← h]
          cases b' <;> cases want <;> rfl
      · cases h
      · rename_i n1 n2
        simp only [Option.some.injEq] at h
        rw [← h]
        rcases hget with e0 | e0
        · rw [e0]; simp
        · rw [e0]
          have hnb : ∀ b, a.tmps.getD d undef ≠ .bool b := by
            intro b e
            rw [e] at hs
            generalize A.slot d = x at hs n1 n2
            cases hs with
            | bool b => exact n1 b rfl
            | unknown r v => exact n2 r rfl
          cases hv : a.tmps.getD d undef <;> first
            | (exact absurd hv (hnb _))
            | simp

theorem wanted_R {A : AAct} {a : Act} (r : ActR ρ A a) {ops : Array Oper} {o : Oper} {b : Bool} (h : wantedA ops A o = some b) : Region.wanted o (yielded ops a.tmps) = b :=
  wanted_L (fun t _ => r.slot t) h

/-! ### What is shown of calls and of code -/
/-- The fence in which code is walked. -/
def Fr : Option Nat → Fence
  | none => Fence.wide
  | some l => Fence.wide.inRound l
inductive RoundR (ρ : Ren) : Option Nat → Option Nat → Prop
  | none : RoundR ρ none none
  | some {l : Nat} {m : Meta} (h : ρ l = some m) : RoundR ρ (some l) (some m.b)
theorem RoundR.mono {ρ' : Ren} (hle : ρ.le ρ') {r r' : Option Nat} (h : RoundR ρ r r') : RoundR ρ' r r' := by
  cases h with
  | none => exact .none
  | some h => exact .some (hle _ _ h)
theorem Fr_fn (r : Option Nat) (f : FuncId) : (Fr r).fn f := by cases r <;> trivial
theorem Fr_depth (r : Option Nat) : (Fr r).depth = none := by cases r <;> rfl
theorem Fr_inRound (r : Option Nat) (l : Nat) : (Fr r).inRound l = Fr (some l) := by cases r <;> rfl
theorem Fr_round (r : Option Nat) : (Fr r).round = r := by cases r <;> rfl
theorem Fr_calls {r : Option Nat} {n : Nat} {f : FuncId} {args : Array Value} {R : Ending → World → Prop} (h : CallsIn Fence.wide n P f args w R) : CallsIn (Fr r) n P f args w R := by
  cases r with
  | none => exact h
  | some l => exact CallsIn.inRound l h

def CallPost (w0 : World) (ρ : Ren) (H : Heap) (v : Value) (H' : Heap) (e : Ending) (w' : World) : Prop :=
  ∃ ρ' v', e = .returned v' ∧ VR ρ' v v' ∧ Gam w0 ρ' H' w' ∧ Ext ρ ρ' H H'
def CodePost (w0 : World) (ρ : Ren) (H : Heap) (e : Exit) (A' : AAct) (H' : Heap) (e' : Exit) (a' : Act) (w' : World) : Prop :=
  e' = e ∧ ∃ ρ', ActR ρ' A' a' ∧ Gam w0 ρ' H' w' ∧ Ext ρ ρ' H H'
/-- A loop that has been through a round. -/
def LoopIn (c : Code) (F : Fence) (n : Nat) (P : Program) (Q : Exit → Act → World → Prop) (a : Act) (w : World) : Prop :=
  ∀ (b : Frame) (k : List Item) (cs : List Frame), b.roundOf = F.round → F.fn b.fn → F.room (cs.length + 1 + n) →
    ∃ e a' w', Q e a' w' ∧ ArrivesIn (Machine.fenced P F) P (lone (b.atR a (.inLoop c :: k)) cs w) b k cs e a' w'
structure SelfS (P : Program) (w0 : World) (s : Self) : Prop where
  call : ∀ {ρ : Ren} {H : Heap} {w : World} {f : FuncId} {args args' : Array Value} {v : Value} {H' : Heap} (n : Nat), Gam w0 ρ H w → LR ρ args.toList args'.toList → s.call f args H = some (v, H') →
    CallsIn Fence.wide n P f args' w (CallPost w0 ρ H v H')
  code : ∀ {ρ : Ren} {H : Heap} {w : World} {r rC : Option Nat} {c : Code} {A : AAct} {a : Act} {e : Exit} {A' : AAct} {H' : Heap} (n : Nat), Gam w0 ρ H w → RoundR ρ r rC → ActR ρ A a → s.code r c A H = some (e, A', H') →
    c.wpIn (Fr rC) n P (CodePost w0 ρ H e A' H') a w
  again : ∀ {ρ : Ren} {H : Heap} {w : World} {r rC : Option Nat} {c : Code} {A : AAct} {a : Act} {e : Exit} {A' : AAct} {H' : Heap} (n : Nat), Gam w0 ρ H w → RoundR ρ r rC → ActR ρ A a → s.code r (.loop c) A H = some (e, A', H') →
    LoopIn c (Fr rC) n P (CodePost w0 ρ H e A' H') a w

variable {s : Self}
theorem no_defer {env : Operand → Value} {o : Oper} {r : ANext × Heap} (h : opA P H env o = some r) : ∀ c, o.op ≠ .defer c := by
  intro c e
  simp [opA, valA, e] at h

theorem getLoop_get {H : Heap} {l : Nat} {r : ALoop} (h : getLoopA H l = some r) : H.get l = some (.loop r) := by
  unfold getLoopA at h
  split at h
  · cases h
  cases ho : H.get l with
  | none => simp [ho] at h
  | some o => cases o <;> simp [ho] at h; rw [h]
theorem getLoop_own {H : Heap} {l : Nat} {r : ALoop} (h : getLoopA H l = some r) : gbase ≤ l := by
  unfold getLoopA at h
  split at h
  · cases h
  omega
theorem Gam.putLoop (g : Gam w0 ρ H w) {l : Nat} {m : Meta} {r l' : ALoop} {L' : Loop} (hm : ρ l = some m) (hi : gbase ≤ l) (ho : H.get l = some (.loop r)) (hr : LoopR ρ l' L') :
    Gam w0 ρ (H.set l (.loop l')) (w.putObj m.b (.loop L')) ∧ Ext ρ ρ H (H.set l (.loop l')) := by
  have hlt : m.b < w.heap.size := (g.own l m hm).1
  refine g.update hm hi ho rfl (by simp [World.putObj]) (fun k hk => World.putObj_heap_other (by omega)) rfl rfl rfl ?_
  exact ⟨L', World.putObj_heap_same hlt, hr⟩
theorem putAll_R : ∀ (ts : List Tmp) {l l' : List Value}, LR ρ l l' → ∀ {A : AAct} {a : Act}, ActR ρ A a →
    ActR ρ (A.putAll (ts.zip l)) { a with tmps := (ts.zip l').foldl (fun tmps (p : Tmp × Value) => tmps.setIfInBounds p.1 p.2) a.tmps }
  | [], _, _, _, A, a, r => by simpa [AAct.putAll] using r
  | t :: ts, _, _, .nil, A, a, r => by simpa [AAct.putAll] using r
  | t :: ts, _, _, .cons hv ht, A, a, r => by
    have := putAll_R ts ht (r.put1 t hv)
    simpa [AAct.putAll] using this
theorem act_round {r : ALoop} {L : Loop} (rL : LoopR ρ r L) {args args' : Array Value} (ha : LR ρ args.toList args'.toList) :
    ActR ρ ({ r.act with defers := [] }.putAll (r.params.toList.zip args.toList)) { tmps := (L.params.zip args').foldl (fun tmps (t, a) => tmps.setIfInBounds t a) L.tmps, defers := [] } := by
  have base : ActR ρ { r.act with defers := [] } { tmps := L.tmps, defers := [] } := ⟨rL.size, rL.slot, rfl, fun j D e => by simp at e⟩
  have := putAll_R r.params.toList ha base
  have e : (L.params.zip args').foldl (fun tmps (t, a) => tmps.setIfInBounds t a) L.tmps = (r.params.toList.zip args'.toList).foldl (fun tmps (p : Tmp × Value) => tmps.setIfInBounds p.1 p.2) L.tmps := by
    rw [← Array.foldl_toList, Array.toList_zip, rL.params]
  rw [e]
  exact this
/-- One round. -/
theorem roundA_sound (hs : SelfS P w0 s) (g : Gam w0 ρ H w) {l : Nat} {m : Meta} {L : Loop} {args args' : Array Value} {v : Value} {H' : Heap} {rC : Option Nat} (n : Nat) (hm : ρ l = some m) (hL : w.heap[m.b]? = some (.loop L))
    (ha : LR ρ args.toList args'.toList) (h : roundA s l args H = some (v, H')) :
    RoundIn (Fr rC) n P m.b L.fn ((L.params.zip args').foldl (fun tmps (t, a) => tmps.setIfInBounds t a) L.tmps) L.assign L.body w (CallPost w0 ρ H v H') := by
  unfold roundA at h
  obtain ⟨r, hr, h⟩ := Option.bind_eq_some_iff.1 h
  split at h
  · cases h
  rename_i hsz
  obtain ⟨⟨e1, A1, H1⟩, hc1, h⟩ := Option.bind_eq_some_iff.1 h
  split at h
  · cases h
  rename_i he1
  simp only [Bool.not_eq_false] at he1
  obtain ⟨r1, hr1, h⟩ := Option.bind_eq_some_iff.1 h
  split at h
  · cases h
  rename_i hst
  simp only [ne_eq, Decidable.not_not] at hst
  obtain ⟨⟨e2, A2, H2⟩, hc2, h⟩ := Option.bind_eq_some_iff.1 h
  obtain ⟨r2, hr2, h⟩ := Option.bind_eq_some_iff.1 h
  obtain ⟨jump, hj, h⟩ := Option.bind_eq_some_iff.1 h
  simp only [Option.some.injEq, Prod.mk.injEq] at h
  obtain ⟨rfl, rfl⟩ := h
  have e1n : e1 = .normal := by cases e1 <;> first | rfl | simp [isNormal] at he1
  subst e1n
  obtain ⟨L', hL', rL⟩ := g.obj l m _ hm (getLoop_get hr)
  rw [hL] at hL'
  cases hL'
  have hgl := getLoop_own hr
  refine roundIn_of_wpIn (Fr_fn _ _) ?_
  rw [Fr_inRound, rL.assign]
  have ra := act_round rL (args := args) ha
  refine wpIn_mono (hs.code n g (.some hm) ra hc1) ?_
  rintro e a1 w1 ⟨rfl, ρ1, ra1, g1, ext1⟩
  have hm1 := ext1.le _ _ hm
  obtain ⟨L1, hL1, rL1⟩ := g1.obj l m _ hm1 (getLoop_get hr1)
  refine ⟨_, run_beginRound hL1 (by rw [rL1.state, hst]), ?_⟩
  rw [rL.body]
  obtain ⟨g2, ext2⟩ := g1.putLoop hm1 hgl (getLoop_get hr1) (l' := { r1 with state := .busy }) (L' := { L1 with state := .busy }) ⟨rfl, rL1.pending, rL1.size, rL1.slot, rL1.params, rL1.assign, rL1.body, rL1.defers⟩
  refine wpIn_mono (hs.code n g2 (.some hm1) ra1 hc2) ?_
  rintro e a2 w2 ⟨rfl, ρ3, ra3, g3, ext3⟩
  have hm3 := ext3.le _ _ hm1
  obtain ⟨L2, hL2, rL2⟩ := g3.obj l m _ hm3 (getLoop_get hr2)
  obtain ⟨g4, ext4⟩ := g3.putLoop hm3 hgl (getLoop_get hr2) (l' := { r2 with state := if jump.isNone then .ready else .done, pending := jump }) (L' := { L2 with state := if jump.isNone then .ready else .done, pending := jump })
    ⟨rfl, rfl, rL2.size, rL2.slot, rL2.params, rL2.assign, rL2.body, rL2.defers⟩
  have hend := run_endRound (P := P) jump hL2
  have hfin : CallPost w0 ρ H (.bool jump.isNone) (H2.set l (.loop { r2 with state := if jump.isNone then .ready else .done, pending := jump })) (.returned (.bool jump.isNone)) _ := ⟨ρ3, _, rfl, .bool _, g4, ((ext1.trans ext2).trans ext3).trans ext4⟩
  cases e with
  | normal => simp only [jumpOf, Option.some.injEq] at hj; subst hj; exact ⟨_, _, hend, hfin⟩
  | ret => simp only [jumpOf, Option.some.injEq] at hj; subst hj; exact ⟨_, _, hend, hfin⟩
  | exit id => simp only [jumpOf, Option.some.injEq] at hj; subst hj; exact ⟨_, _, hend, hfin⟩
  | goto t => simp only [jumpOf, Option.some.injEq] at hj; subst hj; exact ⟨_, _, hend, hfin⟩
  | _ => simp [jumpOf] at hj

theorem stepA_sound (hs : SelfS P w0 s) (g : Gam w0 ρ H w) {o : Oper} {A A' : AAct} {a : Act} {H' : Heap} {rC : Option Nat} {n : Nat} {next : Act → World → Prop} {Q : Exit → Act → World → Prop} (ra : ActR ρ A a)
    (h : stepA P s o A H = some (A', H')) (K : ∀ ρ' a' w', ActR ρ' A' a' → Gam w0 ρ' H' w' → Ext ρ ρ' H H' → next a' w') : o.wpIn (Fr rC) n P a w next Q := by
  unfold stepA at h
  obtain ⟨⟨nx, H1⟩, hop, h⟩ := Option.bind_eq_some_iff.1 h
  obtain ⟨ρ1, nx', w1, g1, ext1, hnx, hrun⟩ := opA_sound g (env' := a.eval) (fun y _ => ra.eval y) hop
  refine ⟨fun f _ => Fr_fn _ f, ?_⟩
  rw [Oper.semAt_eq _ _ _ (no_defer hop), hrun]
  have dep : (Fr rC).depth.isSome = true → 1 ≤ n := by rw [Fr_depth]; simp
  cases hnx with
  | value hv =>
    simp only [Option.some.injEq, Prod.mk.injEq] at h
    obtain ⟨rfl, rfl⟩ := h
    exact K ρ1 _ w1 ((ra.mono ext1.le).put _ hv) g1 ext1
  | skip =>
    simp only [Option.some.injEq, Prod.mk.injEq] at h
    obtain ⟨rfl, rfl⟩ := h
    exact K ρ1 _ w1 ((ra.mono ext1.le).put _ (VR.undef _)) g1 ext1
  | enter ha =>
    simp only at h
    obtain ⟨⟨v, H2⟩, hc, h⟩ := Option.bind_eq_some_iff.1 h
    simp only [Option.some.injEq, Prod.mk.injEq] at h
    obtain ⟨rfl, rfl⟩ := h
    refine ⟨dep, (Fr_calls (hs.call (n - 1) g1 ha hc)).mono ?_⟩
    rintro e w2 ⟨ρ2, v', rfl, hv, g2, ext2⟩
    exact K ρ2 _ w2 (((ra.mono ext1.le).mono ext2.le).put _ hv) g2 (ext1.trans ext2)
  | round hm hL ha =>
    simp only at h
    obtain ⟨⟨v, H2⟩, hc, h⟩ := Option.bind_eq_some_iff.1 h
    simp only [Option.some.injEq, Prod.mk.injEq] at h
    obtain ⟨rfl, rfl⟩ := h
    refine ⟨dep, (roundA_sound hs g1 (n - 1) hm hL ha hc).mono ?_⟩
    rintro e w2 ⟨ρ2, v', rfl, hv, g2, ext2⟩
    exact K ρ2 _ w2 (((ra.mono ext1.le).mono ext2.le).put _ hv) g2 (ext1.trans ext2)

theorem opsA_sound (hs : SelfS P w0 s) {rC : Option Nat} {n : Nat} {ops : Array Oper} {Q : Exit → Act → World → Prop} : ∀ (l : List Nat) {ρ : Ren} {H : Heap} {w : World} {A A' : AAct} {a : Act} {H' : Heap}, Gam w0 ρ H w → ActR ρ A a →
    opsA P s ops l A H = some (A', H') → (∀ ρ' a' w', ActR ρ' A' a' → Gam w0 ρ' H' w' → Ext ρ ρ' H H' → Q .normal a' w') → wpOpsIn (Fr rC) n P ops Q l a w := by
  intro l
  induction l with
  | nil =>
    intro ρ H w A A' a H' g ra h K
    simp only [opsA, Option.some.injEq, Prod.mk.injEq] at h
    obtain ⟨rfl, rfl⟩ := h
    exact K ρ a w ra g (.refl _ _)
  | cons i rest ih =>
    intro ρ H w A A' a H' g ra h K
    simp only [opsA] at h
    simp only [wpOpsIn]
    cases ho : ops[i]? with
    | none =>
      simp only [ho] at h ⊢
      exact ih g ra h K
    | some o =>
      simp only [ho] at h ⊢
      cases hw : wantedA ops A o with
      | none => simp [hw] at h
      | some b =>
        have hwr := wanted_R ra hw
        cases b with
        | true =>
          simp only [hw] at h
          rw [if_pos hwr]
          obtain ⟨⟨A1, H1⟩, h1, h⟩ := Option.bind_eq_some_iff.1 h
          exact stepA_sound hs g ra h1 (fun ρ1 a1 w1 ra1 g1 ext1 => ih g1 ra1 h (fun ρ2 a2 w2 ra2 g2 ext2 => K ρ2 a2 w2 ra2 g2 (ext1.trans ext2)))
        | false =>
          simp only [hw] at h
          rw [if_neg (by rw [hwr]; simp)]
          exact ⟨fun f _ => Fr_fn _ f, ih g (ra.put _ (VR.undef _)) h K⟩

end Go.Abs
