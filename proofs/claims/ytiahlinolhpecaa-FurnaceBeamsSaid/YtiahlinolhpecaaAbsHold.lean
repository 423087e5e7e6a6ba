/- Code, calls: what is left to show is enough. -/
import Derived.Test.YtiahlinolhpecaaAbsGc
namespace Go.Abs
open Go.RowKit
variable {P : Program} {ρ : Ren} {w0 w : World} {H : Heap} {h : Handler} {L : AtLoop}

abbrev Cont := Exit → AAct → Heap → Prop
def Post (w0 : World) (ρ : Ren) (H : Heap) (b : Bool) (sz : Nat) (K : Cont) : Exit → Act → World → Prop := fun e a' w' =>
  ∃ A' H' ρ', K e A' H' ∧ A'.size = sz ∧ ActR ρ' A' a' ∧ Gam w0 ρ' H' w' ∧ (b = true → Ext ρ ρ' H H')
/-- A piece of code leads to what is said. -/
def Holds (P : Program) (b : Bool) (sz : Nat) (c : Code) (A : AAct) (H : Heap) (K : Cont) : Prop :=
  ∀ (w0 : World) (ρ : Ren) (w : World) (a : Act) (n : Nat), Gam w0 ρ H w → ActR ρ A a → A.size = sz → c.wpIn (Fr none) n P (Post w0 ρ H b sz K) a w
theorem Post.back {ρ' : Ren} {H' : Heap} {b : Bool} {sz : Nat} {K : Cont} {e : Exit} {a : Act} (ext : b = true → Ext ρ ρ' H H') (p : Post w0 ρ' H' b sz K e a w) : Post w0 ρ H b sz K e a w := by
  obtain ⟨A1, H1, ρ1, h1, h2, h3, h4, h5⟩ := p
  exact ⟨A1, H1, ρ1, h1, h2, h3, h4, fun hb => (ext hb).trans (h5 hb)⟩
theorem Post.mono {b : Bool} {sz : Nat} {K K' : Cont} {e : Exit} {a : Act} (p : Post w0 ρ H b sz K e a w) (hk : ∀ A H, K e A H → K' e A H) : Post w0 ρ H b sz K' e a w := by
  obtain ⟨A1, H1, ρ1, h1, h2, h3, h4, h5⟩ := p
  exact ⟨A1, H1, ρ1, hk _ _ h1, h2, h3, h4, h5⟩

/-- The loops of a piece of code, met at their heads, lead on. -/
def loopsOK (P : Program) (h : Handler) (L : AtLoop) (sz : Nat) : Code → Lv → Cont → Prop
  | .seq x y, l, k => loopsOK P h L sz x { l with normal := liveIn y l } (seqK (fun A' H' => wpT P h L 0 y l A' H' k) k) ∧ loopsOK P h L sz y l k
  | .cond _ x y, l, k => loopsOK P h L sz x l k ∧ loopsOK P h L sz y l k
  | .block i b, l, k => if isLoop b then ∀ s bl, L i s bl → Holds P false sz (.block i b) (actOf sz s) (heapOf bl) k else loopsOK P h L sz b { l with exits := (i, l.normal) :: l.exits } (blockK i k)
  | _, _, _ => True

theorem wpT_sound (hh : HandlerOK P h) (hmix : P.follows .mixedOrders = true) {u : Nat} {b : Bool} (hb : u = 0 → b = false) {sz : Nat} : ∀ (c : Code) {l : Lv} {A : AAct} {H : Heap} {K : Cont}, wpT P h L u c l A H K → (u = 0 → loopsOK P h L sz c l K) → Holds P b sz c A H K := by
  intro c
  induction c with
  | skip =>
    intro l A H K hk _ w0 ρ w a n g ra hs
    exact wpIn_skip ⟨A, H, ρ, hk, hs, ra, g, fun _ => .refl _ _⟩
  | region id ops draw =>
    intro l A H K hk _ w0 ρ w a n g ra hs
    cases draw with
    | false => exact wpIn_region (wpOps_sound hh _ g ra hk (fun ρ' A' H' a' w' q1 q2 q3 q4 q5 => ⟨A', H', ρ', q1, q2.trans hs, q3, q4, fun _ => q5⟩))
    | true =>
      simp only [wpT] at hk
      split at hk
      · rename_i hgood
        exact wpAny_sound hh hmix g n ra hgood hk (fun ρ' A' H' a' w' q1 q2 q3 q4 q5 => ⟨A', H', ρ', q1, q2.trans hs, q3, q4, fun _ => q5⟩)
      · cases hk
  | seq x y ihx ihy =>
    intro l A H K hk hl w0 ρ w a n g ra hs
    simp only [wpT] at hk
    refine wpIn_seq (wpIn_mono (ihx hk (fun hu => by subst hu; exact (hl rfl).1) w0 ρ w a n g ra hs) ?_)
    rintro e a1 w1 ⟨A1, H1, ρ1, k1, s1, ra1, g1, ext1⟩
    cases e with
    | normal => exact wpIn_mono (ihy k1 (fun hu => (hl hu).2) w0 ρ1 w1 a1 n g1 ra1 s1) (fun e a w p => p.back ext1)
    | _ => exact ⟨A1, H1, ρ1, k1, s1, ra1, g1, ext1⟩
  | cond c x y ihx ihy =>
    intro l A H K hk hl w0 ρ w a n g ra hs
    simp only [wpT] at hk
    have hc := ra.eval c
    split at hk
    · rename_i ec
      rw [ec] at hc
      exact wpIn_cond_true hc.bool_inv (ihx hk (fun hu => (hl hu).1) w0 ρ w a n g ra hs)
    · rename_i ec
      rw [ec] at hc
      exact wpIn_cond_false hc.bool_inv (ihy hk (fun hu => (hl hu).2) w0 ρ w a n g ra hs)
    · cases hk
  | block id body ih =>
    intro l A H K hk hl w0 ρ w a n g ra hs
    simp only [wpT] at hk
    split at hk
    · rename_i hc
      obtain ⟨hu, hlp⟩ := hc
      have hlo := hl hu
      simp only [loopsOK, hlp, if_true] at hlo
      split at hk
      · rename_i hd
        obtain ⟨hgood, hk⟩ := bcase_out hk
        obtain ⟨g2, ra2⟩ := gc_sub g ra hd (keep := _) hgood
        have := hlo _ _ hk w0 _ w a n g2 (hs ▸ ra2) rfl
        refine wpIn_mono this ?_
        rintro e a' w' ⟨A1, H1, ρ1, k1, s1, ra1, g1, ext1⟩
        exact ⟨A1, H1, ρ1, k1, s1, ra1, g1, fun hb' => by rw [hb hu] at hb'; cases hb'⟩
      · cases hk
    · rename_i hc
      have hnl : u = 0 → isLoop body = false := fun hu => by
        cases hlp : isLoop body with
        | false => rfl
        | true => exact absurd ⟨hu, hlp⟩ hc
      have hk2 := ih hk (fun hu => by
        have := hl hu
        simp only [loopsOK, hnl hu, Bool.false_eq_true, if_false] at this
        exact this) w0 ρ w a n g ra hs
      refine wpIn_block (wpIn_mono hk2 ?_)
      rintro e a1 w1 ⟨A1, H1, ρ1, k1, s1, ra1, g1, ext1⟩
      cases e with
      | exit id' =>
        simp only [blockK] at k1
        by_cases hid : id' = id
        · simp only [hid, if_true] at k1
          simp only [Exit.inBlock, hid, if_true]
          exact ⟨A1, H1, ρ1, k1, s1, ra1, g1, ext1⟩
        · simp only [hid, if_false] at k1
          simp only [Exit.inBlock, hid, if_false]
          exact ⟨A1, H1, ρ1, k1, s1, ra1, g1, ext1⟩
      | _ => exact ⟨A1, H1, ρ1, k1, s1, ra1, g1, ext1⟩
  | loop body ih =>
    intro l A H K hk hl w0 ρ w a n g ra hs
    simp only [wpT] at hk
    have hu : u ≠ 0 := fun hu => by rw [hu] at hk; exact hk
    have key : ∀ (m : Nat) (A : AAct) (H : Heap) (ρ : Ren) (w : World) (a : Act), wpLoop (fun A H k => wpT P h L u body l A H k) m A H K → Gam w0 ρ H w → ActR ρ A a → A.size = sz →
        body.wpIn (Fr none) n P (Exit.then (LoopIn body (Fr none) n P (Post w0 ρ H b sz K)) (Post w0 ρ H b sz K)) a w := by
      intro m
      induction m with
      | zero => intro A H ρ w a hk; exact hk.elim
      | succ m ihm =>
        intro A H ρ w a hk g ra hs
        simp only [wpLoop] at hk
        refine wpIn_mono (ih hk (fun h0 => absurd h0 hu) w0 ρ w a n g ra hs) ?_
        rintro e a1 w1 ⟨A1, H1, ρ1, k1, s1, ra1, g1, ext1⟩
        cases e with
        | normal => exact loopIn_mono (loopIn_once (ihm A1 H1 ρ1 w1 a1 k1 g1 ra1 s1)) (fun e a w p => p.back ext1)
        | _ => exact ⟨A1, H1, ρ1, k1, s1, ra1, g1, ext1⟩
    exact wpIn_loop_once (key _ A H ρ w a hk g ra hs)
  | exit id =>
    intro l A H K hk _ w0 ρ w a n g ra hs
    exact wpIn_exit ⟨A, H, ρ, hk, hs, ra, g, fun _ => .refl _ _⟩
  | ret =>
    intro l A H K hk _ w0 ρ w a n g ra hs
    exact wpIn_ret ⟨A, H, ρ, hk, hs, ra, g, fun _ => .refl _ _⟩
  | rangeFunc f ps x y _ _ => intro l A H K hk; exact hk.elim
  | label l => intro l A H K hk; exact hk.elim
  | goto l => intro l A H K hk; exact hk.elim
  | scope body _ => intro l A H K hk; exact hk.elim
  | refuse why => intro l A H K hk; exact hk.elim

/-- A call whose body has been walked. -/
theorem wpFn_run (hh : HandlerOK P h) (hmix : P.follows .mixedOrders = true) {u : Nat} {b : Bool} (hb : u = 0 → b = false) {f : FuncId} {fn : Func} {c : Code} (hf : P.funcs[f]? = some fn) (hc : fn.body = some c) {args : Array Value} {k : Value → Heap → Prop}
    (hk : wpFn P h L u f args H k) (hl : u = 0 → loopsOK P h L (max args.size fn.ntmps) c (fnLv fn) (fnK P fn k))
    (g : Gam w0 ρ H w) {args' : Array Value} (n : Nat) (ha : LR ρ args.toList args'.toList) :
    CallsIn Fence.wide n P f args' w fun e w' => ∃ v H' ρ' v', k v H' ∧ e = .returned v' ∧ VR ρ' v v' ∧ Gam w0 ρ' H' w' ∧ (b = true → Ext ρ ρ' H H') := by
  unfold wpFn at hk
  simp only [hf, hc] at hk
  refine callsIn_of_wp_marks hf hc trivial ?_
  refine wpIn_mono (wpT_sound hh hmix hb c hk hl w0 ρ w _ n g (initial_act ha fn.ntmps) rfl) ?_
  rintro e a1 w1 ⟨A1, H1, ρ1, k1, s1, ra1, g1, ext1⟩
  have fin : ∀ {v : Value}, A1.defers = [] → resultsA P H1 fn A1 = some v → k v H1 → LeavesInM Fence.wide n P fn a1.tmps (fun e w' => ∃ v H' ρ' v', k v H' ∧ e = .returned v' ∧ VR ρ' v v' ∧ Gam w0 ρ' H' w' ∧ (b = true → Ext ρ ρ' H H')) a1.defers .returning w1 := by
    intro v hd hr hkv
    have hdd := ra1.defers
    rw [hd] at hdd
    refine leaves_R (P := P) (ρ := ρ1) (w0 := w0) [] a1.defers rfl g1 hdd (fun w2 g2 ext2 => ?_)
    obtain ⟨v', hv, hrun⟩ := resultsA_sound g2 ra1 hr
    exact ⟨v', hrun, v, H1, ρ1, v', hkv, rfl, hv, g2, ext1⟩
  cases e with
  | normal =>
    simp only [fnK] at k1
    split at k1
    · rename_i hd
      split at k1
      · rename_i v hr; exact fin hd hr k1
      · cases k1
    · cases k1
  | ret =>
    simp only [fnK] at k1
    split at k1
    · rename_i hd
      split at k1
      · rename_i v hr; exact fin hd hr k1
      · cases k1
    · cases k1
  | _ => exact k1.elim

theorem wpFn_call (hh : HandlerOK P h) (hmix : P.follows .mixedOrders = true) {u : Nat} (hu : u ≠ 0) {f : FuncId} {args : Array Value} {k : Value → Heap → Prop} (hk : wpFn P h L u f args H k) : CallH P f args H k := by
  intro w0 ρ w args' n g ha
  have hk' := hk
  unfold wpFn at hk'
  cases hf : P.funcs[f]? with
  | none => simp [hf] at hk'
  | some fn =>
    cases hc : fn.body with
    | none => simp [hf, hc] at hk'
    | some c =>
      refine (wpFn_run hh hmix (b := true) (fun h0 => absurd h0 hu) hf hc hk (fun h0 => absurd h0 hu) g n ha).mono ?_
      rintro e w' ⟨v, H', ρ', v', q1, q2, q3, q4, q5⟩
      exact ⟨v, H', ρ', v', q1, q2, q3, q4, q5 rfl⟩
end Go.Abs
