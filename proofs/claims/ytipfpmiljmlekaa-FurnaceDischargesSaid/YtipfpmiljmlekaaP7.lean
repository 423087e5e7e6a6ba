/- Texts of the proof, put together: AbsRngR, AbsRngJ, GjTK3, GjEG6, GjEG7, GjEG8, AbsShort2, GjJEG9, GjJE1, GjJE2, GjEHA. -/
import Derived.Test.YtipfpmiljmlekaaP6
import Derived.Test.YtipfpmiljmlekaaP5
import Derived.Test.YtipfpmiljmlekaaP4
/- A range over a function: the rule. -/
namespace Go.Abs
open Go.RowKit
variable {P : Program} {ρ : Ren} {w0 : Start P} {w : World} {H : Heap} {h : Handler} {Fo : Nat → Prop}

theorem readsL_len {ds : List D} {vs : List Value} (h : ReadsL w ds vs) : ds.length = vs.length := by
  induction ds generalizing vs with
  | nil => cases h; rfl
  | cons d r ih => cases h with | cons h t => simp [ih t]
theorem putAll_size : ∀ (l : List (Tmp × Value)) (A : AAct), (A.putAll l).size = A.size
  | [], _ => rfl
  | (t, v) :: l, A => by
    simp only [AAct.putAll]
    rw [putAll_size l]
    unfold AAct.put1
    split <;> rfl
theorem Foot.mono {ρ2 : Ren} {Fo2 : Nat → Prop} {k : Nat} (hr : ∀ i m, mbase ≤ i → ρ i = some m → ρ2 i = some m) (hf : Fo k → Fo2 k) (h : Foot ρ Fo k) : Foot ρ2 Fo2 k := by
  rcases h with ⟨i, m, h1, h2, h3⟩ | h
  · exact .inl ⟨i, m, h1, hr i m h1 h2, h3⟩
  · exact .inr (hf h)
theorem foot_may (g : Gam w0 ρ H w) (wt : Wit w0 ρ H w Fo) {k : Nat} (h : Foot ρ Fo k) (hk : k < w0.w.heap.size) : w0.may k := by
  rcases h with ⟨i, m, h1, h2, rfl⟩ | h
  · rcases Nat.lt_or_ge i gbase with hl | hl
    · exact .inl (.inl ⟨i, m, h1, hl, g.pins i m (Nat.le_trans (by decide) h1) hl h2, rfl⟩)
    · rcases (g.own i m h2).2 hl with h | h
      · omega
      · exact .inl (.inr h)
  · exact .inr (wt.free g h hk)
theorem foot_lt (g : Gam w0 ρ H w) (wt : Wit w0 ρ H w Fo) {k : Nat} (h : Foot ρ Fo k) : k < w.heap.size := by
  rcases h with ⟨i, m, h1, h2, rfl⟩ | h
  · exact (g.own i m h2).1
  · exact wt.bound g h
theorem gc_wit {μ : Mu} (g : Gam w0 ρ H w) (wt : Wit w0 ρ H w Fo) (ok : MuOK μ (heapOf (gcB H μ μ)).next) : Wit w0 (μ.ren ρ) (heapOf (gcB H μ μ)) w (fun k => (∃ own rest, (heapOf (gcB H μ μ)).get ynum = some (.yld own rest)) ∧ Fo k) := by
  have okS : MuS μ := ⟨ok.snd, fun i j hij hlt => by
    rcases ok.cls i j hij with h | h
    · exact h.2
    · have := h.1; unfold gbase at this; unfold abase at hlt; omega⟩
  refine ⟨fun own rest hget => ?_, fun h k hk => let ⟨⟨own, rest, h'⟩, _⟩ := hk; h own rest h'⟩
  obtain ⟨i, o', hi, hg, hmo⟩ := gcB_mem (heapOf_get hget)
  have ho' := isYld_of hmo
  subst ho'
  have hiy : ynum = i := by
    rcases ok.cls _ _ hi with h | h
    · exact h.2
    · exact absurd h.2.1 (by decide)
  subst hiy
  obtain ⟨m, q1, q2, q3⟩ := wt.is own rest hg
  have eF : (fun k => (∃ own rest, (heapOf (gcB H μ μ)).get ynum = some (.yld own rest)) ∧ Fo k) = Fo := by
    funext k
    exact propext ⟨fun h => h.2, fun h => ⟨⟨own, rest, hget⟩, h⟩⟩
  refine ⟨m, by rw [Mu.ren_of ok.snd hi]; exact q1, by rw [eF]; exact q2, fun j n hj hl hne hF => ?_⟩
  obtain ⟨oj, gj, aj⟩ := hl
  obtain ⟨_, j0, oj0, hj0, rj0, gj0, _, haj⟩ := ren_obj okS g hj gj
  exact q3 j0 n rj0 ⟨oj0, gj0, by rw [← haj]; exact aj⟩ (fun e => by subst e; exact hne (mu_eq_fst ok.fst hj0 hi)) hF.2

/-- The record of a loop changes: nothing else. -/
theorem Gam.record (g : Gam w0 ρ H w) (wt : Wit w0 ρ H w Fo) {lr : Nat} (h0 : w0.w.heap.size ≤ lr) (hm : ∀ i m, ρ i = some m → m.b ≠ lr) (hf : ¬ Fo lr) (o : Obj) : Gam w0 ρ H (w.putObj lr o) ∧ Wit w0 ρ H (w.putObj lr o) Fo := by
  have hput : ∀ k, k ≠ lr → (w.putObj lr o).heap[k]? = w.heap[k]? := fun k hk => World.putObj_heap_other hk
  exact g.same wt rfl rfl rfl (by simp [World.putObj]) (fun k hk _ => hput k (by omega)) (fun i m h _ => hput _ (hm i m h)) (fun k hk => hput k (fun e => hf (e ▸ hk)))

/-- What a round leaves. -/
def Left (B : Slots → Blocks → Prop) (X : Exit → Slots → Blocks → Prop) (e : Exit) (s : Slots) (b : Blocks) : Prop :=
  match e with
  | .normal => B s b
  | .ret => X .ret s b
  | .exit i => X (.exit i) s b
  | _ => False
theorem rend_out {keep : List Tmp} {A A1 : AAct} {B : Slots → Blocks → Prop} {X : Exit → Slots → Blocks → Prop} {e : Exit} (hk : rendK keep A B X e A1 H) : ∃ μ, rowGood μ keep A (gcB H μ μ) = true ∧ Left B X e (gcS μ keep A) (gcB H μ μ) := by
  cases e with
  | normal => obtain ⟨h1, h2⟩ := bcase_out hk; exact ⟨_, h1, h2⟩
  | ret => obtain ⟨h1, h2⟩ := bcase_out hk; exact ⟨_, h1, h2⟩
  | exit i => obtain ⟨h1, h2⟩ := bcase_out hk; exact ⟨_, h1, h2⟩
  | _ => exact hk.elim

def JumpIs (e : Exit) (jump : Option Code) : Prop := match e with | .normal => jump = none | .ret => jump = some .ret | .exit i => jump = some (.exit i) | _ => False
/-- What is known behind a round. -/
def RoundQ (sz : Nat) (B : Slots → Blocks → Prop) (X : Exit → Slots → Blocks → Prop) (w0 : Start P) (ρ : Ren) (Fo : Nat → Prop) (w : World) (a : Act) (lr : Nat) (L : Loop) (e : Ending) (w' : World) : Prop :=
      ∃ (jump : Option Code) (ex : Exit) (ρ' : Ren) (s' : Slots) (b' : Blocks) (Fo' : Nat → Prop) (L' : Loop), e = .returned (.bool jump.isNone) ∧ Left B X ex s' b' ∧ JumpIs ex jump ∧
        Gam w0 ρ' (heapOf b') w' ∧ Wit w0 ρ' (heapOf b') w' Fo' ∧ ActR ρ' (actOf sz s') a ∧ w'.heap[lr]? = some (.loop L') ∧ L' = { L with state := if jump.isNone then .ready else .done, pending := jump } ∧
        w'.os = w.os ∧ w'.tape = w.tape ∧ w'.output = w.output ∧ w.heap.size ≤ w'.heap.size ∧ (∀ k, k < w.heap.size → k ≠ lr → ¬ Foot ρ Fo k → w'.heap[k]? = w.heap[k]?) ∧ (∀ k, Foot ρ' Fo' k → Foot ρ Fo k ∨ w.heap.size ≤ k) ∧
        (∀ i m, ρ' i = some m → m.b ≠ lr) ∧ ¬ Fo' lr ∧ (∀ i m, i < mbase → ρ' i = some m → ρ i = some m) ∧ (∀ q, wbase ≤ q → q < hbase → ρ' q = none ∧ ∀ o, (q, o) ∉ b')

/-- A ROUND, from the caller's view. lr: the loop's record. -/
theorem round_run (hh : HandlerOK P h) (hmix : P.follows .mixedOrders = true) {u : Nat} (hu : u ≠ 0) {sz : Nat} {ps : Array Tmp} {x y : Code} {l : Lv} {keep : List Tmp} {s : Slots} {b : Blocks} {row : List D} {B : Slots → Blocks → Prop} {X : Exit → Slots → Blocks → Prop}
    (hr : roundR P h u sz ps x y l keep s b row B X) (g : Gam w0 ρ (heapOf b) w) (wt : Wit w0 ρ (heapOf b) w Fo) {a : Act} (ra : ActR ρ (actOf sz s) a) {lr : Nat} {L : Loop} (hL : w.heap[lr]? = some (.loop L)) (h0 : w0.w.heap.size ≤ lr)
    (hLt : L.tmps = a.tmps) (hLp : L.params = ps) (hLa : L.assign = x) (hLb : L.body = y) (hLs : L.state = .ready) (hm : ∀ i m, ρ i = some m → m.b ≠ lr) (hf : ¬ Fo lr) (hno : ∀ q, wbase ≤ q → q < hbase → ρ q = none ∧ ∀ o, (q, o) ∉ b)
    {F : Nat → Prop} (hFl : F lr) (hF : ∀ k, Foot ρ Fo k → F k) {args' : Array Value} (hrd : ReadsL (hide F w) row args'.toList) (rC : Option Nat) (n : Nat) :
    L.params.size = args'.size ∧ RoundIn (Fr rC) n P lr L.fn ((L.params.zip args').foldl (fun tmps (t, a) => tmps.setIfInBounds t a) L.tmps) L.assign L.body w (RoundQ sz B X w0 ρ Fo w a lr L) := by
  have hlr : lr < w.heap.size := by
    rcases Nat.lt_or_ge lr w.heap.size with h | h
    · exact h
    · rw [Array.getElem?_eq_none h] at hL; cases hL
  unfold roundR at hr
  obtain ⟨hcnt, hwp⟩ := bcase_out hr
  simp only [Bool.and_eq_true, decide_eq_true_eq] at hcnt
  have hlen := readsL_len hrd
  refine ⟨by rw [hLp, ← hcnt.2, hlen]; simp, ?_⟩
  obtain ⟨caps, ρ3, g3, hl3, hle3, hnew3, wt3⟩ := g.layRow wt hno hF hrd hcnt.1
  have hwp := hwp caps
  -- numbers that may be written are the caller's
  have big3 : ∀ i m, mbase ≤ i → ρ3 i = some m → ρ i = some m := fun i m hi h => (hnew3 i m h).resolve_right (fun h2 => by have := h2.2.1; unfold mbase at hi; unfold hbase at this; omega)
  have foot3 : ∀ k, Foot ρ3 Fo k → Foot ρ Fo k := fun k hk => hk.mono big3 id
  have lr3 : ∀ i m, ρ3 i = some m → m.b ≠ lr := fun i m h e => by
    rcases hnew3 i m h with h | ⟨_, _, h⟩
    · exact hm i m h e
    · exact h (e ▸ hFl)
  refine roundIn_of_wpIn (Fr_fn _ _) ?_
  rw [Fr_inRound, hLa, hLb, hLp, hLt]
  have raA : ActR ρ3 (AAct.putAll { actOf sz s with defers := [] } (ps.toList.zip (layVals caps wbase row).1)) { tmps := (ps.zip args').foldl (fun tmps (t, a) => tmps.setIfInBounds t a) a.tmps, defers := [] } := by
    have base : ActR ρ3 { actOf sz s with defers := [] } { tmps := a.tmps, defers := [] } := ⟨ra.size, fun t => (ra.slot t).mono hle3, rfl, fun j D e => by simp at e⟩
    have := putAll_R ps.toList hl3 base
    have e : (ps.zip args').foldl (fun tmps (t, a) => tmps.setIfInBounds t a) a.tmps = (ps.toList.zip args'.toList).foldl (fun tmps (p : Tmp × Value) => tmps.setIfInBounds p.1 p.2) a.tmps := by
      rw [← Array.foldl_toList, Array.toList_zip]
    rw [e]
    exact this
  have hx := wpT_soundR (b := true) (rC := some lr) (sz := sz) hh hmix (fun h0 => absurd h0 hu) (fun h0 => absurd h0 hu) x hwp (fun h0 => absurd h0 hu) _ ρ3 w _ n (g3.atNow wt3) raA (putAll_size _ _)
  refine wpIn_mono hx ?_
  rintro e1 a1 w1 ⟨A1, H1, ρ4, k1, s1, ra4, g4, ext4⟩
  cases e1 with
  | normal =>
    obtain ⟨g4', key4, ⟨Fo4, wt4, hFo4⟩, foot4⟩ := g3.atBack wt3 g4
    have hs1 : w.heap.size ≤ w1.heap.size := g4.below.size
    have e4 := ext4 rfl
    have small4 : ∀ i m, i < mbase → ρ4 i = some m → ρ3 i = some m := by
      intro i m hi h
      have hnx : i < (heapOf (b ++ (layVals caps wbase row).2)).next := by have := g3.gb; unfold gbase at this; unfold mbase at hi; omega
      cases hr3 : ρ3 i with
      | none => rw [(e4.keep i hnx hr3).1] at h; cases h
      | some m' => rw [e4.le i m' hr3] at h; exact h
    have nfl : ¬ Foot ρ3 Fo lr := by
      rintro (⟨i, m, h1, h2, h3⟩ | h)
      · exact lr3 i m h2 h3
      · exact hf h
    have foot4' : ∀ k, Foot ρ4 Fo4 k → Foot ρ Fo k ∨ w.heap.size ≤ k := by
      rintro k (⟨i, m, h1, h2, rfl⟩ | h)
      · exact (foot4 i m h1 h2).imp (foot3 _) id
      · exact (hFo4 k h).imp .inr id
    have lr4 : ∀ i m, ρ4 i = some m → m.b ≠ lr := by
      intro i m h e
      rcases Nat.lt_or_ge i mbase with hl | hl
      · exact lr3 i m (small4 i m hl h) e
      · rcases foot4 i m hl h with h1 | h1
        · exact nfl (e ▸ h1)
        · omega
    have f4 : ¬ Fo4 lr := fun h => by
      rcases hFo4 lr h with h | h
      · exact hf h
      · omega
    have hL1 : w1.heap[lr]? = some (.loop L) := (key4 lr hlr nfl).trans hL
    have hlr1 : lr < w1.heap.size := by omega
    refine ⟨_, run_beginRound hL1 hLs, ?_⟩
    obtain ⟨gb, wtb⟩ := g4'.record wt4 h0 lr4 f4 (.loop { L with state := .busy })
    have hsb : (w1.putObj lr (.loop { L with state := .busy })).heap.size = w1.heap.size := by simp [World.putObj]
    have hLb1 : (w1.putObj lr (.loop { L with state := .busy })).heap[lr]? = some (.loop { L with state := .busy }) := World.putObj_heap_same hlr1
    have hy := wpT_soundR (b := true) (rC := some lr) (sz := sz) hh hmix (fun h0 => absurd h0 hu) (fun h0 => absurd h0 hu) y k1 (fun h0 => absurd h0 hu) _ ρ4 _ a1 n (gb.atNow wtb) ra4 s1
    refine wpIn_mono hy ?_
    rintro e2 a2 w2 ⟨A2, H2, ρ5, k2, s2, ra5, g5, ext5⟩
    obtain ⟨g5', key5, ⟨Fo5, wt5, hFo5⟩, foot5⟩ := gb.atBack wtb g5
    have hs2 : w1.heap.size ≤ w2.heap.size := by have := g5.below.size; simp only [startAt] at this; omega
    have e5 := ext5 rfl
    have small5 : ∀ i m, i < mbase → ρ5 i = some m → ρ4 i = some m := by
      intro i m hi h
      have hnx : i < H1.next := by have := g4.gb; unfold gbase at this; unfold mbase at hi; omega
      cases hr3 : ρ4 i with
      | none => rw [(e5.keep i hnx hr3).1] at h; cases h
      | some m' => rw [e5.le i m' hr3] at h; exact h
    have nfl4 : ¬ Foot ρ4 Fo4 lr := by
      rintro (⟨i, m, h1, h2, h3⟩ | h)
      · exact lr4 i m h2 h3
      · exact f4 h
    have foot5' : ∀ k, Foot ρ5 Fo5 k → Foot ρ Fo k ∨ w.heap.size ≤ k := by
      rintro k (⟨i, m, h1, h2, rfl⟩ | h)
      · rcases foot5 i m h1 h2 with h | h
        · exact foot4' _ h
        · exact .inr (by omega)
      · rcases hFo5 k h with h | h
        · exact foot4' _ (.inr h)
        · exact .inr (by omega)
    have hL2 : w2.heap[lr]? = some (.loop { L with state := .busy }) := (key5 lr (by omega) nfl4).trans hLb1
    have hlr2 : lr < w2.heap.size := by omega
    obtain ⟨μ, hgood, hleft⟩ := rend_out k2
    simp only [rowGood, Bool.and_eq_true] at hgood
    obtain ⟨hall, hrow⟩ := hgood
    have hok : MuOK μ (heapOf (gcB H2 μ μ)).next := by simp only [gcAll, Bool.and_eq_true] at hall; exact gcGood_ok hall.1
    have ra0 : ActR ρ5 (actOf sz s) a := ra.mono (Ren.le_trans hle3 (Ren.le_trans e4.le e5.le))
    obtain ⟨g6, ra6⟩ := gc_sub g5' ra0 hall
    have wt6 := gc_wit g5' wt5 hok
    have hrow' : ∀ i j, (i, j) ∈ μ → i < wbase ∨ hbase ≤ i := fun i j hij => by
      have := List.all_eq_true.1 hrow _ hij
      simpa using this
    have muBig : ∀ i j, (i, j) ∈ μ → mbase ≤ j → mbase ≤ i := fun i j hij hj => by
      rcases hok.cls i j hij with h | h
      · omega
      · exact mb_of h.1
    have muSmall : ∀ i j, (i, j) ∈ μ → j < mbase → i = j := fun i j hij hj => by
      rcases hok.cls i j hij with h | h
      · exact h.2.symm
      · have := h.2.1; unfold gbase at this; unfold mbase at hj; omega
    have small6 : ∀ i m, i < mbase → μ.ren ρ5 i = some m → ρ i = some m := by
      intro i m hi h
      obtain ⟨i0, hi0, hr0⟩ := Mu.ren_some h
      obtain rfl := muSmall _ _ hi0 hi
      rcases hnew3 _ m (small4 _ m hi (small5 _ m hi hr0)) with h | ⟨q1, q2, _⟩
      · exact h
      · rcases hrow' _ _ hi0 with h | h <;> omega
    have foot6 : ∀ k, Foot (μ.ren ρ5) (fun k => (∃ own rest, (heapOf (gcB H2 μ μ)).get ynum = some (.yld own rest)) ∧ Fo5 k) k → Foot ρ5 Fo5 k := by
      rintro k (⟨i, m, h1, h2, h3⟩ | h)
      · obtain ⟨i0, hi0, hr0⟩ := Mu.ren_some h2
        exact .inl ⟨i0, m, muBig _ _ hi0 h1, hr0, h3⟩
      · exact .inr h.2
    have nfl5 : ¬ Foot ρ5 Fo5 lr := fun h => by
      rcases foot5' lr h with h | h
      · rcases h with ⟨i, m, h1, h2, h3⟩ | h
        · exact hm i m h2 h3
        · exact hf h
      · omega
    have lr6 : ∀ i m, μ.ren ρ5 i = some m → m.b ≠ lr := by
      intro i m h e
      rcases Nat.lt_or_ge i mbase with hl | hl
      · exact hm i m (small6 i m hl h) e
      · exact nfl5 (foot6 _ (.inl ⟨i, m, hl, h, e⟩))
    have f6 : ¬ ((∃ own rest, (heapOf (gcB H2 μ μ)).get ynum = some (.yld own rest)) ∧ Fo5 lr) := fun h => nfl5 (.inr h.2)
    have fin : ∀ (jump : Option Code), JumpIs e2 jump → ∃ v w', (Instr.endRound lr jump).run P w2 = .ok v w' ∧ RoundQ sz B X w0 ρ Fo w a lr L (.returned v) w' := fun jump hj => by
      obtain ⟨g7, wt7⟩ := g6.record wt6 h0 lr6 f6 (.loop { ({ L with state := .busy } : Loop) with state := if jump.isNone then .ready else .done, pending := jump })
      refine ⟨_, _, run_endRound jump hL2, ?_⟩
      refine ⟨jump, e2, _, _, _, _, _, rfl, hleft, hj, g7, wt7, ra6, World.putObj_heap_same hlr2, rfl, g5.below.os.trans g4.below.os, g5.below.tape.trans g4.below.tape, g5.below.output.trans g4.below.output, (by simp [World.putObj]; omega), (fun k hk hkl hkf => by
          have nf3 : ¬ Foot ρ3 Fo k := fun h => hkf (foot3 k h)
          have nf4 : ¬ Foot ρ4 Fo4 k := fun h => by
            rcases foot4' k h with h | h
            · exact hkf h
            · omega
          rw [World.putObj_heap_other hkl, key5 k (by omega) nf4, World.putObj_heap_other hkl, key4 k hk nf3]), (fun k hk => foot5' k (foot6 k hk)), lr6, f6, small6, (fun q q1 q2 => ?_)⟩
      have no : ∀ i, (i, q) ∉ μ := by
        intro i hi
        have := muSmall _ _ hi (by unfold hbase at q2; unfold mbase; omega)
        subst this
        rcases hrow' _ _ hi with h | h <;> omega
      refine ⟨?_, fun o ho => ?_⟩
      · cases hr : μ.ren ρ5 q with
        | none => rfl
        | some m => obtain ⟨i, hi, _⟩ := Mu.ren_some hr; exact absurd hi (no i)
      · obtain ⟨i, _, hi, _⟩ := gcB_mem ho
        exact no i hi
    cases e2 with
    | normal => exact fin none rfl
    | ret => exact fin (some .ret) rfl
    | exit i => exact fin (some (.exit i)) rfl
    | _ => exact hleft.elim
  | _ => exact k1.elim

/-- The end of a function that is ranged over: all has been handed on, or the rounds have stopped. -/
def EndY : Value → Blocks → Prop := fun _ bs => ∃ r, (heapOf bs).get ynum = some (.yld false r) ∧ (r = some [] ∨ r = none)
/-- Where the caller stands between two rounds. -/
def StandsAt (J : List (List D) → Slots → Blocks → Prop) (X : Exit → Slots → Blocks → Prop) (rest : Option (List (List D))) (L : Loop) (s : Slots) (b : Blocks) : Prop :=
  match rest with
  | some r => L.state = .ready ∧ L.pending = none ∧ J r s b
  | none => L.state = .done ∧ ∃ e c, L.pending = some c ∧ X e s b ∧ ((e = .ret ∧ c = .ret) ∨ ∃ i, e = .exit i ∧ c = .exit i)
structure Stands (w0 : Start P) (sz : Nat) (fn : FuncId) (ps : Array Tmp) (x y : Code) (tmps : Array Value) (a : Act) (D0 lr N : Nat) (F0 : Nat → Prop) (J : List (List D) → Slots → Blocks → Prop) (X : Exit → Slots → Blocks → Prop)
    (rest : Option (List (List D))) (F : Nat → Prop) (w' : World) (ρ' : Ren) (s' : Slots) (b' : Blocks) (Fo' : Nat → Prop) (L : Loop) : Prop where
  gam : Gam w0 ρ' (heapOf b') w'
  wit : Wit w0 ρ' (heapOf b') w' Fo'
  act : ActR ρ' (actOf sz s') a
  hL : w'.heap[lr]? = some (.loop L)
  lp : L.fn = fn ∧ L.tmps = tmps ∧ L.params = ps ∧ L.assign = x ∧ L.body = y ∧ L.defers = D0
  st : StandsAt J X rest L s' b'
  foot : ∀ k, F k ↔ (k = lr ∨ Foot ρ' Fo' k)
  sub : ∀ k, F k → k < N → F0 k
  lrn : ∀ i m, ρ' i = some m → m.b ≠ lr
  lrf : ¬ Fo' lr
  low : ∀ i m, i < mbase → ρ' i = some m → m.b < N ∧ ¬ F0 m.b
  win : ∀ q, wbase ≤ q → q < hbase → ρ' q = none ∧ ∀ o, (q, o) ∉ b'

/-- THE RULE OF A RANGE OVER A FUNCTION. rows: what the function hands on; J: what is known of the caller while such a rest is still to come; X: where a round leaves the statement. -/
theorem range_rule (hh : HandlerOK P h) (hmix : P.follows .mixedOrders = true) {u : Nat} (hu : u ≠ 0) {sz : Nat} {f : Operand} {ps : Array Tmp} {x y : Code} {l : Lv} {keep : List Tmp} {s : Slots} {b : Blocks} {K : Cont} {gf : FuncId} {first captured : Array Value}
    (hfv : (actOf sz s).eval f = .func (.func gf) first captured) (hen : enterable P gf = true) (hgood : enterGood (.func (.func gf) first captured) keep sz s b = true) {rows : List (List D)}
    (hit : CallS P gf (iterArgs (.func (.func gf) first captured) (heapOf b)) (iterBlocks (.func (.func gf) first captured) (heapOf b) rows) EndY)
    (J : List (List D) → Slots → Blocks → Prop) (X : Exit → Slots → Blocks → Prop) (h0 : J rows (enterS (.func (.func gf) first captured) keep sz s b) (enterB (.func (.func gf) first captured) keep sz s b))
    (hround : ∀ row rest s b, J (row :: rest) s b → roundR P h u sz ps x y l keep s b row (J rest) X)
    (hend : ∀ s b, J [] s b → K .normal (actOf sz s) (heapOf b)) (hX : ∀ e s b, X e s b → K e (actOf sz s) (heapOf b)) :
    Holds P false sz (.rangeFunc f ps x y) (actOf sz s) (heapOf b) K := by
  intro w0 ρ w a n g ra _
  simp only [enterGood, Bool.and_eq_true] at hgood
  obtain ⟨⟨hig, hdg⟩, hdef⟩ := hgood
  have iok := iterGood_ok hig
  have dok := demGood_ok hdg
  refine wpIn_rangeFunc fun fn _ => ?_
  have hrun := run_enterLoop_outer (P := P) (w := w) fn a.tmps ps x y
  -- the worlds
  let W1 : World := w.alloc (.deferred (some []))
  let L0 : Loop := { state := .ready, pending := none, fn, tmps := a.tmps, params := ps, assign := x, body := y, defers := w.heap.size }
  let W2 : World := W1.alloc (.loop L0)
  let lr : Nat := w.heap.size + 1
  have hW1 : W1.heap.size = w.heap.size + 1 := by simp [W1]
  have hW2 : W2.heap.size = w.heap.size + 2 := by simp [W2, W1]
  have hL2 : W2.heap[lr]? = some (.loop L0) := by
    have := alloc_get W1 (.loop L0)
    rw [hW1] at this
    exact this
  -- the caller
  let mD : Meta := ⟨w.heap.size, 0, 0, false, 0, 0, by omega⟩
  obtain ⟨g1, ext1⟩ := g.new .deferred (.deferred (some [])) mD rfl (alloc_get _ _)
  let ρ1 : Ren := ρ.put (heapOf b).next mD
  let a' : Act := { a with defers := { target := .collected w.heap.size, args := #[] } :: a.defers }
  have ra1 : ActR ρ1 (markA s b sz) a' := by
    refine ⟨ra.size, fun t => (ra.slot t).mono ext1.le, ?_, ?_⟩
    · simp [a', markA, ra.defers.1]
    · intro j D hj
      cases j with
      | zero =>
        simp only [markA, List.getElem?_cons_zero, Option.some.injEq] at hj
        subst hj
        exact ⟨mD, by simp [ρ1, Ren.put], rfl⟩
      | succ j =>
        simp only [markA, List.getElem?_cons_succ] at hj
        obtain ⟨m, h1, h2⟩ := ra.defers.2 j D hj
        exact ⟨m, ext1.le _ _ h1, h2⟩
  have hb12 : Below W1.heap.size W1 W2 := (Below.refl _ W1).alloc (Nat.le_refl _) _
  have g1' : Gam w0 ρ1 (markH b) W1 := g1
  obtain ⟨Fo, wt1⟩ := g1'.wit
  obtain ⟨g2, wt⟩ := g1'.same wt1 hb12.os hb12.tape hb12.output hb12.size (fun k hk _ => hb12.block k (Nat.lt_of_lt_of_le hk g1'.below.size)) (fun i m hm _ => hb12.block _ (g1'.own i m hm).1) (fun k hk => hb12.block k (wt1.bound g1' hk))
  have hFo : ∀ k, Fo k → k < lr := fun k hk => by have := wt1.bound g1' hk; rwa [hW1] at this
  have h0s : w0.w.heap.size ≤ w.heap.size := g.below.size
  obtain ⟨gd, wtd, big, small, win⟩ := dem_gam g2 wt dok
  have rad := act_S dok.toS ra1 hdef
  -- names
  let fv : Value := .func (.func gf) first captured
  let μd := demMu fv keep sz s b
  let ρd : Ren := μd.ren ρ1
  let Fd : Nat → Prop := fun k => (∃ own rest, (heapOf (gcB (markH b) μd μd)).get ynum = some (.yld own rest)) ∧ Fo k
  let F0 : Nat → Prop := fun k => k = lr ∨ Foot ρd Fd k
  have lt1 : ∀ i m, ρ1 i = some m → m.b < lr := fun i m hm => by have := (g1'.own i m hm).1; rwa [hW1] at this
  have lrd : ∀ i m, ρd i = some m → m.b ≠ lr := fun i m hm => by
    obtain ⟨i0, _, hr0⟩ := Mu.ren_some hm
    exact Nat.ne_of_lt (lt1 i0 m hr0)
  have offZ : ∀ i m, ρ1 i = some m → (markH b).live i → (i < mbase ∨ i ∈ (iterMu fv (heapOf b)).map (·.1)) → i ≠ ynum → ¬ F0 m.b := by
    intro i m hm hl hz hy hF
    rcases hF with e | ⟨j, mj, h1, h2, h3⟩ | hF
    · exact Nat.ne_of_lt (lt1 i m hm) e
    · obtain ⟨j0, _, hr0, hl0, hb0, hz0⟩ := big j mj h1 h2
      have := g2.inj j0 i mj m hb0 hl0 hl hr0 hm h3
      subst this
      rcases hz with hz | hz
      · omega
      · exact hz0 hz
    · have hF := hF.2
      by_cases hyl : ∃ own rest, (markH b).get ynum = some (.yld own rest)
      · obtain ⟨own, rest, hget⟩ := hyl
        obtain ⟨my, q1, q2, q3⟩ := wt.is own rest hget
        exact q3 i m hm hl hy hF
      · exact wt.no (fun own rest h => hyl ⟨own, rest, h⟩) _ hF
  have frd : ¬ Fd lr := fun h => Nat.lt_irrefl _ (hFo lr h.2)
  -- where the rounds stand
  let IT : Bool → Option (List (List D)) → (Nat → Prop) → Nat → World → Prop := fun own rest F l' w' => own = false ∧ l' = lr ∧ W2.heap.size ≤ w'.heap.size ∧ ∃ ρ' s' b' Fo' L, Stands w0 sz fn ps x y a.tmps a' w.heap.size lr W2.heap.size F0 J X rest F w' ρ' s' b' Fo' L
  let ml : Meta := ⟨lr, 0, 0, false, 0, 0, by omega⟩
  let μi := iterMu fv (heapOf b)
  let si : Start P := { w := W2, pin := iterRen μi ρ ml, free := F0, it := IT }
  have F0may : ∀ k, F0 k → k < w0.w.heap.size → w0.may k := fun k hk hlt => by
    rcases hk with e | hk
    · simp only [lr] at e; omega
    · exact foot_may gd wtd hk hlt
  have siown : ∀ k, si.own k → k = lr := by
    rintro k (⟨j, m, h1, h2, h3, h4⟩ | h)
    · simp only [si, iterRen] at h3
      split at h3
      · cases h3; exact h4.symm
      · obtain ⟨i, hi, _⟩ := Mu.ren_some h3
        have := (iok.cls _ _ hi).2.2.2; omega
    · exact h.elim
  have siok : ItOK si := by
    refine ⟨?_, ?_, ?_, ?_⟩
    · rintro own rest F l' w' ⟨_, rfl, _, ρ', s', b', Fo', L, S⟩ k hk
      rcases (S.foot k).1 hk with e | hk
      · rw [e]
        rcases Nat.lt_or_ge lr w'.heap.size with h | h
        · exact h
        · have := S.hL; rw [Array.getElem?_eq_none h] at this; cases this
      · exact foot_lt S.gam S.wit hk
    · rintro own rest F l' w' ⟨_, rfl, _, ρ', s', b', Fo', L, S⟩ k hk hlt
      exact S.sub k hk hlt
    · rintro own rest F l' w' w'' ⟨ho, rfl, hsz, ρ', s', b', Fo', L, S⟩ h1 h2 h3 hs hk
      have hF : ∀ k, F k → w''.heap[k]? = w'.heap[k]? := fun k hf => by
        rcases (S.foot k).1 hf with e | hf2
        · refine hk k ?_ (.inr hf)
          rw [e]
          rcases Nat.lt_or_ge lr w'.heap.size with h | h
          · exact h
          · have := S.hL; rw [Array.getElem?_eq_none h] at this; cases this
        · exact hk k (foot_lt S.gam S.wit hf2) (.inr hf)
      obtain ⟨g', wt'⟩ := S.gam.same S.wit h1 h2 h3 hs (fun k hlt hm => by
          refine hk k (by omega) (.inl ⟨by show k < W2.heap.size; omega, fun hmay => ?_⟩)
          rcases hmay with hmay | hmay
          · have := siown k hmay; simp only [lr] at this; omega
          · exact hm (F0may k hmay hlt)) (fun i m hm _ => by
          rcases Nat.lt_or_ge i mbase with hl | hl
          · obtain ⟨q1, q2⟩ := S.low i m hl hm
            refine hk _ (S.gam.own i m hm).1 (.inl ⟨q1, fun hmay => ?_⟩)
            rcases hmay with hmay | hmay
            · exact S.lrn i m hm (siown _ hmay)
            · exact q2 hmay
          · exact hF _ ((S.foot _).2 (.inr (.inl ⟨i, m, hl, hm, rfl⟩)))) (fun k hfo => hF k ((S.foot k).2 (.inr (.inr hfo))))
      exact ⟨ho, rfl, Nat.le_trans hsz hs, ρ', s', b', Fo', L, g', wt', S.act, (hF lr ((S.foot lr).2 (.inl rfl))).trans S.hL, S.lp, S.st, S.foot, S.sub, S.lrn, S.lrf, S.low, S.win⟩
    · rintro row rest F l' w' ⟨_, rfl, hsz, ρ', s', b', Fo', L, S⟩ args' hrd
      obtain ⟨l1, l2, l3, l4, l5, l6⟩ := S.lp
      obtain ⟨st1, st2, st3⟩ := S.st
      have hr := hround row rest s' b' st3
      have hR := fun rC n => round_run (P := P) (Fo := Fo') hh hmix hu hr S.gam S.wit S.act S.hL (by simp only [lr]; omega) (l2.trans rfl) l3 l4 l5 st1 S.lrn S.lrf S.win (F := F) ((S.foot lr).2 (.inl rfl)) (fun k hk => (S.foot k).2 (.inr hk)) hrd rC n
      refine ⟨L, S.hL, (hR none 0).1, fun rC n => (hR rC n).2.mono ?_⟩
      rintro e w3 ⟨jump, ex, ρ3, s3, b3, Fo3, L3, rfl, hleft, hj, g3, wt3, ra3, hL3, hLe, q1, q2, q3, q4, q5, q6, q7, q8, q9, q10⟩
      refine ⟨jump.isNone, fun k => k = lr ∨ Foot ρ3 Fo3 k, rfl, ⟨rfl, rfl, Nat.le_trans hsz q4, ρ3, s3, b3, Fo3, L3, g3, wt3, ra3, hL3, ?_, ?_, fun k => Iff.rfl, ?_, q7, q8, ?_, q10⟩, q1, q2, q3, q4, ?_, ?_⟩
      · rw [hLe]; exact ⟨l1, l2, l3, l4, l5, l6⟩
      · cases ex with
        | normal =>
          have hj' : jump = none := hj
          subst hj'
          rw [hLe]
          exact ⟨rfl, rfl, hleft⟩
        | ret =>
          have hj' : jump = some .ret := hj
          subst hj'
          rw [hLe]
          exact ⟨rfl, .ret, .ret, rfl, hleft, .inl ⟨rfl, rfl⟩⟩
        | exit i =>
          have hj' : jump = some (.exit i) := hj
          subst hj'
          rw [hLe]
          exact ⟨rfl, .exit i, .exit i, rfl, hleft, .inr ⟨i, rfl, rfl⟩⟩
        | _ => exact hleft.elim
      · rintro k (e | hk) hlt
        · exact .inl e
        · rcases q6 k hk with h | h
          · exact S.sub k ((S.foot k).2 (.inr h)) hlt
          · omega
      · intro i m hi hm
        exact S.low i m hi (q9 i m hi hm)
      · intro k hk hnf
        exact q5 k hk (fun e => hnf ((S.foot k).2 (.inl e))) (fun hf => hnf ((S.foot k).2 (.inr hf)))
      · rintro k (e | hk)
        · exact .inl ((S.foot k).2 (.inl e))
        · exact (q6 k hk).imp (fun h => (S.foot k).2 (.inr h)) id
  have hit0 : si.it false (some rows) F0 ml.b W2 := by
    refine ⟨rfl, rfl, Nat.le_refl _, ρd, _, _, Fd, L0, gd, wtd, rad, hL2, ⟨rfl, rfl, rfl, rfl, rfl, rfl⟩, ⟨rfl, rfl, h0⟩, fun k => Iff.rfl, fun k hk _ => hk, lrd, frd, ?_, win⟩
    intro i m hi hm
    obtain ⟨i0, hi0, hr0, hl0, hz0⟩ := small i m hi hm
    refine ⟨(g2.own i0 m hr0).1, offZ i0 m hr0 hl0 hz0 (fun e => ?_)⟩
    subst e
    rcases hz0 with h | h
    · exact absurd h (by decide)
    · obtain ⟨p, hp, e⟩ := List.mem_map.1 h
      obtain ⟨p1, p2⟩ := p
      simp only at e
      subst e
      rcases (iok.cls _ _ hp).2.1 with h | h
      · exact absurd h (by decide)
      · exact absurd h (by decide)
  -- the function that is ranged over
  have hbl : Below w.heap.size w W2 := ((Below.refl _ w).alloc (Nat.le_refl _) _).alloc (by simp) _
  have hgetm : ∀ i o, (heapOf b).get i = some o → (∃ m, ρ i = some m) → (markH b).get i = some o := fun i o ho ⟨m, hm⟩ => by
    have := g.lt hm
    show ((heapOf b).new .deferred).get i = _
    rw [Heap.get_new, if_neg (by omega)]; exact ho
  have hplaced : ∀ p ∈ μi, Placed ρ p.1 := by
    have hf := ra.eval f
    rw [hfv] at hf
    exact reachV_placed g _ _ _ _ (fun i hi => blocksV_placed 8 _ _ hf i hi) (fun p hp => by cases hp)
  have gi : Gam si (iterRen μi ρ ml) (heapOf ((ynum, .yld false (some rows)) :: gcB (heapOf b) μi μi)) W2 := by
    refine iter_gam g iok (ml := ml) (by simp only [ml, lr]; omega) (by simp only [ml, lr]; omega) hbl (by simp only [ml, lr]; omega) rfl rfl (fun k h => h) (fun q hq hF => ?_) siok hit0 (fun i j m hij hr => ?_)
    · obtain ⟨v1, v2⟩ := g.vars q hq
      have h6 := VarKind.ok_some v1
      have h7 : q.1 < w0.w.heap.size := by
        rcases Nat.lt_or_ge q.1 w0.w.heap.size with h | h
        · exact h
        · rw [Array.getElem?_eq_none h] at h6; cases h6
      exact v2 (F0may _ hF h7)
    · obtain ⟨o, _, ho, _, hal⟩ := iok.live i j hij
      refine offZ i m (ext1.le _ _ hr) ⟨o, hgetm i o ho ⟨m, hr⟩, hal⟩ (.inr (List.mem_map.2 ⟨_, hij, rfl⟩)) (fun e => ?_)
      subst e
      rcases (iok.cls _ _ hij).2.1 with h | h
      · exact absurd h (by decide)
      · exact absurd h (by decide)
  have hf := ra.eval f
  rw [hfv] at hf
  obtain ⟨fvC, hfvC⟩ : ∃ fvC, a.eval f = fvC := ⟨_, rfl⟩
  rw [hfvC] at hf
  cases hf with
  | func _ _ _ first' captured' ha hb rfa rfb =>
    have hres : (resolve a.eval (rangeCall f lr) 0).run P W2 = .ok { target := .fn (.func gf) captured', args := first' ++ #[.func (.yield lr) #[] #[]] } W2 := by
      have hmap : (#[Operand.const (Value.func (.yield lr) #[] #[])]).map a.eval = #[Value.func (.yield lr) #[] #[]] := by simp [Act.eval]
      simp only [resolve, hfvC, Deferred.ofValue, hmap]
      rfl
    have hinv : (invoke (.fn (.func gf) captured') (first' ++ #[.func (.yield lr) #[] #[]])).run P W2 = .ok (.enter gf (first' ++ #[.func (.yield lr) #[] #[]] ++ captured')) W2 := enterable_run hen _ W2
    refine ⟨lr, _, W2, _, W2, gf, _, W2, by rw [Fr_round]; exact hrun, hres, fun f' _ => Fr_fn _ _, hinv, by rw [Fr_depth]; simp, ?_⟩
    have hle : (μi.ren ρ).le (iterRen μi ρ ml) := by
      intro j m h
      obtain ⟨i, hi, _⟩ := Mu.ren_some h
      unfold iterRen
      rw [if_neg (fun e => by have := (iok.cls _ _ hi).2.2.2; subst e; exact absurd this (by decide))]; exact h
    have hargs : LR (iterRen μi ρ ml) (iterArgs fv (heapOf b)) (first' ++ #[Value.func (.yield lr) #[] #[]] ++ captured').toList := by
      simp only [Array.toList_append]
      refine LR.append (LR.append ?_ (.cons ?_ .nil)) ?_
      · exact (LR.map_S iok.toS (LR.of_arr ha rfa)).mono hle
      · exact .yield ynum ml (by simp [iterRen])
      · exact (LR.map_S iok.toS (LR.of_arr hb rfb)).mono hle
    refine (Fr_calls (hit si _ W2 _ (n - 1) gi hargs)).mono ?_
    rintro e2 w3 ⟨v, bs, ρ3, v', ⟨r, hget, hr⟩, rfl, hv, g3⟩
    obtain ⟨m, F, hm, ⟨_, hmb, hsz, ρ', s', b', Fo', L, S⟩, _⟩ := g3.yld false r hget
    have hb' : L.state ≠ .busy := by
      rcases hr with rfl | rfl
      · rw [S.st.1]; simp
      · rw [S.st.1]; simp
    refine ⟨_, _, run_endLoop (P := P) S.hL hb', ?_⟩
    obtain ⟨g4, _⟩ := S.gam.record S.wit (by simp only [lr]; omega) S.lrn S.lrf (.loop { L with state := .exhausted })
    rcases hr with rfl | rfl
    · obtain ⟨_, hp, hJ⟩ := S.st
      simp only [hp]
      exact ⟨_, _, ρ', hend _ _ hJ, rfl, S.act, by simpa only [hp] using g4, fun h => by cases h⟩
    · obtain ⟨_, e, c, hp, hXe, hec⟩ := S.st
      simp only [hp]
      rcases hec with ⟨rfl, rfl⟩ | ⟨i, rfl, rfl⟩
      · exact wpIn_ret ⟨_, _, ρ', hX _ _ _ hXe, rfl, S.act, by simpa only [hp] using g4, fun h => by cases h⟩
      · exact wpIn_exit ⟨_, _, ρ', hX _ _ _ hXe, rfl, S.act, by simpa only [hp] using g4, fun h => by cases h⟩
end Go.Abs

/- Functions with ranges over functions, loops, cuts, and ranges within loops. -/
namespace Go.Abs
open Go.RowKit
variable {P : Program} {ρ : Ren} {w0 : Start P} {w : World} {H : Heap} {h : Handler} {L : AtLoop} {J : List Nat}

/-- What must be shown of a range at one of its heads. -/
def RangeAt (P : Program) (head : (FuncId → List Value → Blocks → Slots → Blocks → Prop) → Prop) (round : Slots → Blocks → List D → Kx → (Exit → Kx) → Prop) (N : Kx) (X : Exit → Kx) : Prop :=
  head fun g args bl s' b' => ∃ (rows : List (List D)) (Jr : List (List D) → Kx), CallS P g args ((ynum, .yld false (some rows)) :: bl) EndY ∧ Jr rows s' b' ∧
    (∀ row rest s b, Jr (row :: rest) s b → round s b row (Jr rest) X) ∧ ∀ s b, Jr [] s b → N s b
/-- A range over a function, at the top of a function. -/
structure RangeJ (P : Program) (h : Handler) (J : List Nat) (f : FuncId) (id : Nat) (L : AtLoop) (F : Value → Heap → Prop) : Type 1 where
  at_ : ∀ s b, L id s b → RangeAt P (rHead P f id s b) (rRound P h f id) (fun s b => jNext P h L J f id .normal s b F) (fun e s b => jNext P h L J f id e s b F)
/-- A range over a function, within a loop. -/
structure RangeJ2 (P : Program) (h : Handler) (J : List Nat) (f : FuncId) (id id2 : Nat) (L : AtLoop) (B : Kx) (X : Xk) (F : Value → Heap → Prop) : Type 1 where
  at_ : ∀ s b, L id2 s b → RangeAt P (rHead2 P f id id2 s b) (rRound2 P h f id id2) (fun s b => jIn P h L J f id id2 .normal s b B X F) (fun e s b => jIn P h L J f id id2 e s b B X F)

theorem headOf_holds (hh : HandlerOK P h) (hmix : P.follows .mixedOrders = true) {sz : Nat} {body : Code} {l : Lv} {s : Slots} {b : Blocks} {N : Kx} {X : Exit → Kx} {K : Cont} (hN : ∀ s b, N s b → K .normal (actOf sz s) (heapOf b)) (hX : ∀ e s b, X e s b → K e (actOf sz s) (heapOf b))
    (hk : RangeAt P (headOf P sz (body, l) s b) (rowOfR P h sz (body, l)) N X) : Holds P false sz body (actOf sz s) (heapOf b) K := by
  unfold RangeAt headOf at hk
  cases body with
  | rangeFunc f ps x y =>
    simp only at hk
    split at hk
    · rename_i g first captured hfv
      obtain ⟨hgood, rows, Jr, hit, h0, hround, hend⟩ := bcase_out hk
      simp only [Bool.and_eq_true] at hgood
      exact range_rule hh hmix (u := 8) (by decide) hfv hgood.1 hgood.2 (rows := rows) hit Jr X h0 (fun row rest s b hJ => hround row rest s b hJ) (fun s b hJ => hN _ _ (hend s b hJ)) hX
    · exact hk.elim
  | _ => exact hk.elim

theorem rangeJ_holds (hh : HandlerOK P h) (hmix : P.follows .mixedOrders = true) {f : FuncId} {fn : Func} {c : Code} (hf : P.funcs[f]? = some fn) (hc : fn.body = some c) {id : Nat} {F : Value → Heap → Prop} {body : Code} {l' : Lv} (hfl : findLoop c (fnLv fn) id = some (body, l'))
    (g : RangeJ P h J f id L F) {s : Slots} {b : Blocks} (hs : L id s b) :
    Holds P false (fnSize fn) body (actOf (fnSize fn) s) (heapOf b) (fun e A H => aftJ P h L J c (fnLv fn) id e A H (fnK P fn F)) := by
  have := g.at_ s b hs
  unfold rHead rRound at this
  simp only [hf, hc, hfl] at this
  exact headOf_holds hh hmix (fun s b hN => by simpa only [jNext, hf, hc] using hN) (fun e s b hX => by simpa only [jNext, hf, hc] using hX) this
theorem rangeJ2_holds (hh : HandlerOK P h) (hmix : P.follows .mixedOrders = true) {f : FuncId} {fn : Func} {c : Code} (hf : P.funcs[f]? = some fn) (hc : fn.body = some c) {id id2 : Nat} {F : Value → Heap → Prop} {B : Kx} {X : Xk} {body : Code} {l' : Lv} (hfl : findLoop c (fnLv fn) id = some (body, l')) {body2 : Code} {l2 : Lv} (hf2 : findLoop body l' id2 = some (body2, l2))
    (g : RangeJ2 P h J f id id2 L B X F) {s : Slots} {b : Blocks} (hs : L id2 s b) :
    Holds P false (fnSize fn) body2 (actOf (fnSize fn) s) (heapOf b) (fun e A H => aftJ P h L J body l' id2 e A H (roundK body l' B X (fnK P fn F))) := by
  have := g.at_ s b hs
  unfold rHead2 rRound2 at this
  simp only [hf, hc, hfl, hf2] at this
  exact headOf_holds hh hmix (fun s b hN => by simpa only [jIn, hf, hc, hfl] using hN) (fun e s b hX => by simpa only [jIn, hf, hc, hfl] using hX) this
theorem isRange_stmt {id : Nat} {body : Code} (h : ¬ id < rbase) : stmtOf id body = body := by simp [stmtOf, h]

/-- A loop of a function, with loops and ranges within. -/
structure LoopJR (P : Program) (h : Handler) (J : List Nat) (f : FuncId) (c : Code) (lv : Lv) (id : Nat) (L : AtLoop) (F : Value → Heap → Prop) : Type 1 where
  Y : Type
  st : Y → Slots × Blocks
  inv : Y → Prop
  m : Y → Nat
  head : ∀ s b, L id s b → ∃ y, inv y ∧ st y = (s, b)
  pts : List Nat
  loops : List Nat
  is : ((findLoop c lv id).map fun r => (ptIds J r.1, loopIds r.1)) = some (pts, loops)
  nd : nodupB pts = true
  lt : id < rbase
  round : ∀ y, inv y → ∃ L2 : AtLoop,
    jRound P h L2 J f id (st y).1 (st y).2 (fun s b => ∃ z, inv z ∧ m z < m y ∧ st z = (s, b)) (fun i s b => if i = id then jNext P h L J f id .normal s b F else jNext P h L J f id (.exit i) s b F) F ∧
    (∀ id2 ∈ pts, id2 ∉ loops → ∀ s b, L2 id2 s b → jIn P h L2 J f id id2 .normal s b (fun s b => ∃ z, inv z ∧ m z < m y ∧ st z = (s, b)) (fun i s b => if i = id then jNext P h L J f id .normal s b F else jNext P h L J f id (.exit i) s b F) F) ∧
    (∀ id2 ∈ loops, id2 < rbase → Nonempty (LoopJ2 P h J f c lv id id2 L2 (fun s b => ∃ z, inv z ∧ m z < m y ∧ st z = (s, b)) (fun i s b => if i = id then jNext P h L J f id .normal s b F else jNext P h L J f id (.exit i) s b F) F)) ∧
    (∀ id2 ∈ loops, ¬ id2 < rbase → Nonempty (RangeJ2 P h J f id id2 L2 (fun s b => ∃ z, inv z ∧ m z < m y ∧ st z = (s, b)) (fun i s b => if i = id then jNext P h L J f id .normal s b F else jNext P h L J f id (.exit i) s b F) F))
theorem loopJR_holds (hh : HandlerOK P h) (hmix : P.follows .mixedOrders = true) {f : FuncId} {fn : Func} {c : Code} (hf : P.funcs[f]? = some fn) (hc : fn.body = some c) {id : Nat} {F : Value → Heap → Prop} {body : Code} {l' : Lv} (hfl : findLoop c (fnLv fn) id = some (body, l'))
    (g : LoopJR P h J f c (fnLv fn) id L F) {s : Slots} {b : Blocks} (hs : L id s b) :
    Holds P false (fnSize fn) (stmtOf id body) (actOf (fnSize fn) s) (heapOf b) (fun e A H => aftJ P h L J c (fnLv fn) id e A H (fnK P fn F)) := by
  obtain ⟨y, hy, he⟩ := g.head s b hs
  have e1 : (g.st y).1 = s := congrArg Prod.fst he
  have e2 : (g.st y).2 = b := congrArg Prod.snd he
  have his := g.is
  rw [hfl] at his
  simp only [Option.map_some, Option.some.injEq, Prod.mk.injEq] at his
  have hst : stmtOf id body = .block id (.loop body) := by simp [stmtOf, g.lt]
  rw [hst]
  have eqX : ∀ i s b, (if i = id then jNext P h L J f id .normal s b F else jNext P h L J f id (.exit i) s b F) = (if i = id then aftJ P h L J c (fnLv fn) id .normal (actOf (fnSize fn) s) (heapOf b) (fnK P fn F) else aftJ P h L J c (fnLv fn) id (.exit i) (actOf (fnSize fn) s) (heapOf b) (fnK P fn F)) := by
    intro i s b
    simp only [jNext, hf, hc]
  have := loop_ruleJ (P := P) (h := h) (J := J) (sz := fnSize fn) hh hmix g.st g.inv g.m (id := id) (body := body) (l' := l') (k := fun e A H => aftJ P h L J c (fnLv fn) id e A H (fnK P fn F)) (R := fnK P fn F)
    (fun y hy => by
      obtain ⟨L2, h1, h2, h3, h3r⟩ := g.round y hy
      refine ⟨L2, ?_, ptsOK_of body (by rw [his.1]; exact g.nd) (fun id2 b2 l2 hf2 hr2 s b hs2 => ?_) (fun id2 hi2 hf2 s b hs2 => ?_)⟩
      · unfold jRound at h1
        simp only [hf, hc, hfl, eqX] at h1
        exact h1
      · have hm : id2 ∈ g.loops := by rw [← his.2]; exact findLoop_ids _ _ _ hf2
        by_cases hlt : id2 < rbase
        · obtain ⟨g2⟩ := h3 id2 hm hlt
          have := loopJ2_holds hh hmix hf hc hfl hf2 g2 hr2 hs2
          simp only [eqX] at this
          exact this
        · obtain ⟨g2⟩ := h3r id2 hm hlt
          rw [isRange_stmt hlt]
          have := rangeJ2_holds hh hmix hf hc hfl hf2 g2 hs2
          simp only [eqX] at this
          exact this
      · have hnl : id2 ∉ g.loops := by
          intro hm
          rw [← his.2] at hm
          have := findLoop_some body l' id2 hm
          rw [hf2] at this
          cases this
        have h4 := h2 id2 (by rw [his.1] at hi2; exact hi2) hnl s b hs2
        unfold jIn at h4
        simp only [hf, hc, hfl, eqX] at h4
        exact h4)
    (fun e A H he hR => by subst he; exact aftJ_ret c (findLoop_pt c _ id hfl) hR)
    (fun e A H h1 h2 hR => by cases e <;> first | exact h1 rfl | exact h2 rfl | exact hR)
    y hy
  rw [e1, e2] at this
  exact this

theorem ptsOK_goodR (hh : HandlerOK P h) (hmix : P.follows .mixedOrders = true) {f : FuncId} {fn : Func} {c : Code} (hf : P.funcs[f]? = some fn) (hc : fn.body = some c) {F : Value → Heap → Prop} {pts loops : List Nat} (his : (ptIds J c, loopIds c) = (pts, loops)) (hn : nodupB pts = true)
    (hcut : ∀ id ∈ pts, id ∉ loops → ∀ s b, L id s b → jNext P h L J f id .normal s b F)
    (hl : ∀ id ∈ loops, id < rbase → Nonempty (LoopJR P h J f c (fnLv fn) id L F)) (hr : ∀ id ∈ loops, ¬ id < rbase → Nonempty (RangeJ P h J f id L F)) : ptsOK P h L J (fnSize fn) c (fnLv fn) (fnK P fn F) := by
  simp only [Prod.mk.injEq] at his
  refine ptsOK_of c (by rw [his.1]; exact hn) (fun id body l' hfl _ s b hs => ?_) (fun id hi hfl s b hs => ?_)
  · have hm : id ∈ loops := by rw [← his.2]; exact findLoop_ids _ _ _ hfl
    by_cases hlt : id < rbase
    · obtain ⟨g⟩ := hl id hm hlt
      exact loopJR_holds hh hmix hf hc hfl g hs
    · obtain ⟨g⟩ := hr id hm hlt
      rw [isRange_stmt hlt]
      exact rangeJ_holds hh hmix hf hc hfl g hs
  · have hnl : id ∉ loops := by
      intro hm
      rw [← his.2] at hm
      have := findLoop_some c (fnLv fn) id hm
      rw [hfl] at this
      cases this
    have h4 := hcut id (by rw [his.1] at hi; exact hi) hnl s b hs
    unfold jNext at h4
    simp only [hf, hc] at h4
    exact h4

/-- A FUNCTION IS PROVED, with ranges over functions: a contract in data. -/
theorem con_JR (hh : HandlerOK P h) (hmix : P.follows .mixedOrders = true) (J : List Nat) {L : AtLoop} {f : FuncId} {fn : Func} {c : Code} (hf : P.funcs[f]? = some fn) (hc : fn.body = some c) {ds rs : List D} (hcount : countV ds ≤ 400) (hsz : ds.length = fn.params.size) {pts loops : List Nat} (his : (ptIds J c, loopIds c) = (pts, loops)) (hn : nodupB pts = true)
    (hk : ∀ caps, capsL 40 (layVals caps 500 ds).1 → jFn P h L J f (layVals caps 500 ds).1.toArray (heapOf (layVals caps 500 ds).2) (dataK (· = rs)))
    (hcut : ∀ id ∈ pts, id ∉ loops → ∀ s b, L id s b → jNext P h L J f id .normal s b (dataK (· = rs)))
    (hl : ∀ id ∈ loops, id < rbase → Nonempty (LoopJR P h J f c (fnLv fn) id L (dataK (· = rs)))) (hr : ∀ id ∈ loops, ¬ id < rbase → Nonempty (RangeJ P h J f id L (dataK (· = rs)))) : Con P f ds rs := by
  intro w args hgood hrd
  obtain ⟨caps, ρ, hst, g, ha⟩ := lay_gam hgood hrd hcount
  have hsz2 : max (layVals caps 500 ds).1.toArray.size fn.ntmps = fnSize fn := by simp [fnSize, layVals_len, hsz]
  refine callsIn_wide.1 ((jFn_run hh hmix hf hc (hk caps (capsL_of 40 ha)) (by rw [hsz2]; exact ptsOK_goodR hh hmix hf hc his hn hcut hl hr) g 0 (by simpa using ha)).mono ?_)
  rintro e w' ⟨v, H', ρ', v', hkv, rfl, hv, g'⟩
  obtain ⟨vs, ds', u, rfl, h1, rfl⟩ := dataK_out g' hst hv hkv
  exact ⟨⟨vs, u, rfl, h1⟩, g'.below.below hst⟩
/-- A FUNCTION IS PROVED, with ranges over functions: by what it does to the blocks that it reaches. -/
theorem callS_JR (hh : HandlerOK P h) (hmix : P.follows .mixedOrders = true) (J : List Nat) {L : AtLoop} {f : FuncId} {fn : Func} {c : Code} (hf : P.funcs[f]? = some fn) (hc : fn.body = some c) {args : List Value} {bs : Blocks} {K : Value → Blocks → Prop} (hsz : args.toArray.size = fn.params.size ∨ max args.toArray.size fn.ntmps = fnSize fn) {pts loops : List Nat} (his : (ptIds J c, loopIds c) = (pts, loops)) (hn : nodupB pts = true)
    (hk : jFn P h L J f args.toArray (heapOf bs) (stateK K))
    (hcut : ∀ id ∈ pts, id ∉ loops → ∀ s b, L id s b → jNext P h L J f id .normal s b (stateK K))
    (hl : ∀ id ∈ loops, id < rbase → Nonempty (LoopJR P h J f c (fnLv fn) id L (stateK K))) (hr : ∀ id ∈ loops, ¬ id < rbase → Nonempty (RangeJ P h J f id L (stateK K))) : CallS P f args bs K := by
  intro w0 ρ w args' n g ha
  have hsz2 : max args.toArray.size fn.ntmps = fnSize fn := hsz.elim (fun e => by simp only [fnSize, e]) id
  refine (jFn_run hh hmix hf hc hk (by rw [hsz2]; exact ptsOK_goodR hh hmix hf hc his hn hcut hl hr) g n (by simpa using ha)).mono ?_
  rintro e w' ⟨v, H', ρ', v', hkv, rfl, hv, g'⟩
  obtain ⟨v2, bs', ρ2, h1, h2, h3⟩ := stateK_out g' hv hkv
  exact ⟨v2, bs', ρ2, v', h1, rfl, h2, h3⟩
#print axioms con_JR
end Go.Abs

/- What is left to show of each function, written out; the kernel reckons it. -/
namespace Go.Proofs.G5j
open Go Go.Abs Go.Proofs
set_option maxRecDepth 100000
set_option linter.unusedVariables false
abbrev Ex := Exit → Slots → Blocks → Prop
abbrev Kh := FuncId → List Value → Blocks → Slots → Blocks → Prop
def gIs (C : Ct) (L : AtLoop) (n0 : Nat) (c0 : Nat) (l0 : List Value) (x1 : Int) (x2 : Int) (x3 : Int) (n4 : Nat) (c4 : Nat) (l4 : List Value) (x5 : Int) (n6 : Nat) (c6 : Nat) (l6 : List Value) (x7 : Int) (x8 : Int) (k : List D → Prop) : Prop := jFn Try.prog (hZ C) L [] 17 #[.agg #[.slice (some ⟨500, 0, none⟩) n0 c0, .int .i64 x1, .int .i64 x2, .int .i64 x3], .agg #[.slice (some ⟨501, 0, none⟩) n4 c4, .int .i64 x5], .agg #[.slice (some ⟨502, 0, none⟩) n6 c6, .int .i64 x7, .int .i64 x8]] (heapOf [(500, .sym l0 false 2), (501, .sym l4 false 1), (502, .sym l6 false 2)]) (dataK k)
theorem gIs_text (C : Ct) (L : AtLoop) (n0 : Nat) (c0 : Nat) (l0 : List Go.Value) (x1 : Int) (x2 : Int) (x3 : Int) (n4 : Nat) (c4 : Nat) (l4 : List Go.Value) (x5 : Int) (n6 : Nat) (c6 : Nat) (l6 : List Go.Value) (x7 : Int) (x8 : Int) (k : List D → Prop) : gIs C L n0 c0 l0 x1 x2 x3 n4 c4 l4 x5 n6 c6 l6 x7 x8 k =
 (((Qv (Value.agg [(Sl 501 (n4) (c4)), (vI x5)].toArray)) ∧
 ((Qv (Value.agg [(Sl 500 (n0) (c0)), (vI x1), (vI x2), (vI x3)].toArray)) ∧
 True)) ∧
 (bcase (decide (0 + n0 * 2 ≤ List.length l0))
 (∃ n1 : Int,
 ((Says C 52 [(D.agg [(D.sl (n0) 2 (List.take (n0 * 2) (List.drop 0 l0))), (D.val (vI x1)), (D.val (vI x2)), (D.val (vI x3))])] [(D.val (vI n1))]) ∧
 (((Qv (Value.agg [(Sl 501 (n4) (c4)), (vI x5)].toArray)) ∧
 True) ∧
 (bcase (decide (0 + n4 * 1 ≤ List.length l4))
 (∃ n2 : Int,
 ((Says C 53 [(D.agg [(D.sl (n4) 1 (List.take (n4 * 1) (List.drop 0 l4))), (D.val (vI x5))])] [(D.val (vI n2))]) ∧
 ((((Qv (Sl 1009 2 2)) ∧
 (Qv (some (AObj.cells [(vI n1), (vI n2)] 43 false 1)))) ∧
 True) ∧
 (∃ n3 : Int,
 ((Says C 34 [(D.sl 2 1 [(vI n1), (vI n2)])] [(D.val (vI n3))]) ∧
 (True ∧
 (True ∧
 (bcase (n3 != 0)
 (bcase (decide (0 + n6 * 2 ≤ List.length l6))
 (∃ n5 : Int,
 ((Says C 61 [(D.agg [(D.sl (n6) 2 (List.take (n6 * 2) (List.drop 0 l6))), (D.val (vI x7)), (D.val (vI x8))])] [(D.val (vI n5))]) ∧
 (∃ n7 : Int,
 ((Says C 34 [(D.sl 2 1 [(vI n3), (vI n5)])] [(D.val (vI n7))]) ∧
 (bcase (n7 != 0)
 (bcase (n7 != 0)
 (k [(D.val (vI 0)), (D.val (vI n7))])
 (L 50006 [(Prod.mk 6 (vI 0)), (Prod.mk 7 (vI 0)), (Prod.mk 10 (Pt 1000 0)), (Prod.mk 23 Value.nilFunc)] [(Prod.mk 1000 (AObj.cells [(vI 0)] 3 false 1))]))
 (bcase (decide (0 ≤ IntKind.wrap .i64 ((↑n6 : Int) - 1)))
 (bcase (decide (IntKind.wrap .i64 ((↑n6 : Int) - 1) < (↑n6 : Int)))
 (∃ n8 : Int,
 ((At (l6) (0 + Int.toNat (IntKind.wrap .i64 ((↑n6 : Int) - 1)) * 2) 1 [(vI n8)]) ∧
 (L 50006 [(Prod.mk 6 (vI 0)), (Prod.mk 7 (vI 0)), (Prod.mk 10 (Pt 1000 0)), (Prod.mk 23 (Value.func (Go.Fn.func 62) [].toArray [(Pt 1001 0), (Pt 1002 0), (Pt 1003 0)].toArray))] [(Prod.mk 1000 (AObj.cells [(vI 0)] 3 false 1)), (Prod.mk 1001 (AObj.cells [(Value.slice none 0 0), (vI 0), (vI 0), (vI 0), (Value.slice none 0 0), (vI 0)] 78 false 6)), (Prod.mk 1002 (AObj.cells [(Sl 502 (n6) (c6)), (vI x7), (vI x8)] 58 false 1)), (Prod.mk 1003 (AObj.cells [(vI n8), (vI 1)] 40 false 2)), (Prod.mk 502 (AObj.sym (l6) false 2))])))
 False)
 False))))))
 False)
 (bcase (decide (0 + n4 * 1 ≤ List.length l4))
 ((Says C 70 [(D.sl (n4) 1 (List.take (n4 * 1) (List.drop 0 l4)))] [(D.sl (n4) 1 (List.take (n4 * 1) (List.drop 0 l4)))]) ∧
 (bcase (decide (0 + n6 * 2 ≤ List.length l6))
 (∃ n5 : Int,
 ((Says C 61 [(D.agg [(D.sl (n6) 2 (List.take (n6 * 2) (List.drop 0 l6))), (D.val (vI x7)), (D.val (vI x8))])] [(D.val (vI n5))]) ∧
 (∃ n7 : Int,
 ((Says C 34 [(D.sl 2 1 [(vI 0), (vI n5)])] [(D.val (vI n7))]) ∧
 (bcase (n7 != 0)
 (bcase (n7 != 0)
 (k [(D.val (vI 0)), (D.val (vI n7))])
 (L 50006 [(Prod.mk 6 (vI 0)), (Prod.mk 7 (vI 0)), (Prod.mk 10 (Pt 1000 0)), (Prod.mk 23 Value.nilFunc)] [(Prod.mk 1000 (AObj.cells [(vI 0)] 3 false 1))]))
 (bcase (decide (0 ≤ IntKind.wrap .i64 ((↑n6 : Int) - 1)))
 (bcase (decide (IntKind.wrap .i64 ((↑n6 : Int) - 1) < (↑n6 : Int)))
 (∃ n8 : Int,
 ((At (l6) (0 + Int.toNat (IntKind.wrap .i64 ((↑n6 : Int) - 1)) * 2) 1 [(vI n8)]) ∧
 (L 50006 [(Prod.mk 6 (vI 0)), (Prod.mk 7 (vI 0)), (Prod.mk 10 (Pt 1000 0)), (Prod.mk 23 (Value.func (Go.Fn.func 62) [].toArray [(Pt 1001 0), (Pt 1002 0), (Pt 1003 0)].toArray))] [(Prod.mk 1000 (AObj.cells [(vI 0)] 3 false 1)), (Prod.mk 1001 (AObj.cells [(Sl 500 (n0) (c0)), (vI x1), (vI x2), (vI x3), (Sl 1004 (n4) (n4)), (vI x5)] 78 false 6)), (Prod.mk 1002 (AObj.cells [(Sl 502 (n6) (c6)), (vI x7), (vI x8)] 58 false 1)), (Prod.mk 1003 (AObj.cells [(vI n8), (vI 1)] 40 false 2)), (Prod.mk 500 (AObj.sym (l0) false 2)), (Prod.mk 1004 (AObj.sym (List.take (n4 * 1) (List.drop 0 l4)) true 1)), (Prod.mk 502 (AObj.sym (l6) false 2))])))
 False)
 False))))))
 False))
 False)))))))))
 False))))
 False)) := by kernel_rfl
abbrev zIs3 (x0 : Int) (x1 : Int) (x2 : Int) (n3 : Nat) (c4 : Nat) (x5 : Int) (x6 : Int) (x7 : Int) (n8 : Nat) (x9 : Int) (n10 : Nat) (c11 : Nat) (x12 : Int) (x13 : Int) (x14 : Int) (x15 : Int) (l16 : List Value) (l17 : List Value) (l18 : List Value) : Slots × Blocks := ([(6, (Value.int .i64 x0)), (7, (Value.int .i64 x1)), (10, (Value.pointer (some ⟨1000, 0, none⟩))), (23, (Value.func (.func 62) #[] #[(Value.pointer (some ⟨1001, 0, none⟩)), (Value.pointer (some ⟨1002, 0, none⟩)), (Value.pointer (some ⟨1003, 0, none⟩))]))], [(1000, (AObj.cells [(Value.int .i64 x2)] 3 false 1)), (1001, (AObj.cells [(Value.slice (some ⟨500, 0, none⟩) n3 c4), (Value.int .i64 x5), (Value.int .i64 x6), (Value.int .i64 x7), (Value.slice (some ⟨1004, 0, none⟩) n8 n8), (Value.int .i64 x9)] 78 false 6)), (1002, (AObj.cells [(Value.slice (some ⟨502, 0, none⟩) n10 c11), (Value.int .i64 x12), (Value.int .i64 x13)] 58 false 1)), (1003, (AObj.cells [(Value.int .i64 x14), (Value.int .i64 x15)] 40 false 2)), (500, (AObj.sym l16 false 2)), (1004, (AObj.sym l17 true 1)), (502, (AObj.sym l18 false 2))])
def hIs3 (x0 : Int) (x1 : Int) (x2 : Int) (n3 : Nat) (c4 : Nat) (x5 : Int) (x6 : Int) (x7 : Int) (n8 : Nat) (x9 : Int) (n10 : Nat) (c11 : Nat) (x12 : Int) (x13 : Int) (x14 : Int) (x15 : Int) (l16 : List Value) (l17 : List Value) (l18 : List Value) (Kr : Kh) : Prop := rHead Try.prog 17 50006 [(6, (Value.int .i64 x0)), (7, (Value.int .i64 x1)), (10, (Value.pointer (some ⟨1000, 0, none⟩))), (23, (Value.func (.func 62) #[] #[(Value.pointer (some ⟨1001, 0, none⟩)), (Value.pointer (some ⟨1002, 0, none⟩)), (Value.pointer (some ⟨1003, 0, none⟩))]))] [(1000, (AObj.cells [(Value.int .i64 x2)] 3 false 1)), (1001, (AObj.cells [(Value.slice (some ⟨500, 0, none⟩) n3 c4), (Value.int .i64 x5), (Value.int .i64 x6), (Value.int .i64 x7), (Value.slice (some ⟨1004, 0, none⟩) n8 n8), (Value.int .i64 x9)] 78 false 6)), (1002, (AObj.cells [(Value.slice (some ⟨502, 0, none⟩) n10 c11), (Value.int .i64 x12), (Value.int .i64 x13)] 58 false 1)), (1003, (AObj.cells [(Value.int .i64 x14), (Value.int .i64 x15)] 40 false 2)), (500, (AObj.sym l16 false 2)), (1004, (AObj.sym l17 true 1)), (502, (AObj.sym l18 false 2))] Kr
theorem hIs3_text (x0 : Int) (x1 : Int) (x2 : Int) (n3 : Nat) (c4 : Nat) (x5 : Int) (x6 : Int) (x7 : Int) (n8 : Nat) (x9 : Int) (n10 : Nat) (c11 : Nat) (x12 : Int) (x13 : Int) (x14 : Int) (x15 : Int) (l16 : List Go.Value) (l17 : List Go.Value) (l18 : List Go.Value) (Kr : Kh) : hIs3 x0 x1 x2 n3 c4 x5 x6 x7 n8 x9 n10 c11 x12 x13 x14 x15 l16 l17 l18 Kr =
 (Kr 62 [(Value.func (Go.Fn.yield 915) [].toArray [].toArray), (Pt 500 0), (Pt 501 0), (Pt 502 0)] [(Prod.mk 500 (AObj.cells [(Sl 503 (n3) (c4)), (vI x5), (vI x6), (vI x7), (Sl 504 (n8) (n8)), (vI x9)] 78 false 6)), (Prod.mk 501 (AObj.cells [(Sl 505 (n10) (c11)), (vI x12), (vI x13)] 58 false 1)), (Prod.mk 502 (AObj.cells [(vI x14), (vI x15)] 40 false 2)), (Prod.mk 503 (AObj.sym (l16) false 2)), (Prod.mk 504 (AObj.sym (l17) true 1)), (Prod.mk 505 (AObj.sym (l18) false 2))] [(Prod.mk 6 (vI x0)), (Prod.mk 7 (vI x1)), (Prod.mk 10 (Pt 1000 0)), (Prod.mk 1000000 (Value.map (some 1001)))] [(Prod.mk 1000 (AObj.cells [(vI x2)] 3 false 1)), (Prod.mk 1001 AObj.deferred)]) := by kernel_rfl
abbrev zIs4 (x0 : Int) (x1 : Int) (x2 : Int) : Slots × Blocks := ([(6, (Value.int .i64 x0)), (7, (Value.int .i64 x1)), (10, (Value.pointer (some ⟨1000, 0, none⟩))), (1000000, (Go.Value.map (Option.some 1001)))], [(1000, (AObj.cells [(Value.int .i64 x2)] 3 false 1)), (1001, AObj.deferred)])
def wIs4 (C : Ct) (x0 : Int) (x1 : Int) (x2 : Int) (y0 : Int) (y1 : Int) (B : Bx) (X : Ex) : Prop := rRound Try.prog (hZ C) 17 50006 [(6, (Value.int .i64 x0)), (7, (Value.int .i64 x1)), (10, (Value.pointer (some ⟨1000, 0, none⟩))), (1000000, (Go.Value.map (Option.some 1001)))] [(1000, (AObj.cells [(Value.int .i64 x2)] 3 false 1)), (1001, AObj.deferred)] [(.val (.int .i64 y0)), (.val (.int .i64 y1))] B X
theorem wIs4_text (C : Ct) (x0 : Int) (x1 : Int) (x2 : Int) (y0 : Int) (y1 : Int) (B : Bx) (X : Ex) : wIs4 C x0 x1 x2 y0 y1 B X =
 (∀ caps : Nat → Nat,
 (X (Go.Exit.exit 0) [(Prod.mk 6 (vI x0)), (Prod.mk 7 (vI x1)), (Prod.mk 10 (Pt 1000 0)), (Prod.mk 1000000 (Value.map (some 1001)))] [(Prod.mk 1000 (AObj.cells [(vI y1)] 3 false 1)), (Prod.mk 1001 AObj.deferred)])) := by kernel_rfl
def nIs6 (C : Ct) (L : AtLoop) (x0 : Int) (x1 : Int) (x2 : Int) (k : List D → Prop) : Prop := jNext Try.prog (hZ C) L [] 17 50006 (.exit 0) [(6, (Value.int .i64 x0)), (7, (Value.int .i64 x1)), (10, (Value.pointer (some ⟨1000, 0, none⟩))), (1000000, (Go.Value.map (Option.some 1001)))] [(1000, (AObj.cells [(Value.int .i64 x2)] 3 false 1)), (1001, AObj.deferred)] (dataK k)
theorem nIs6_text (C : Ct) (L : AtLoop) (x0 : Int) (x1 : Int) (x2 : Int) (k : List D → Prop) : nIs6 C L x0 x1 x2 k =
 (k [(D.val (vI x2)), (D.val (vI 0))]) := by kernel_rfl
def gEa (C : Ct) (L : AtLoop) (n0 : Nat) (c0 : Nat) (l0 : List Value) (x1 : Int) (x2 : Int) (x3 : Int) (n4 : Nat) (c4 : Nat) (l4 : List Value) (x5 : Int) (n6 : Nat) (c6 : Nat) (l6 : List Value) (x7 : Int) (x8 : Int) (k : List D → Prop) : Prop := jFn Try.prog (hZ C) L [] 18 #[.agg #[.slice (some ⟨500, 0, none⟩) n0 c0, .int .i64 x1, .int .i64 x2, .int .i64 x3], .agg #[.slice (some ⟨501, 0, none⟩) n4 c4, .int .i64 x5], .agg #[.slice (some ⟨502, 0, none⟩) n6 c6, .int .i64 x7, .int .i64 x8]] (heapOf [(500, .sym l0 false 2), (501, .sym l4 false 1), (502, .sym l6 false 2)]) (dataK k)
theorem gEa_text (C : Ct) (L : AtLoop) (n0 : Nat) (c0 : Nat) (l0 : List Go.Value) (x1 : Int) (x2 : Int) (x3 : Int) (n4 : Nat) (c4 : Nat) (l4 : List Go.Value) (x5 : Int) (n6 : Nat) (c6 : Nat) (l6 : List Go.Value) (x7 : Int) (x8 : Int) (k : List D → Prop) : gEa C L n0 c0 l0 x1 x2 x3 n4 c4 l4 x5 n6 c6 l6 x7 x8 k =
 (((Qv (Value.agg [(Sl 501 (n4) (c4)), (vI x5)].toArray)) ∧
 ((Qv (Value.agg [(Sl 500 (n0) (c0)), (vI x1), (vI x2), (vI x3)].toArray)) ∧
 True)) ∧
 (bcase (decide (0 + n0 * 2 ≤ List.length l0))
 (∃ n1 : Int,
 ((Says C 52 [(D.agg [(D.sl (n0) 2 (List.take (n0 * 2) (List.drop 0 l0))), (D.val (vI x1)), (D.val (vI x2)), (D.val (vI x3))])] [(D.val (vI n1))]) ∧
 (((Qv (Value.agg [(Sl 501 (n4) (c4)), (vI x5)].toArray)) ∧
 True) ∧
 (bcase (decide (0 + n4 * 1 ≤ List.length l4))
 (∃ n2 : Int,
 ((Says C 53 [(D.agg [(D.sl (n4) 1 (List.take (n4 * 1) (List.drop 0 l4))), (D.val (vI x5))])] [(D.val (vI n2))]) ∧
 ((((Qv (Sl 1011 2 2)) ∧
 (Qv (some (AObj.cells [(vI n1), (vI n2)] 43 false 1)))) ∧
 True) ∧
 (∃ n3 : Int,
 ((Says C 34 [(D.sl 2 1 [(vI n1), (vI n2)])] [(D.val (vI n3))]) ∧
 (True ∧
 (True ∧
 (bcase (n3 != 0)
 (bcase (decide (0 + n6 * 2 ≤ List.length l6))
 (∃ n5 : Int,
 ((Says C 61 [(D.agg [(D.sl (n6) 2 (List.take (n6 * 2) (List.drop 0 l6))), (D.val (vI x7)), (D.val (vI x8))])] [(D.val (vI n5))]) ∧
 (∃ n7 : Int,
 ((Says C 34 [(D.sl 2 1 [(vI n3), (vI n5)])] [(D.val (vI n7))]) ∧
 (bcase (n7 != 0)
 (bcase (n7 != 0)
 (k [(D.val (vI 0)), (D.val (vI n7))])
 (L 50005 [(Prod.mk 6 (Pt 1000 0)), (Prod.mk 7 (Pt 1001 0)), (Prod.mk 22 Value.nilFunc)] [(Prod.mk 1000 (AObj.cells [(vI 0)] 3 false 1)), (Prod.mk 1001 (AObj.cells [(vI 0)] 43 false 1))]))
 (bcase (decide (0 ≤ IntKind.wrap .i64 ((↑n6 : Int) - 1)))
 (bcase (decide (IntKind.wrap .i64 ((↑n6 : Int) - 1) < (↑n6 : Int)))
 (∃ n8 : Int,
 ((At (l6) (0 + Int.toNat (IntKind.wrap .i64 ((↑n6 : Int) - 1)) * 2) 1 [(vI n8)]) ∧
 (L 50005 [(Prod.mk 6 (Pt 1000 0)), (Prod.mk 7 (Pt 1001 0)), (Prod.mk 22 (Value.func (Go.Fn.func 62) [].toArray [(Pt 1002 0), (Pt 1003 0), (Pt 1004 0)].toArray))] [(Prod.mk 1000 (AObj.cells [(vI 0)] 3 false 1)), (Prod.mk 1001 (AObj.cells [(vI 0)] 43 false 1)), (Prod.mk 1002 (AObj.cells [(Value.slice none 0 0), (vI 0), (vI 0), (vI 0), (Value.slice none 0 0), (vI 0)] 78 false 6)), (Prod.mk 1003 (AObj.cells [(Sl 502 (n6) (c6)), (vI x7), (vI x8)] 58 false 1)), (Prod.mk 1004 (AObj.cells [(vI n8), (vI 1)] 40 false 2)), (Prod.mk 502 (AObj.sym (l6) false 2))])))
 False)
 False))))))
 False)
 (bcase (decide (0 + n4 * 1 ≤ List.length l4))
 ((Says C 70 [(D.sl (n4) 1 (List.take (n4 * 1) (List.drop 0 l4)))] [(D.sl (n4) 1 (List.take (n4 * 1) (List.drop 0 l4)))]) ∧
 (bcase (decide (0 + n6 * 2 ≤ List.length l6))
 (∃ n5 : Int,
 ((Says C 61 [(D.agg [(D.sl (n6) 2 (List.take (n6 * 2) (List.drop 0 l6))), (D.val (vI x7)), (D.val (vI x8))])] [(D.val (vI n5))]) ∧
 (∃ n7 : Int,
 ((Says C 34 [(D.sl 2 1 [(vI 0), (vI n5)])] [(D.val (vI n7))]) ∧
 (bcase (n7 != 0)
 (bcase (n7 != 0)
 (k [(D.val (vI 0)), (D.val (vI n7))])
 (L 50005 [(Prod.mk 6 (Pt 1000 0)), (Prod.mk 7 (Pt 1001 0)), (Prod.mk 22 Value.nilFunc)] [(Prod.mk 1000 (AObj.cells [(vI 0)] 3 false 1)), (Prod.mk 1001 (AObj.cells [(vI 0)] 43 false 1))]))
 (bcase (decide (0 ≤ IntKind.wrap .i64 ((↑n6 : Int) - 1)))
 (bcase (decide (IntKind.wrap .i64 ((↑n6 : Int) - 1) < (↑n6 : Int)))
 (∃ n8 : Int,
 ((At (l6) (0 + Int.toNat (IntKind.wrap .i64 ((↑n6 : Int) - 1)) * 2) 1 [(vI n8)]) ∧
 (L 50005 [(Prod.mk 6 (Pt 1000 0)), (Prod.mk 7 (Pt 1001 0)), (Prod.mk 22 (Value.func (Go.Fn.func 62) [].toArray [(Pt 1002 0), (Pt 1003 0), (Pt 1004 0)].toArray))] [(Prod.mk 1000 (AObj.cells [(vI 0)] 3 false 1)), (Prod.mk 1001 (AObj.cells [(vI 0)] 43 false 1)), (Prod.mk 1002 (AObj.cells [(Sl 500 (n0) (c0)), (vI x1), (vI x2), (vI x3), (Sl 1005 (n4) (n4)), (vI x5)] 78 false 6)), (Prod.mk 1003 (AObj.cells [(Sl 502 (n6) (c6)), (vI x7), (vI x8)] 58 false 1)), (Prod.mk 1004 (AObj.cells [(vI n8), (vI 1)] 40 false 2)), (Prod.mk 500 (AObj.sym (l0) false 2)), (Prod.mk 1005 (AObj.sym (List.take (n4 * 1) (List.drop 0 l4)) true 1)), (Prod.mk 502 (AObj.sym (l6) false 2))])))
 False)
 False))))))
 False))
 False)))))))))
 False))))
 False)) := by kernel_rfl
abbrev zEa3 (x0 : Int) (x1 : Int) (n2 : Nat) (c3 : Nat) (x4 : Int) (x5 : Int) (x6 : Int) (n7 : Nat) (x8 : Int) (n9 : Nat) (c10 : Nat) (x11 : Int) (x12 : Int) (x13 : Int) (x14 : Int) (l15 : List Value) (l16 : List Value) (l17 : List Value) : Slots × Blocks := ([(6, (Value.pointer (some ⟨1000, 0, none⟩))), (7, (Value.pointer (some ⟨1001, 0, none⟩))), (22, (Value.func (.func 62) #[] #[(Value.pointer (some ⟨1002, 0, none⟩)), (Value.pointer (some ⟨1003, 0, none⟩)), (Value.pointer (some ⟨1004, 0, none⟩))]))], [(1000, (AObj.cells [(Value.int .i64 x0)] 3 false 1)), (1001, (AObj.cells [(Value.int .i64 x1)] 43 false 1)), (1002, (AObj.cells [(Value.slice (some ⟨500, 0, none⟩) n2 c3), (Value.int .i64 x4), (Value.int .i64 x5), (Value.int .i64 x6), (Value.slice (some ⟨1005, 0, none⟩) n7 n7), (Value.int .i64 x8)] 78 false 6)), (1003, (AObj.cells [(Value.slice (some ⟨502, 0, none⟩) n9 c10), (Value.int .i64 x11), (Value.int .i64 x12)] 58 false 1)), (1004, (AObj.cells [(Value.int .i64 x13), (Value.int .i64 x14)] 40 false 2)), (500, (AObj.sym l15 false 2)), (1005, (AObj.sym l16 true 1)), (502, (AObj.sym l17 false 2))])
def hEa3 (x0 : Int) (x1 : Int) (n2 : Nat) (c3 : Nat) (x4 : Int) (x5 : Int) (x6 : Int) (n7 : Nat) (x8 : Int) (n9 : Nat) (c10 : Nat) (x11 : Int) (x12 : Int) (x13 : Int) (x14 : Int) (l15 : List Value) (l16 : List Value) (l17 : List Value) (Kr : Kh) : Prop := rHead Try.prog 18 50005 [(6, (Value.pointer (some ⟨1000, 0, none⟩))), (7, (Value.pointer (some ⟨1001, 0, none⟩))), (22, (Value.func (.func 62) #[] #[(Value.pointer (some ⟨1002, 0, none⟩)), (Value.pointer (some ⟨1003, 0, none⟩)), (Value.pointer (some ⟨1004, 0, none⟩))]))] [(1000, (AObj.cells [(Value.int .i64 x0)] 3 false 1)), (1001, (AObj.cells [(Value.int .i64 x1)] 43 false 1)), (1002, (AObj.cells [(Value.slice (some ⟨500, 0, none⟩) n2 c3), (Value.int .i64 x4), (Value.int .i64 x5), (Value.int .i64 x6), (Value.slice (some ⟨1005, 0, none⟩) n7 n7), (Value.int .i64 x8)] 78 false 6)), (1003, (AObj.cells [(Value.slice (some ⟨502, 0, none⟩) n9 c10), (Value.int .i64 x11), (Value.int .i64 x12)] 58 false 1)), (1004, (AObj.cells [(Value.int .i64 x13), (Value.int .i64 x14)] 40 false 2)), (500, (AObj.sym l15 false 2)), (1005, (AObj.sym l16 true 1)), (502, (AObj.sym l17 false 2))] Kr
theorem hEa3_text (x0 : Int) (x1 : Int) (n2 : Nat) (c3 : Nat) (x4 : Int) (x5 : Int) (x6 : Int) (n7 : Nat) (x8 : Int) (n9 : Nat) (c10 : Nat) (x11 : Int) (x12 : Int) (x13 : Int) (x14 : Int) (l15 : List Go.Value) (l16 : List Go.Value) (l17 : List Go.Value) (Kr : Kh) : hEa3 x0 x1 n2 c3 x4 x5 x6 n7 x8 n9 c10 x11 x12 x13 x14 l15 l16 l17 Kr =
 (Kr 62 [(Value.func (Go.Fn.yield 915) [].toArray [].toArray), (Pt 500 0), (Pt 501 0), (Pt 502 0)] [(Prod.mk 500 (AObj.cells [(Sl 503 (n2) (c3)), (vI x4), (vI x5), (vI x6), (Sl 504 (n7) (n7)), (vI x8)] 78 false 6)), (Prod.mk 501 (AObj.cells [(Sl 505 (n9) (c10)), (vI x11), (vI x12)] 58 false 1)), (Prod.mk 502 (AObj.cells [(vI x13), (vI x14)] 40 false 2)), (Prod.mk 503 (AObj.sym (l15) false 2)), (Prod.mk 504 (AObj.sym (l16) true 1)), (Prod.mk 505 (AObj.sym (l17) false 2))] [(Prod.mk 6 (Pt 1000 0)), (Prod.mk 7 (Pt 1001 0)), (Prod.mk 1000000 (Value.map (some 1002)))] [(Prod.mk 1000 (AObj.cells [(vI x0)] 3 false 1)), (Prod.mk 1001 (AObj.cells [(vI x1)] 43 false 1)), (Prod.mk 1002 AObj.deferred)]) := by kernel_rfl
abbrev zEa4 (x0 : Int) (x1 : Int) : Slots × Blocks := ([(6, (Value.pointer (some ⟨1000, 0, none⟩))), (7, (Value.pointer (some ⟨1001, 0, none⟩))), (1000000, (Go.Value.map (Option.some 1002)))], [(1000, (AObj.cells [(Value.int .i64 x0)] 3 false 1)), (1001, (AObj.cells [(Value.int .i64 x1)] 43 false 1)), (1002, AObj.deferred)])
def wEa4 (C : Ct) (x0 : Int) (x1 : Int) (y0 : Int) (y1 : Int) (B : Bx) (X : Ex) : Prop := rRound Try.prog (hZ C) 18 50005 [(6, (Value.pointer (some ⟨1000, 0, none⟩))), (7, (Value.pointer (some ⟨1001, 0, none⟩))), (1000000, (Go.Value.map (Option.some 1002)))] [(1000, (AObj.cells [(Value.int .i64 x0)] 3 false 1)), (1001, (AObj.cells [(Value.int .i64 x1)] 43 false 1)), (1002, AObj.deferred)] [(.val (.int .i64 y0)), (.val (.int .i64 y1))] B X
theorem wEa4_text (C : Ct) (x0 : Int) (x1 : Int) (y0 : Int) (y1 : Int) (B : Bx) (X : Ex) : wEa4 C x0 x1 y0 y1 B X =
 (∀ caps : Nat → Nat,
 (bcase (y1 == 2)
 (X Go.Exit.ret [(Prod.mk 6 (Pt 1000 0)), (Prod.mk 7 (Pt 1001 0)), (Prod.mk 1000000 (Value.map (some 1002)))] [(Prod.mk 1000 (AObj.cells [(vI y0)] 3 false 1)), (Prod.mk 1001 (AObj.cells [(vI 0)] 43 false 1)), (Prod.mk 1002 AObj.deferred)])
 (B [(Prod.mk 6 (Pt 1000 0)), (Prod.mk 7 (Pt 1001 0)), (Prod.mk 1000000 (Value.map (some 1002)))] [(Prod.mk 1000 (AObj.cells [(vI x0)] 3 false 1)), (Prod.mk 1001 (AObj.cells [(vI x1)] 43 false 1)), (Prod.mk 1002 AObj.deferred)]))) := by kernel_rfl
def nEa5 (C : Ct) (L : AtLoop) (x0 : Int) (x1 : Int) (k : List D → Prop) : Prop := jNext Try.prog (hZ C) L [] 18 50005 .normal [(6, (Value.pointer (some ⟨1000, 0, none⟩))), (7, (Value.pointer (some ⟨1001, 0, none⟩))), (1000000, (Go.Value.map (Option.some 1002)))] [(1000, (AObj.cells [(Value.int .i64 x0)] 3 false 1)), (1001, (AObj.cells [(Value.int .i64 x1)] 43 false 1)), (1002, AObj.deferred)] (dataK k)
theorem nEa5_text (C : Ct) (L : AtLoop) (x0 : Int) (x1 : Int) (k : List D → Prop) : nEa5 C L x0 x1 k =
 (k [(D.val (vI 0)), (D.val (vI 12))]) := by kernel_rfl
def nEa6 (C : Ct) (L : AtLoop) (x0 : Int) (x1 : Int) (k : List D → Prop) : Prop := jNext Try.prog (hZ C) L [] 18 50005 .ret [(6, (Value.pointer (some ⟨1000, 0, none⟩))), (7, (Value.pointer (some ⟨1001, 0, none⟩))), (1000000, (Go.Value.map (Option.some 1002)))] [(1000, (AObj.cells [(Value.int .i64 x0)] 3 false 1)), (1001, (AObj.cells [(Value.int .i64 x1)] 43 false 1)), (1002, AObj.deferred)] (dataK k)
theorem nEa6_text (C : Ct) (L : AtLoop) (x0 : Int) (x1 : Int) (k : List D → Prop) : nEa6 C L x0 x1 k =
 (k [(D.val (vI x0)), (D.val (vI x1))]) := by kernel_rfl
def gMx (C : Ct) (L : AtLoop) (n0 : Nat) (c0 : Nat) (l0 : List Value) (x1 : Int) (x2 : Int) (x3 : Int) (n4 : Nat) (c4 : Nat) (l4 : List Value) (x5 : Int) (n6 : Nat) (c6 : Nat) (l6 : List Value) (x7 : Int) (x8 : Int) (k : List D → Prop) : Prop := jFn Try.prog (hZ C) L [] 20 #[.agg #[.slice (some ⟨500, 0, none⟩) n0 c0, .int .i64 x1, .int .i64 x2, .int .i64 x3], .agg #[.slice (some ⟨501, 0, none⟩) n4 c4, .int .i64 x5], .agg #[.slice (some ⟨502, 0, none⟩) n6 c6, .int .i64 x7, .int .i64 x8]] (heapOf [(500, .sym l0 false 2), (501, .sym l4 false 1), (502, .sym l6 false 2)]) (dataK k)
theorem gMx_text (C : Ct) (L : AtLoop) (n0 : Nat) (c0 : Nat) (l0 : List Go.Value) (x1 : Int) (x2 : Int) (x3 : Int) (n4 : Nat) (c4 : Nat) (l4 : List Go.Value) (x5 : Int) (n6 : Nat) (c6 : Nat) (l6 : List Go.Value) (x7 : Int) (x8 : Int) (k : List D → Prop) : gMx C L n0 c0 l0 x1 x2 x3 n4 c4 l4 x5 n6 c6 l6 x7 x8 k =
 (((Qv (Value.agg [(Sl 501 (n4) (c4)), (vI x5)].toArray)) ∧
 ((Qv (Value.agg [(Sl 500 (n0) (c0)), (vI x1), (vI x2), (vI x3)].toArray)) ∧
 True)) ∧
 (bcase (decide (0 + n0 * 2 ≤ List.length l0))
 (∃ n1 : Int,
 ((Says C 52 [(D.agg [(D.sl (n0) 2 (List.take (n0 * 2) (List.drop 0 l0))), (D.val (vI x1)), (D.val (vI x2)), (D.val (vI x3))])] [(D.val (vI n1))]) ∧
 (((Qv (Value.agg [(Sl 501 (n4) (c4)), (vI x5)].toArray)) ∧
 True) ∧
 (bcase (decide (0 + n4 * 1 ≤ List.length l4))
 (∃ n2 : Int,
 ((Says C 53 [(D.agg [(D.sl (n4) 1 (List.take (n4 * 1) (List.drop 0 l4))), (D.val (vI x5))])] [(D.val (vI n2))]) ∧
 ((((Qv (Sl 1009 2 2)) ∧
 (Qv (some (AObj.cells [(vI n1), (vI n2)] 43 false 1)))) ∧
 True) ∧
 (∃ n3 : Int,
 ((Says C 34 [(D.sl 2 1 [(vI n1), (vI n2)])] [(D.val (vI n3))]) ∧
 (True ∧
 (True ∧
 (bcase (n3 != 0)
 (bcase (decide (0 + n6 * 2 ≤ List.length l6))
 (∃ n5 : Int,
 ((Says C 61 [(D.agg [(D.sl (n6) 2 (List.take (n6 * 2) (List.drop 0 l6))), (D.val (vI x7)), (D.val (vI x8))])] [(D.val (vI n5))]) ∧
 (∃ n7 : Int,
 ((Says C 34 [(D.sl 2 1 [(vI n3), (vI n5)])] [(D.val (vI n7))]) ∧
 (bcase (n7 != 0)
 (bcase (n7 != 0)
 (k [(D.val (vI 0)), (D.val (vI n7))])
 (L 50006 [(Prod.mk 6 (vI 0)), (Prod.mk 7 (vI 0)), (Prod.mk 10 (Pt 1000 0)), (Prod.mk 23 Value.nilFunc)] [(Prod.mk 1000 (AObj.cells [(vI (-(0 + 1) : Int))] 3 false 1))]))
 (bcase (decide (0 ≤ IntKind.wrap .i64 ((↑n6 : Int) - 1)))
 (bcase (decide (IntKind.wrap .i64 ((↑n6 : Int) - 1) < (↑n6 : Int)))
 (∃ n8 : Int,
 ((At (l6) (0 + Int.toNat (IntKind.wrap .i64 ((↑n6 : Int) - 1)) * 2) 1 [(vI n8)]) ∧
 (L 50006 [(Prod.mk 6 (vI 0)), (Prod.mk 7 (vI 0)), (Prod.mk 10 (Pt 1000 0)), (Prod.mk 23 (Value.func (Go.Fn.func 62) [].toArray [(Pt 1001 0), (Pt 1002 0), (Pt 1003 0)].toArray))] [(Prod.mk 1000 (AObj.cells [(vI (-(0 + 1) : Int))] 3 false 1)), (Prod.mk 1001 (AObj.cells [(Value.slice none 0 0), (vI 0), (vI 0), (vI 0), (Value.slice none 0 0), (vI 0)] 78 false 6)), (Prod.mk 1002 (AObj.cells [(Sl 502 (n6) (c6)), (vI x7), (vI x8)] 58 false 1)), (Prod.mk 1003 (AObj.cells [(vI n8), (vI 1)] 40 false 2)), (Prod.mk 502 (AObj.sym (l6) false 2))])))
 False)
 False))))))
 False)
 (bcase (decide (0 + n4 * 1 ≤ List.length l4))
 ((Says C 70 [(D.sl (n4) 1 (List.take (n4 * 1) (List.drop 0 l4)))] [(D.sl (n4) 1 (List.take (n4 * 1) (List.drop 0 l4)))]) ∧
 (bcase (decide (0 + n6 * 2 ≤ List.length l6))
 (∃ n5 : Int,
 ((Says C 61 [(D.agg [(D.sl (n6) 2 (List.take (n6 * 2) (List.drop 0 l6))), (D.val (vI x7)), (D.val (vI x8))])] [(D.val (vI n5))]) ∧
 (∃ n7 : Int,
 ((Says C 34 [(D.sl 2 1 [(vI 0), (vI n5)])] [(D.val (vI n7))]) ∧
 (bcase (n7 != 0)
 (bcase (n7 != 0)
 (k [(D.val (vI 0)), (D.val (vI n7))])
 (L 50006 [(Prod.mk 6 (vI 0)), (Prod.mk 7 (vI 0)), (Prod.mk 10 (Pt 1000 0)), (Prod.mk 23 Value.nilFunc)] [(Prod.mk 1000 (AObj.cells [(vI (-(0 + 1) : Int))] 3 false 1))]))
 (bcase (decide (0 ≤ IntKind.wrap .i64 ((↑n6 : Int) - 1)))
 (bcase (decide (IntKind.wrap .i64 ((↑n6 : Int) - 1) < (↑n6 : Int)))
 (∃ n8 : Int,
 ((At (l6) (0 + Int.toNat (IntKind.wrap .i64 ((↑n6 : Int) - 1)) * 2) 1 [(vI n8)]) ∧
 (L 50006 [(Prod.mk 6 (vI 0)), (Prod.mk 7 (vI 0)), (Prod.mk 10 (Pt 1000 0)), (Prod.mk 23 (Value.func (Go.Fn.func 62) [].toArray [(Pt 1001 0), (Pt 1002 0), (Pt 1003 0)].toArray))] [(Prod.mk 1000 (AObj.cells [(vI (-(0 + 1) : Int))] 3 false 1)), (Prod.mk 1001 (AObj.cells [(Sl 500 (n0) (c0)), (vI x1), (vI x2), (vI x3), (Sl 1004 (n4) (n4)), (vI x5)] 78 false 6)), (Prod.mk 1002 (AObj.cells [(Sl 502 (n6) (c6)), (vI x7), (vI x8)] 58 false 1)), (Prod.mk 1003 (AObj.cells [(vI n8), (vI 1)] 40 false 2)), (Prod.mk 500 (AObj.sym (l0) false 2)), (Prod.mk 1004 (AObj.sym (List.take (n4 * 1) (List.drop 0 l4)) true 1)), (Prod.mk 502 (AObj.sym (l6) false 2))])))
 False)
 False))))))
 False))
 False)))))))))
 False))))
 False)) := by kernel_rfl
abbrev zMx3 (x0 : Int) (x1 : Int) (x2 : Int) (n3 : Nat) (c4 : Nat) (x5 : Int) (x6 : Int) (x7 : Int) (n8 : Nat) (x9 : Int) (n10 : Nat) (c11 : Nat) (x12 : Int) (x13 : Int) (x14 : Int) (x15 : Int) (l16 : List Value) (l17 : List Value) (l18 : List Value) : Slots × Blocks := ([(6, (Value.int .i64 x0)), (7, (Value.int .i64 x1)), (10, (Value.pointer (some ⟨1000, 0, none⟩))), (23, (Value.func (.func 62) #[] #[(Value.pointer (some ⟨1001, 0, none⟩)), (Value.pointer (some ⟨1002, 0, none⟩)), (Value.pointer (some ⟨1003, 0, none⟩))]))], [(1000, (AObj.cells [(Value.int .i64 x2)] 3 false 1)), (1001, (AObj.cells [(Value.slice (some ⟨500, 0, none⟩) n3 c4), (Value.int .i64 x5), (Value.int .i64 x6), (Value.int .i64 x7), (Value.slice (some ⟨1004, 0, none⟩) n8 n8), (Value.int .i64 x9)] 78 false 6)), (1002, (AObj.cells [(Value.slice (some ⟨502, 0, none⟩) n10 c11), (Value.int .i64 x12), (Value.int .i64 x13)] 58 false 1)), (1003, (AObj.cells [(Value.int .i64 x14), (Value.int .i64 x15)] 40 false 2)), (500, (AObj.sym l16 false 2)), (1004, (AObj.sym l17 true 1)), (502, (AObj.sym l18 false 2))])
def hMx3 (x0 : Int) (x1 : Int) (x2 : Int) (n3 : Nat) (c4 : Nat) (x5 : Int) (x6 : Int) (x7 : Int) (n8 : Nat) (x9 : Int) (n10 : Nat) (c11 : Nat) (x12 : Int) (x13 : Int) (x14 : Int) (x15 : Int) (l16 : List Value) (l17 : List Value) (l18 : List Value) (Kr : Kh) : Prop := rHead Try.prog 20 50006 [(6, (Value.int .i64 x0)), (7, (Value.int .i64 x1)), (10, (Value.pointer (some ⟨1000, 0, none⟩))), (23, (Value.func (.func 62) #[] #[(Value.pointer (some ⟨1001, 0, none⟩)), (Value.pointer (some ⟨1002, 0, none⟩)), (Value.pointer (some ⟨1003, 0, none⟩))]))] [(1000, (AObj.cells [(Value.int .i64 x2)] 3 false 1)), (1001, (AObj.cells [(Value.slice (some ⟨500, 0, none⟩) n3 c4), (Value.int .i64 x5), (Value.int .i64 x6), (Value.int .i64 x7), (Value.slice (some ⟨1004, 0, none⟩) n8 n8), (Value.int .i64 x9)] 78 false 6)), (1002, (AObj.cells [(Value.slice (some ⟨502, 0, none⟩) n10 c11), (Value.int .i64 x12), (Value.int .i64 x13)] 58 false 1)), (1003, (AObj.cells [(Value.int .i64 x14), (Value.int .i64 x15)] 40 false 2)), (500, (AObj.sym l16 false 2)), (1004, (AObj.sym l17 true 1)), (502, (AObj.sym l18 false 2))] Kr
theorem hMx3_text (x0 : Int) (x1 : Int) (x2 : Int) (n3 : Nat) (c4 : Nat) (x5 : Int) (x6 : Int) (x7 : Int) (n8 : Nat) (x9 : Int) (n10 : Nat) (c11 : Nat) (x12 : Int) (x13 : Int) (x14 : Int) (x15 : Int) (l16 : List Go.Value) (l17 : List Go.Value) (l18 : List Go.Value) (Kr : Kh) : hMx3 x0 x1 x2 n3 c4 x5 x6 x7 n8 x9 n10 c11 x12 x13 x14 x15 l16 l17 l18 Kr =
 (Kr 62 [(Value.func (Go.Fn.yield 915) [].toArray [].toArray), (Pt 500 0), (Pt 501 0), (Pt 502 0)] [(Prod.mk 500 (AObj.cells [(Sl 503 (n3) (c4)), (vI x5), (vI x6), (vI x7), (Sl 504 (n8) (n8)), (vI x9)] 78 false 6)), (Prod.mk 501 (AObj.cells [(Sl 505 (n10) (c11)), (vI x12), (vI x13)] 58 false 1)), (Prod.mk 502 (AObj.cells [(vI x14), (vI x15)] 40 false 2)), (Prod.mk 503 (AObj.sym (l16) false 2)), (Prod.mk 504 (AObj.sym (l17) true 1)), (Prod.mk 505 (AObj.sym (l18) false 2))] [(Prod.mk 6 (vI x0)), (Prod.mk 7 (vI x1)), (Prod.mk 10 (Pt 1000 0)), (Prod.mk 1000000 (Value.map (some 1001)))] [(Prod.mk 1000 (AObj.cells [(vI x2)] 3 false 1)), (Prod.mk 1001 AObj.deferred)]) := by kernel_rfl
abbrev zMx4 (x0 : Int) (x1 : Int) (x2 : Int) : Slots × Blocks := ([(6, (Value.int .i64 x0)), (7, (Value.int .i64 x1)), (10, (Value.pointer (some ⟨1000, 0, none⟩))), (1000000, (Go.Value.map (Option.some 1001)))], [(1000, (AObj.cells [(Value.int .i64 x2)] 3 false 1)), (1001, AObj.deferred)])
def wMx4 (C : Ct) (x0 : Int) (x1 : Int) (x2 : Int) (y0 : Int) (y1 : Int) (B : Bx) (X : Ex) : Prop := rRound Try.prog (hZ C) 20 50006 [(6, (Value.int .i64 x0)), (7, (Value.int .i64 x1)), (10, (Value.pointer (some ⟨1000, 0, none⟩))), (1000000, (Go.Value.map (Option.some 1001)))] [(1000, (AObj.cells [(Value.int .i64 x2)] 3 false 1)), (1001, AObj.deferred)] [(.val (.int .i64 y0)), (.val (.int .i64 y1))] B X
theorem wMx4_text (C : Ct) (x0 : Int) (x1 : Int) (x2 : Int) (y0 : Int) (y1 : Int) (B : Bx) (X : Ex) : wMx4 C x0 x1 x2 y0 y1 B X =
 (∀ caps : Nat → Nat,
 (bcase (y1 != 2)
 (X (Go.Exit.exit 0) [(Prod.mk 6 (vI x0)), (Prod.mk 7 (vI x1)), (Prod.mk 10 (Pt 1000 0)), (Prod.mk 1000000 (Value.map (some 1001)))] [(Prod.mk 1000 (AObj.cells [(vI x2)] 3 false 1)), (Prod.mk 1001 AObj.deferred)])
 (B [(Prod.mk 6 (vI x0)), (Prod.mk 7 (vI x1)), (Prod.mk 10 (Pt 1000 0)), (Prod.mk 1000000 (Value.map (some 1001)))] [(Prod.mk 1000 (AObj.cells [(vI y0)] 3 false 1)), (Prod.mk 1001 AObj.deferred)]))) := by kernel_rfl
def nMx5 (C : Ct) (L : AtLoop) (x0 : Int) (x1 : Int) (x2 : Int) (k : List D → Prop) : Prop := jNext Try.prog (hZ C) L [] 20 50006 .normal [(6, (Value.int .i64 x0)), (7, (Value.int .i64 x1)), (10, (Value.pointer (some ⟨1000, 0, none⟩))), (1000000, (Go.Value.map (Option.some 1001)))] [(1000, (AObj.cells [(Value.int .i64 x2)] 3 false 1)), (1001, AObj.deferred)] (dataK k)
theorem nMx5_text (C : Ct) (L : AtLoop) (x0 : Int) (x1 : Int) (x2 : Int) (k : List D → Prop) : nMx5 C L x0 x1 x2 k =
 (bcase (decide (x2 < 0))
 (k [(D.val (vI 0)), (D.val (vI 24))])
 (k [(D.val (vI x2)), (D.val (vI 0))])) := by kernel_rfl
def nMx6 (C : Ct) (L : AtLoop) (x0 : Int) (x1 : Int) (x2 : Int) (k : List D → Prop) : Prop := jNext Try.prog (hZ C) L [] 20 50006 (.exit 0) [(6, (Value.int .i64 x0)), (7, (Value.int .i64 x1)), (10, (Value.pointer (some ⟨1000, 0, none⟩))), (1000000, (Go.Value.map (Option.some 1001)))] [(1000, (AObj.cells [(Value.int .i64 x2)] 3 false 1)), (1001, AObj.deferred)] (dataK k)
theorem nMx6_text (C : Ct) (L : AtLoop) (x0 : Int) (x1 : Int) (x2 : Int) (k : List D → Prop) : nMx6 C L x0 x1 x2 k =
 (bcase (decide (x2 < 0))
 (k [(D.val (vI 0)), (D.val (vI 24))])
 (k [(D.val (vI x2)), (D.val (vI 0))])) := by kernel_rfl
def git (C : Ct) (L : AtLoop) (rs : List (List D)) (mi : Int) (a : Int) (b : Int) (bo : Int) (n0 : Nat) (c0 : Nat) (l0 : List Value) (n1 : Nat) (c1 : Nat) (l1 : List Value) (n2 : Nat) (c2 : Nat) (l2 : List Value) (ta : Int) (tb : Int) (zs : Int) (zt : Int) (K : Value → Blocks → Prop) : Prop := jFn Try.prog (hZ C) L [] 62 #[.func (.yield 915) #[] #[], .pointer (some ⟨500, 0, none⟩), .pointer (some ⟨501, 0, none⟩), .pointer (some ⟨502, 0, none⟩)] (heapOf [(915, .yld false (some rs)), (500, .cells [.slice (some ⟨503, 0, none⟩) n0 c0, .int .i64 mi, .int .i64 a, .int .i64 b, .slice (some ⟨504, 0, none⟩) n1 c1, .int .i64 bo] 78 false 6), (501, .cells [.slice (some ⟨505, 0, none⟩) n2 c2, .int .i64 ta, .int .i64 tb] 58 false 1), (502, .cells [.int .i64 zs, .int .i64 zt] 40 false 2), (503, .sym l0 false 2), (504, .sym l1 true 1), (505, .sym l2 false 2)]) (stateK K)
theorem git_text (C : Ct) (L : AtLoop) (rs : List (List D)) (mi : Int) (a : Int) (b : Int) (bo : Int) (n0 : Nat) (c0 : Nat) (l0 : List Go.Value) (n1 : Nat) (c1 : Nat) (l1 : List Go.Value) (n2 : Nat) (c2 : Nat) (l2 : List Go.Value) (ta : Int) (tb : Int) (zs : Int) (zt : Int) (K : Go.Value → Blocks → Prop) : git C L rs mi a b bo n0 c0 l0 n1 c1 l1 n2 c2 l2 ta tb zs zt K =
 (((Qv (Value.agg [(Sl 503 (n0) (c0)), (vI mi), (vI a), (vI b), (Sl 504 (n1) (c1)), (vI bo)].toArray)) ∧
 ((Qv (Value.agg [(Sl 503 (n0) (c0)), (vI mi), (vI a), (vI b), (Sl 504 (n1) (c1)), (vI bo)].toArray)) ∧
 True)) ∧
 (bcase (decide (0 + n1 * 1 ≤ List.length l1))
 ((Says C 70 [(D.sl (n1) 1 (List.take (n1 * 1) (List.drop 0 l1)))] [(D.sl (n1) 1 (List.take (n1 * 1) (List.drop 0 l1)))]) ∧
 (((Qv (Value.agg [(Sl 503 (n0) (c0)), (vI mi), (vI a), (vI b), (Sl 504 (n1) (c1)), (vI bo)].toArray)) ∧
 True) ∧
 (bcase (decide (0 + n1 * 1 ≤ List.length l1))
 ((Says C 70 [(D.sl (n1) 1 (List.take (n1 * 1) (List.drop 0 l1)))] [(D.sl (n1) 1 (List.take (n1 * 1) (List.drop 0 l1)))]) ∧
 (((Qv (Value.agg [(Sl 503 (n0) (c0)), (vI mi), (vI a), (vI b), (Sl 1004 (n1) (n1)), (vI bo), (Sl 503 (n0) (c0)), (vI mi), (vI a), (vI b), (Sl 1007 (n1) (n1)), (vI bo)].toArray)) ∧
 True) ∧
 (True ∧
 (((Qv (Value.agg [(Sl 500 (n0) (c0)), (vI mi), (vI a), (vI b), (Sl 900 (n1) (n1)), (vI bo), (Sl 500 (n0) (c0)), (vI mi), (vI a), (vI b), (Sl 901 (n1) (n1)), (vI bo)].toArray)) ∧
 ((Qv (Sl 501 (n2) (c2))) ∧
 True)) ∧
 ((((Qv (vI 500)) ∧
 (Qv (some (AObj.sym (l0) false 2)))) ∧
 (((Qv (vI 900)) ∧
 (Qv (some (AObj.sym (List.take (n1 * 1) (List.drop 0 l1)) true 1)))) ∧
 (((Qv (vI 901)) ∧
 (Qv (some (AObj.sym (List.take (n1 * 1) (List.drop 0 l1)) true 1)))) ∧
 (((Qv (vI 501)) ∧
 (Qv (some (AObj.sym (l2) false 2)))) ∧
 True)))) ∧
 (∃ o11 : List Go.Value,
 (∃ o21 : List Go.Value,
 ((GoodRoute C 57 l0 n0 mi a b bo (List.take (n1 * 1) (List.drop 0 l1)) n1 (List.take (n1 * 1) (List.drop 0 l1)) n1 l2 n2 o11 o21) ∧
 (L 0 [(Prod.mk 0 (Value.func (Go.Fn.yield 915) [].toArray [].toArray)), (Prod.mk 2 (Pt 501 0)), (Prod.mk 3 (Pt 502 0)), (Prod.mk 5 (Pt 1000 0)), (Prod.mk 13 (vI 0))] [(Prod.mk 915 (AObj.yld false (some (rs)))), (Prod.mk 501 (AObj.cells [(Sl 505 (n2) (c2)), (vI ta), (vI tb)] 58 false 1)), (Prod.mk 502 (AObj.cells [(vI zs), (vI zt)] 40 false 2)), (Prod.mk 1000 (AObj.cells [(Sl 503 (n0) (c0)), (vI mi), (vI a), (vI b), (Sl 1001 (n1) (n1)), (vI bo), (Sl 503 (n0) (c0)), (vI mi), (vI a), (vI b), (Sl 1002 (n1) (n1)), (vI bo)] 90 false 12)), (Prod.mk 505 (AObj.sym (l2) false 2)), (Prod.mk 503 (AObj.sym (l0) false 2)), (Prod.mk 1001 (AObj.sym (o11) true 1)), (Prod.mk 1002 (AObj.sym (o21) true 1))])))))))))
 False)))
 False)) := by kernel_rfl
abbrev zit1 (x0 : Int) (rs1 : List (List D)) (n2 : Nat) (c3 : Nat) (x4 : Int) (x5 : Int) (x6 : Int) (x7 : Int) (n8 : Nat) (c9 : Nat) (x10 : Int) (x11 : Int) (x12 : Int) (n13 : Nat) (x14 : Int) (n15 : Nat) (c16 : Nat) (x17 : Int) (x18 : Int) (x19 : Int) (n20 : Nat) (x21 : Int) (l22 : List Value) (l23 : List Value) (l24 : List Value) (l25 : List Value) : Slots × Blocks := ([(0, (Value.func (.yield 915) #[] #[])), (2, (Value.pointer (some ⟨501, 0, none⟩))), (3, (Value.pointer (some ⟨502, 0, none⟩))), (5, (Value.pointer (some ⟨1000, 0, none⟩))), (13, (Value.int .i64 x0))], [(915, (AObj.yld false (some rs1))), (501, (AObj.cells [(Value.slice (some ⟨505, 0, none⟩) n2 c3), (Value.int .i64 x4), (Value.int .i64 x5)] 58 false 1)), (502, (AObj.cells [(Value.int .i64 x6), (Value.int .i64 x7)] 40 false 2)), (1000, (AObj.cells [(Value.slice (some ⟨503, 0, none⟩) n8 c9), (Value.int .i64 x10), (Value.int .i64 x11), (Value.int .i64 x12), (Value.slice (some ⟨1001, 0, none⟩) n13 n13), (Value.int .i64 x14), (Value.slice (some ⟨503, 0, none⟩) n15 c16), (Value.int .i64 x17), (Value.int .i64 x18), (Value.int .i64 x19), (Value.slice (some ⟨1002, 0, none⟩) n20 n20), (Value.int .i64 x21)] 90 false 12)), (505, (AObj.sym l22 false 2)), (503, (AObj.sym l23 false 2)), (1001, (AObj.sym l24 true 1)), (1002, (AObj.sym l25 true 1))])
def rit1 (C : Ct) (L : AtLoop) (x0 : Int) (rs1 : List (List D)) (n2 : Nat) (c3 : Nat) (x4 : Int) (x5 : Int) (x6 : Int) (x7 : Int) (n8 : Nat) (c9 : Nat) (x10 : Int) (x11 : Int) (x12 : Int) (n13 : Nat) (x14 : Int) (n15 : Nat) (c16 : Nat) (x17 : Int) (x18 : Int) (x19 : Int) (n20 : Nat) (x21 : Int) (l22 : List Value) (l23 : List Value) (l24 : List Value) (l25 : List Value) (B : Bx) (X : Xx) (K : Value → Blocks → Prop) : Prop := jRound Try.prog (hZ C) L [] 62 0 [(0, (Value.func (.yield 915) #[] #[])), (2, (Value.pointer (some ⟨501, 0, none⟩))), (3, (Value.pointer (some ⟨502, 0, none⟩))), (5, (Value.pointer (some ⟨1000, 0, none⟩))), (13, (Value.int .i64 x0))] [(915, (AObj.yld false (some rs1))), (501, (AObj.cells [(Value.slice (some ⟨505, 0, none⟩) n2 c3), (Value.int .i64 x4), (Value.int .i64 x5)] 58 false 1)), (502, (AObj.cells [(Value.int .i64 x6), (Value.int .i64 x7)] 40 false 2)), (1000, (AObj.cells [(Value.slice (some ⟨503, 0, none⟩) n8 c9), (Value.int .i64 x10), (Value.int .i64 x11), (Value.int .i64 x12), (Value.slice (some ⟨1001, 0, none⟩) n13 n13), (Value.int .i64 x14), (Value.slice (some ⟨503, 0, none⟩) n15 c16), (Value.int .i64 x17), (Value.int .i64 x18), (Value.int .i64 x19), (Value.slice (some ⟨1002, 0, none⟩) n20 n20), (Value.int .i64 x21)] 90 false 12)), (505, (AObj.sym l22 false 2)), (503, (AObj.sym l23 false 2)), (1001, (AObj.sym l24 true 1)), (1002, (AObj.sym l25 true 1))] B X (stateK K)
theorem rit1_text (C : Ct) (L : AtLoop) (x0 : Int) (rs1 : List (List D)) (n2 : Nat) (c3 : Nat) (x4 : Int) (x5 : Int) (x6 : Int) (x7 : Int) (n8 : Nat) (c9 : Nat) (x10 : Int) (x11 : Int) (x12 : Int) (n13 : Nat) (x14 : Int) (n15 : Nat) (c16 : Nat) (x17 : Int) (x18 : Int) (x19 : Int) (n20 : Nat) (x21 : Int) (l22 : List Go.Value) (l23 : List Go.Value) (l24 : List Go.Value) (l25 : List Go.Value) (B : Bx) (X : Xx) (K : Go.Value → Blocks → Prop) : rit1 C L x0 rs1 n2 c3 x4 x5 x6 x7 n8 c9 x10 x11 x12 n13 x14 n15 c16 x17 x18 x19 n20 x21 l22 l23 l24 l25 B X K =
 (bcase (decide (x0 < 201))
 (bcase (decide (0 + n8 * 2 ≤ List.length l23))
 (bcase (decide (0 + n13 * 1 ≤ List.length l24))
 (bcase (decide (0 + n15 * 2 ≤ List.length l23))
 (bcase (decide (0 + n20 * 1 ≤ List.length l25))
 (∃ n1 : Int,
 ((Says C 63 [(D.agg [(D.sl (n8) 2 (List.take (n8 * 2) (List.drop 0 l23))), (D.val (vI x10)), (D.val (vI x11)), (D.val (vI x12)), (D.sl (n13) 1 (List.take (n13 * 1) (List.drop 0 l24))), (D.val (vI x14)), (D.sl (n15) 2 (List.take (n15 * 2) (List.drop 0 l23))), (D.val (vI x17)), (D.val (vI x18)), (D.val (vI x19)), (D.sl (n20) 1 (List.take (n20 * 1) (List.drop 0 l25))), (D.val (vI x21))]), (D.agg [(D.val (vI x4)), (D.val (vI x5))])] [(D.val (vI n1))]) ∧
 (∃ rest'1 : List (List D),
 ((NextIs (rs1) [(D.val (vI x0)), (D.val (vI n1))] (rest'1)) ∧
 (((((Value.agg [(Sl 500 (n8) (c9)), (vI x10), (vI x11), (vI x12), (Sl 900 (n13) (n13)), (vI x14), (Sl 500 (n15) (c16)), (vI x17), (vI x18), (vI x19), (Sl 901 (n20) (n20)), (vI x21)].toArray) = (Value.agg [(Sl 500 (n8) (c9)), (vI x10), (vI x11), (vI x12), (Sl 900 (n13) (n13)), (vI x14), (Sl 500 (n8) (c9)), (vI x10), (vI x11), (vI x12), (Sl 901 (n20) (n20)), (vI x14)].toArray)) ∧
 ((Qv (Value.agg [(vI x6), (vI x7)].toArray)) ∧
 True)) ∧
 ((((Qv (vI 500)) ∧
 (Qv (some (AObj.sym (l23) false 2)))) ∧
 (((Qv (vI 900)) ∧
 (Qv (some (AObj.sym (l24) true 1)))) ∧
 (((Qv (vI 901)) ∧
 (Qv (some (AObj.sym (l25) true 1)))) ∧
 True))) ∧
 (∃ o11 : List Go.Value,
 (∃ o21 : List Go.Value,
 ((GoodZone C 57 l23 n8 x10 x11 x12 x14 l24 n13 l25 n20 x6 x7 o11 o21) ∧
 (B [(Prod.mk 0 (Value.func (Go.Fn.yield 915) [].toArray [].toArray)), (Prod.mk 2 (Pt 501 0)), (Prod.mk 3 (Pt 502 0)), (Prod.mk 5 (Pt 1000 0)), (Prod.mk 13 (vI (IntKind.wrap .i64 (x0 + 1))))] [(Prod.mk 915 (AObj.yld false (some (rest'1)))), (Prod.mk 501 (AObj.cells [(Sl 505 (n2) (c3)), (vI x4), (vI x5)] 58 false 1)), (Prod.mk 502 (AObj.cells [(vI x6), (vI x7)] 40 false 2)), (Prod.mk 1000 (AObj.cells [(Sl 503 (n8) (c9)), (vI x10), (vI x11), (vI x12), (Sl 1001 (n13) (n13)), (vI x14), (Sl 503 (n15) (c16)), (vI x17), (vI x18), (vI x19), (Sl 1002 (n20) (n20)), (vI x21)] 90 false 12)), (Prod.mk 505 (AObj.sym (l22) false 2)), (Prod.mk 503 (AObj.sym (l23) false 2)), (Prod.mk 1001 (AObj.sym (o11) true 1)), (Prod.mk 1002 (AObj.sym (o21) true 1))])))))) ∧
 (K (Value.tuple [].toArray) [(Prod.mk 915 (AObj.yld false none))]))))))
 False)
 False)
 False)
 False)
 (X 0 [] [(Prod.mk 915 (AObj.yld false (some (rs1))))])) := by kernel_rfl
def nit2 (C : Ct) (L : AtLoop) (rs0 : List (List D)) (K : Value → Blocks → Prop) : Prop := jNext Try.prog (hZ C) L [] 62 0 .normal [] [(915, (AObj.yld false (some rs0)))] (stateK K)
theorem nit2_text (C : Ct) (L : AtLoop) (rs0 : List (List D)) (K : Go.Value → Blocks → Prop) : nit2 C L rs0 K =
 (K (Value.tuple [].toArray) [(Prod.mk 915 (AObj.yld false (some (rs0))))]) := by kernel_rfl
end Go.Proofs.G5j

/- Chapter 2, heating: the answers after further steps, and whether a slab is ready, by the program. -/
namespace Go.Proofs.G5j
open Go Go.Abs Go.Proofs Go.Proofs.G2
set_option maxRecDepth 100000
/-- further steps -/
def ser (rd : Int → Int) (up : Bool) (mi a b bo zs zt : Int) : Nat → List Int → List Int
  | 0, l => l
  | n + 1, l => encN rd up mi a b (rd zs) (rd zs) bo zt.toNat (ser rd up mi a b bo zs zt n l)
theorem ser_length (rd : Int → Int) (up : Bool) (mi a b bo zs zt : Int) : ∀ (n : Nat) (l : List Int), (ser rd up mi a b bo zs zt n l).length = l.length
  | 0, _ => rfl
  | n + 1, l => by rw [ser, encN_length, ser_length rd up mi a b bo zs zt n]
theorem ser_ok {C : FuncId → List D → List D → Prop} {fr : FuncId} {l0 : List Value} {n0 : Nat} {mi a b bo : Int} {rd : Int → Int} (R : RadOK C fr l0 n0 mi a b bo rd) (up : Bool) {zs zt : Int} (hs : 0 ≤ zs ∧ zs ≤ 20000) : ∀ (n : Nat) {l : List Int}, NodOK l → NodOK (ser rd up mi a b bo zs zt n l)
  | 0, _, N => N
  | n + 1, _, N => encN_ok R hs _ (ser_ok R up hs n N)
def ansRow (rd : Int → Int) (mi a b bo zs zt ta tb : Int) (lo hi : List Int) (i : Nat) : List D := [dI (i : Int), dI (rdy ta tb 2 ((ser rd false mi a b bo zs zt i lo).zip (ser rd true mi a b bo zs zt i hi)))]
def ansRows (rd : Int → Int) (mi a b bo zs zt ta tb : Int) (lo hi : List Int) (i : Nat) : List (List D) := (List.range' i (201 - i)).map (ansRow rd mi a b bo zs zt ta tb lo hi)
theorem ansRows_drop {rd : Int → Int} {mi a b bo zs zt ta tb : Int} {lo hi : List Int} {i : Nat} (h : i < 201) : ansRows rd mi a b bo zs zt ta tb lo hi i = ansRow rd mi a b bo zs zt ta tb lo hi i :: ansRows rd mi a b bo zs zt ta tb lo hi (i + 1) := by
  unfold ansRows
  rw [show 201 - i = (201 - (i + 1)) + 1 by omega, List.range'_succ]; rfl
theorem runIt {l0 : List Value} {n0 : Nat} {mi a b bo : Int} {rd : Int → Int} (R : RadOK C5 57 l0 n0 mi a b bo rd) {l : List Int} (N : NodOK l) {z : List (Int × Int)} (hz : z.length ≤ 1000) (hzz : OkZ z) {zs zt : Int} (hs : 0 ≤ zs ∧ zs ≤ 20000) (ht : 0 ≤ zt ∧ zt ≤ 1000) (ta tb : Int) (c0 c2 : Nat) :
    CallS Try.prog 62 [.func (.yield 915) #[] #[], .pointer (some ⟨500, 0, none⟩), .pointer (some ⟨501, 0, none⟩), .pointer (some ⟨502, 0, none⟩)] [(915, .yld false (some (ansRows rd mi a b bo zs zt ta tb (encZ rd false mi a b bo z l) (encZ rd true mi a b bo z l) 0))), (500, .cells [.slice (some ⟨503, 0, none⟩) n0 c0, .int .i64 mi, .int .i64 a, .int .i64 b, .slice (some ⟨504, 0, none⟩) l.length l.length, .int .i64 bo] 78 false 6), (501, .cells [.slice (some ⟨505, 0, none⟩) z.length c2, .int .i64 ta, .int .i64 tb] 58 false 1), (502, .cells [.int .i64 zs, .int .i64 zt] 40 false 2), (503, .sym l0 false 2), (504, .sym (vi l) true 1), (505, .sym (vp z) false 2)] EndY := by
  have hT : List.take (n0 * 2) (List.drop 0 l0) = l0 := by rw [List.drop_zero, ← R.len, List.take_length]
  have hl0 : 0 + n0 * 2 ≤ l0.length := by have := R.len; omega
  have h2 := N.two
  have h8 := N.few
  let L0 := encZ rd false mi a b bo z l
  let H0 := encZ rd true mi a b bo z l
  have NL : NodOK L0 := encZ_ok R false _ hzz N
  have NH : NodOK H0 := encZ_ok R true _ hzz N
  have eL0 : L0.length = l.length := encZ_length ..
  have eH0 : H0.length = l.length := encZ_length ..
  let lo : Nat → List Int := fun i => ser rd false mi a b bo zs zt i L0
  let hi : Nat → List Int := fun i => ser rd true mi a b bo zs zt i H0
  let st : Nat → Slots × Blocks := fun i => zit1 i (ansRows rd mi a b bo zs zt ta tb L0 H0 i) z.length c2 ta tb zs zt n0 c0 mi a b l.length bo n0 c0 mi a b l.length bo (vp z) l0 (vi (lo i)) (vi (hi i))
  refine callS_JR hokZ mixed [] (L := fun _ x bl => ∃ i, i ≤ 201 ∧ st i = (x, bl)) Try.func62 rfl (.inr rfl) (pts := [0]) (loops := [0]) (by kernel_rfl) (by kernel_rfl) ?_ (fun id q1 q2 => absurd q1 q2) (fun id hid hlt => ?_) (fun id hid hlt => absurd (by obtain rfl := List.mem_singleton.1 hid; decide) hlt)
  · show git C5 _ (ansRows rd mi a b bo zs zt ta tb L0 H0 0) mi a b bo n0 c0 l0 l.length l.length (vi l) z.length c2 (vp z) ta tb zs zt _
    rw [git_text]
    simp only [vi_whole, bc_t (v1le l), Qv, eq_self, true_and, and_true]
    refine ⟨⟨conCl l (by omega)⟩, ⟨conCl l (by omega)⟩, ?_⟩
    exact ⟨_, _, ⟨rd, l, l, z, R, N, N, rfl, rfl, rfl, rfl, (vp_flat z).symm, rfl, hz, hzz, rfl, rfl⟩, 0, by omega, rfl⟩
  · obtain rfl := List.mem_singleton.1 hid
    refine ⟨⟨Nat, st, fun i => i ≤ 201, fun i => 201 - i, fun s bl h => h, [], [], by kernel_rfl, by kernel_rfl, by decide, ?_⟩⟩
    intro i hi'
    refine ⟨fun _ _ _ => False, ?_, (fun id2 q1 _ => by cases q1), (fun id2 q1 => by cases q1), (fun id2 q1 => by cases q1)⟩
    show rit1 C5 _ i (ansRows rd mi a b bo zs zt ta tb L0 H0 i) z.length c2 ta tb zs zt n0 c0 mi a b l.length bo n0 c0 mi a b l.length bo (vp z) l0 (vi (lo i)) (vi (hi i)) _ _ _
    rw [rit1_text]
    have Nl : NodOK (lo i) := ser_ok R false hs i NL
    have Nh : NodOK (hi i) := ser_ok R true hs i NH
    have el : (lo i).length = l.length := by rw [← eL0]; exact ser_length ..
    have eh : (hi i).length = l.length := by rw [← eH0]; exact ser_length ..
    refine bc_dec (fun h => ?_) (fun h => ?_)
    · have hi2 : i < 201 := by omega
      have q1 : 0 + l.length * 1 ≤ (vi (lo i)).length := by have := v1le (lo i); rwa [el] at this
      have q2 : 0 + l.length * 1 ≤ (vi (hi i)).length := by have := v1le (hi i); rwa [eh] at this
      have c := conan n0 R.len mi a b (lo := lo i) (hi := hi i) (by omega) (by omega) (by omega) bo ta tb
      simp only [dEn, el, eh] at c
      simp only [hT, bc_t hl0, bc_t q1, bc_t q2, vi_tk el, vi_tk eh, Qv, eq_self, true_and, and_true]
      refine ⟨_, ⟨c⟩, _, ⟨ansRows_drop hi2⟩, ⟨_, _, ⟨rd, lo i, hi i, R, Nl, Nh, rfl, el.symm, rfl, eh.symm, hs, ht, rfl, rfl⟩, i + 1, hi2, by omega, ?_⟩, ⟨none, rfl, .inr rfl⟩⟩
      rw [w64 (z := (i : Int) + 1) (by omega) (by omega)]; rfl
    · show (if 0 = 0 then _ else _)
      rw [if_pos rfl]
      show nit2 C5 _ (ansRows rd mi a b bo zs zt ta tb L0 H0 i) _
      rw [nit2_text]
      have e : i = 201 := by omega
      rw [e, show ansRows rd mi a b bo zs zt ta tb L0 H0 201 = [] from rfl]
      exact ⟨some [], rfl, .inl rfl⟩
/-- the error of rules, a slab and a goal -/
def isE (ps : List Pt) (m lo hi : Int) (l : List Int) (bo : Int) (z : List (Int × Int)) (ta tb : Int) : Int := fst0 [fst0 [rulE ps m lo hi, slE l bo], goE z ta tb]
theorem go_ok {z : List (Int × Int)} {a b : Int} (h : goE z a b = 0) : rtE z = 0 ∧ 1 ≤ z.length := by
  unfold goE at h
  by_cases h1 : rtE z = 0
  · rw [if_neg (fun hh => hh h1)] at h
    by_cases h2 : z.length = 0
    · rw [if_pos h2] at h; exact absurd h (by decide)
    · exact ⟨h1, by omega⟩
  · rw [if_pos h1] at h; exact absurd h h1
theorem conIsV (ps : List Pt) (hp : ps.length < 1000000000) (m lo hi : Int) (l : List Int) (hl : l.length < 1000000) (bo : Int) (z : List (Int × Int)) (hz : z.length < 1000000000) (ta tb : Int) (h0 : isE ps m lo hi l bo z ta tb = 0) :
    C5 17 [dRu ps m lo hi, dSl l bo, dGo z ta tb] [dI (rdy ta tb 2 (encP ps m lo hi bo z l)), dI 0] := by
  have h2 : rulE ps m lo hi = 0 ∧ slE l bo = 0 ∧ goE z ta tb = 0 := by
    unfold isE at h0
    rw [fst0_two, fst0_two] at h0
    by_cases q : rulE ps m lo hi = 0
    · by_cases q2 : slE l bo = 0
      · rw [if_pos q, if_pos q2] at h0; exact ⟨q, q2, h0⟩
      · rw [if_pos q, if_neg q2] at h0; exact absurd h0 q2
    · rw [if_neg q, if_neg q] at h0; exact absurd h0 q
  obtain ⟨e1, e2, e3⟩ := h2
  obtain ⟨⟨hv, hl10⟩, hm, ha, hb⟩ := rul_all e1
  obtain ⟨q2, q8, hg, hbo⟩ := sl_ok e2
  obtain ⟨e4, hz1⟩ := go_ok e3
  obtain ⟨hz5, hzz⟩ := rt_ok e4
  have R := radOK hv hl10 hm ha hb hbo
  have N : NodOK l := ⟨q2, q8, hg⟩
  have hlast : z.length - 1 < z.length := by omega
  obtain ⟨hs, -⟩ := hzz z[z.length - 1] (List.getElem_mem hlast)
  refine con_JR hokZ mixed [] (L := fun _ s b => ∃ c0 c2, zIs3 0 0 0 ps.length c0 m lo hi l.length bo z.length c2 ta tb z[z.length - 1].1 1 (vp ps) (vi l) (vp z) = (s, b)) Try.func17 rfl (by show 3 ≤ 400; omega) rfl (pts := [50006]) (loops := [50006]) (by kernel_rfl) (by kernel_rfl) (fun caps _ => ?_) (fun id q1 q2 => absurd q1 q2) (fun id hid hlt => absurd hlt (by obtain rfl := List.mem_singleton.1 hid; decide)) (fun id hid hlt => ?_)
  · show gIs C5 _ ps.length (caps 500) (vp ps) m lo hi l.length (caps 501) (vi l) bo z.length (caps 502) (vp z) ta tb _
    rw [gIs_text]
    simp only [vp_whole, vi_whole, bc_t (v2le ps), bc_t (v1le l), bc_t (v2le z), Qv, eq_self, true_and, and_true]
    refine ⟨_, ⟨conCR ps hp m lo hi⟩, _, ⟨conCS l (by omega) bo⟩, _, ⟨conFE [rulE ps m lo hi, slE l bo] (by simp)⟩, ?_⟩
    have z1 : fst0 [rulE ps m lo hi, slE l bo] = 0 := by rw [fst0_two, if_pos e1]; exact e2
    have z2 : fst0 [0, goE z ta tb] = 0 := by rw [fst0_two, if_pos rfl]; exact e3
    refine bc_bne (fun h => absurd z1 h) (fun _ => ?_)
    refine ⟨⟨conCl l (by omega)⟩, _, ⟨concG z hz ta tb⟩, _, ⟨conFE [0, goE z ta tb] (by simp)⟩, ?_⟩
    refine bc_bne (fun h => absurd z2 h) (fun _ => ?_)
    have hw := w_last (n := z.length) (by omega) (by omega)
    rw [hw]
    refine bc_yes (by omega) (bc_yes (by omega) ⟨_, vp_one z (z.length - 1) hlast, caps 500, caps 502, ?_⟩)
    rfl
  · obtain rfl := List.mem_singleton.1 hid
    refine ⟨⟨?_⟩⟩
    rintro s b ⟨c0, c2, e⟩
    cases e
    show hIs3 0 0 0 ps.length c0 m lo hi l.length bo z.length c2 ta tb z[z.length - 1].1 1 (vp ps) (vi l) (vp z) _
    rw [hIs3_text]
    let rows := ansRows (fun x => rad x ps) m lo hi bo z[z.length - 1].1 1 ta tb (encZ (fun x => rad x ps) false m lo hi bo z l) (encZ (fun x => rad x ps) true m lo hi bo z l) 0
    refine ⟨rows, fun rest s b => rest = rows ∧ zIs4 0 0 0 = (s, b), runIt R N (by omega) hzz hs (by decide) ta tb c0 c2, ⟨rfl, rfl⟩, ?_, ?_⟩
    · rintro row rest s b ⟨e1, e2⟩
      have e1 : row :: rest = ansRows _ _ _ _ _ _ _ _ _ _ _ 0 := e1
      rw [ansRows_drop (by decide)] at e1
      obtain ⟨rfl, rfl⟩ := List.cons.inj e1
      cases e2
      show wIs4 C5 0 0 0 _ _ _ _
      rw [wIs4_text]
      intro caps
      show nIs6 C5 _ 0 0 _ _
      rw [nIs6_text]
      rfl
    · rintro s b ⟨e1, e2⟩
      have e1 : [] = ansRows _ _ _ _ _ _ _ _ _ _ _ 0 := e1
      rw [ansRows_drop (by decide)] at e1
      cases e1
end Go.Proofs.G5j

/- Chapter 2, heating: the reference's enclosure after a step, in data. -/
namespace Go.Proofs.G5j
open Go Go.Abs Go.Proofs Go.Proofs.G2
set_option maxRecDepth 100000
theorem vi_snoc {l : List Int} {i : Nat} (h : i < l.length) : vi (l.take i) ++ [vI l[i]] = vi (l.take (i + 1)) := by
  rw [List.take_succ_eq_append_getElem h, vi, vi, List.map_append]; rfl
theorem consa (l : List Int) (h1 : 1 ≤ l.length) (h3 : l.length ≤ 1000) (bo : Int) : C5 75 [dSl l bo] [.sl l.length 2 (vp (l.zip l))] := by
  have hz : (l.zip l).length = l.length := by simp
  let inv : Nat × Nat → Prop := fun x => x.1 ≤ l.length
  let st : Nat × Nat → Slots × Blocks := fun x => match x.1 with
    | 0 => zsa1 ((0 : Nat) : Int) l.length x.2 bo (vi l)
    | i + 1 => zsa2 (i + 1) ((i + 1 : Nat) : Int) l.length x.2 bo (vp ((l.zip l).take (i + 1))) (vi l)
  refine con_of (L := fun _ s b => ∃ x, inv x ∧ st x = (s, b)) hokZ mixed Try.func75 rfl (by show 1 ≤ 400; omega) rfl (ids := [0]) (by kernel_rfl) rfl (fun caps => ?_) (fun id hid => ?_)
  · show gsa _ _ l.length (caps 500) (vi l) bo _
    rw [gsa_text]
    exact ⟨(0, caps 500), Nat.zero_le _, rfl⟩
  · obtain rfl := List.mem_singleton.1 hid
    refine ⟨_, st, inv, fun x => l.length - x.1, ⟨fun s b h => h, by kernel_rfl, ?_⟩⟩
    rintro ⟨i, c⟩ hi'
    have hi' : i ≤ l.length := hi'
    cases i with
    | zero =>
      show rsa1 _ _ ((0 : Nat) : Int) l.length c bo (vi l) _ _ _
      rw [rsa1_text]
      have p0 : (0 : Int) ≤ ((0 : Nat) : Int) := by omega
      have p1 : ((0 : Nat) : Int) < (l.length : Int) := by omega
      simp only [bc_t p0, bc_t p1, Int.toNat_natCast, at1 (vi_at l 0 (show 0 < l.length by omega)), Qv, eq_self, true_and, and_true]
      refine ⟨(1, c), by show 1 ≤ l.length; omega, by show l.length - 1 < l.length - 0; omega, ?_⟩
      have e := vp_snoc (l := l.zip l) (i := 0) (by omega)
      rw [List.getElem_zip] at e
      show zsa2 _ _ _ _ _ (vp ((l.zip l).take (0 + 1))) _ = _
      rw [← e, w64 (by omega) (by omega)]; rfl
    | succ i =>
      show rsa2 _ _ (i + 1) ((i + 1 : Nat) : Int) l.length c bo (vp ((l.zip l).take (i + 1))) (vi l) _ _ _
      rw [rsa2_text]
      have hT : ((l.zip l).take (i + 1)).length = i + 1 := by rw [List.length_take, hz]; omega
      refine bc_dec (fun h => ?_) (fun h => ?_)
      · have h2 : i + 1 < l.length := by omega
        have p0 : (0 : Int) ≤ ((i + 1 : Nat) : Int) := by omega
        simp only [bc_t p0, bc_t h, Int.toNat_natCast, at1 (vi_at l (i + 1) h2), Qv, eq_self, true_and, and_true]
        refine bc_yes (by omega) (bc_yes (by omega) (bc_yes (by omega) (bc_yes (by rw [vp_length, hT]; omega) (bc_yes (by rw [vp_length, hT]; omega) ?_))))
        refine ⟨(i + 2, c), by show i + 2 ≤ l.length; omega, by show l.length - (i + 2) < l.length - (i + 1); omega, ?_⟩
        have e := vp_snoc (l := l.zip l) (i := i + 1) (by omega)
        rw [List.getElem_zip] at e
        show zsa2 _ _ _ _ _ (vp ((l.zip l).take (i + 1 + 1))) _ = _
        rw [← e, vp_tk hT, w64 (by omega) (by omega)]; rfl
      · show (if 0 = 0 then _ else _)
        rw [if_pos rfl]
        show nsa4 _ _ (i + 1) (vp ((l.zip l).take (i + 1))) _
        rw [nsa4_text]
        have e : i + 1 = l.length := by omega
        rw [e, List.take_of_length_le (by omega)]
        exact ⟨⟨rfl, by rw [vp_length, hz]⟩, rfl⟩
theorem halfR_half (ps : List Pt) (em set s x : Int) : halfR (fun x => rad x ps) em (rad set ps) s x = half ps em set s x := rfl
theorem lowL2 {ps : List Pt} {a b set s x : Int} : (if half ps b set s x < half ps a set s x then half ps b set s x else half ps a set s x) = lowR (fun x => rad x ps) false a b (rad set ps) (rad set ps) s x := by
  have h := lowL (rd := fun x => rad x ps) (a := a) (b := b) (r := rad set ps) (s := s) (x := x)
  simp only [halfR_half] at h
  exact h
theorem lowH2 {ps : List Pt} {a b set s x : Int} : (if half ps b set s x > half ps a set s x then half ps b set s x else half ps a set s x) = lowR (fun x => rad x ps) true a b (rad set ps) (rad set ps) s x := by
  have h := lowH (rd := fun x => rad x ps) (a := a) (b := b) (r := rad set ps) (s := s) (x := x)
  simp only [halfR_half] at h
  exact h
theorem conen {ps : List Pt} (hv : OkT ps) (hl : ps.length ≤ 10) {m a b bo set : Int} (hm : 0 ≤ m ∧ m ≤ 50) (ha : 0 ≤ a ∧ a ≤ 1000) (hb : 0 ≤ b ∧ b ≤ 1000) (hbo : 0 ≤ bo ∧ bo ≤ 1000) (hs : 0 ≤ set ∧ set ≤ 20000) {l r : List Int} (N : NodOK l) (M : NodOK r) (hlr : r.length = l.length) :
    C5 66 [dRu ps m a b, dI bo, .sl l.length 2 (vp (l.zip r)), dI set] [.sl l.length 2 (vp ((encS (fun x => rad x ps) false m a b (rad set ps) (rad set ps) bo l).zip (encS (fun x => rad x ps) true m a b (rad set ps) (rad set ps) bo r)))] := by
  have h2 := N.two
  have h8 := N.few
  have hz : (l.zip r).length = l.length := by rw [List.length_zip, hlr, Nat.min_self]
  have R := radOK hv hl hm ha hb hbo
  let rd : Int → Int := fun x => rad x ps
  let L1 := encS rd false m a b (rad set ps) (rad set ps) bo l
  let H1 := encS rd true m a b (rad set ps) (rad set ps) bo r
  have eL : L1.length = l.length := encS_length ..
  have eH : H1.length = l.length := by rw [← hlr]; exact encS_length ..
  have hz1 : (L1.zip H1).length = l.length := by rw [List.length_zip, eL, eH, Nat.min_self]
  let inv : Nat × Nat × Nat → Prop := fun x => x.1 ≤ l.length
  let st0 : Nat × Nat × Nat → Slots × Blocks := fun x => match x.1 with
    | 0 => zen1 bo l.length x.2.1 set ((0 : Nat) : Int) (vp (l.zip r)) ps.length x.2.2 m a b (vp ps)
    | i + 1 => zen2 bo l.length x.2.1 set (i + 1) (i + 1) ((i + 1 : Nat) : Int) (vp (l.zip r)) ps.length x.2.2 m a b (vi (l.take (i + 1))) (vi (r.take (i + 1))) (vp ps)
  let st2 : Nat × Nat × Nat → Slots × Blocks := fun x => match x.1 with
    | 0 => zen8 l.length x.2.1 l.length l.length ((0 : Nat) : Int) (vp (l.zip r)) (vi L1) (vi H1)
    | i + 1 => zen10 l.length x.2.1 l.length l.length (i + 1) ((i + 1 : Nat) : Int) (vp (l.zip r)) (vi L1) (vi H1) (vp ((L1.zip H1).take (i + 1)))
  refine con_of (L := fun id s b => match id with | 0 => ∃ x, inv x ∧ st0 x = (s, b) | _ => ∃ x, inv x ∧ st2 x = (s, b)) hokZ mixed Try.func66 rfl (by show 2 ≤ 400; omega) rfl (ids := [0, 2]) (by kernel_rfl) rfl (fun caps => ?_) (fun id hid => ?_)
  · show gen _ _ ps.length (caps 500) (vp ps) m a b bo l.length (caps 501) (vp (l.zip r)) set _
    rw [gen_text]
    exact ⟨(0, caps 501, caps 500), Nat.zero_le _, rfl⟩
  · have hid : id = 0 ∨ id = 2 := by simpa using hid
    rcases hid with rfl | rfl
    · refine ⟨_, st0, inv, fun x => l.length - x.1, ⟨fun s b h => h, by kernel_rfl, ?_⟩⟩
      rintro ⟨i, c1, c2⟩ hi'
      have hi' : i ≤ l.length := hi'
      have facts : ∀ h : i < l.length, At (vp (l.zip r)) (0 + i * 2) 1 [vI l[i]] ∧ At (vp (l.zip r)) (Addr.off { block := 501, off := 0 + i * 2 } + 1) 1 [vI r[i]] := fun h => by
        have e1 := vp_one (l.zip r) i (by omega)
        have e2 := vp_sndA (l.zip r) i (by omega) 501
        rw [List.getElem_zip] at e1 e2
        exact ⟨e1, e2⟩
      cases i with
      | zero =>
        show ren1 _ _ bo l.length c1 set ((0 : Nat) : Int) (vp (l.zip r)) ps.length c2 m a b (vp ps) _ _ _
        rw [ren1_text]
        obtain ⟨a1, a2⟩ := facts (by omega)
        have p0 : (0 : Int) ≤ ((0 : Nat) : Int) := by omega
        have p1 : ((0 : Nat) : Int) < (l.length : Int) := by omega
        simp only [bc_t p0, bc_t p1, Int.toNat_natCast, at1 a1, at1 a2, Qv, eq_self, true_and, and_true]
        refine ⟨(1, c1, c2), by show 1 ≤ l.length; omega, by show l.length - 1 < l.length - 0; omega, ?_⟩
        have e1 := vi_snoc (l := l) (i := 0) (by omega)
        have e2 := vi_snoc (l := r) (i := 0) (by omega)
        show zen2 _ _ _ _ _ _ _ _ _ _ _ _ _ (vi (l.take (0 + 1))) (vi (r.take (0 + 1))) _ = _
        rw [← e1, ← e2, w64 (by omega) (by omega)]; rfl
      | succ i =>
        show ren2 _ _ bo l.length c1 set (i + 1) (i + 1) ((i + 1 : Nat) : Int) (vp (l.zip r)) ps.length c2 m a b (vi (l.take (i + 1))) (vi (r.take (i + 1))) (vp ps) _ _ _
        rw [ren2_text]
        have t1 : (l.take (i + 1)).length = i + 1 := by rw [List.length_take]; omega
        have t2 : (r.take (i + 1)).length = i + 1 := by rw [List.length_take]; omega
        refine bc_dec (fun h => ?_) (fun h => ?_)
        · have hi2 : i + 1 < l.length := by omega
          obtain ⟨a1, a2⟩ := facts hi2
          have p0 : (0 : Int) ≤ ((i + 1 : Nat) : Int) := by omega
          simp only [bc_t p0, bc_t h, Int.toNat_natCast, at1 a1, at1 a2, Qv, eq_self, true_and, and_true]
          have u1 := v1le (l.take (i + 1))
          have u2 := v1le (r.take (i + 1))
          have w1 : (vi (l.take (i + 1))).length = i + 1 := by rw [vi, List.length_map, t1]
          have w2 : (vi (r.take (i + 1))).length = i + 1 := by rw [vi, List.length_map, t2]
          refine bc_yes (by omega) (bc_yes (by omega) (bc_yes (by omega) (bc_yes (by omega) (bc_yes (by omega) (bc_yes (by omega) (bc_yes (by omega) (bc_yes (by omega) (bc_yes (by omega) (bc_yes (by omega) ?_)))))))))
          refine ⟨(i + 2, c1, c2), by show i + 2 ≤ l.length; omega, by show l.length - (i + 2) < l.length - (i + 1); omega, ?_⟩
          have e1 := vi_snoc (l := l) (i := i + 1) (by omega)
          have e2 := vi_snoc (l := r) (i := i + 1) (by omega)
          show zen2 _ _ _ _ _ _ _ _ _ _ _ _ _ (vi (l.take (i + 1 + 1))) (vi (r.take (i + 1 + 1))) _ = _
          rw [← e1, ← e2, vi_tk t1, vi_tk t2, w64 (by omega) (by omega)]; rfl
        · show (if 0 = 0 then _ else _)
          rw [if_pos rfl]
          have e : i + 1 = l.length := by omega
          show nen4 _ _ bo l.length c1 set (i + 1) (i + 1) (vp (l.zip r)) ps.length c2 m a b (vi (l.take (i + 1))) (vi (r.take (i + 1))) (vp ps) _
          rw [e, List.take_of_length_le (by omega), List.take_of_length_le (by omega), nen4_text]
          have hlast : l.length - 1 < (l.zip r).length := by omega
          have hfirst : 0 < (l.zip r).length := by omega
          have a0 : At (vp (l.zip r)) 0 1 [vI (gd l 0)] := by
            have e := vp_one (l.zip r) 0 hfirst
            rw [List.getElem_zip, gd_at] at e; exact e
          have a1 : At (vp (l.zip r)) 1 1 [vI (gd r 0)] := by
            have e := vp_snd (l.zip r) 0 hfirst
            rw [List.getElem_zip] at e
            rw [← gd_at (show 0 < r.length by omega)]; exact e
          have b0 : At (vp (l.zip r)) (0 + (l.length - 1) * 2) 1 [vI (gd l (l.length - 1))] := by
            have e := vp_one (l.zip r) (l.length - 1) hlast
            rw [List.getElem_zip] at e
            rw [← gd_at (show l.length - 1 < l.length by omega)]; exact e
          have b1 : At (vp (l.zip r)) (Addr.off { block := 501, off := 0 + (l.length - 1) * 2 } + 1) 1 [vI (gd r (l.length - 1))] := by
            have e := vp_sndA (l.zip r) (l.length - 1) hlast 501
            rw [List.getElem_zip] at e
            rw [← gd_at (show l.length - 1 < r.length by omega)]; exact e
          have p0 : (0 : Int) < (l.length : Int) := by omega
          have z0 : (0 : Int) ≤ ((l.length - 1 : Nat) : Int) := by omega
          have z1 : ((l.length - 1 : Nat) : Int) < (l.length : Int) := by omega
          have g0 := N.all _ (gd_mem (l := l) (i := 0) (by omega))
          have g1 := N.all _ (gd_mem (l := l) (i := l.length - 1) (by omega))
          have k0 := M.all _ (gd_mem (l := r) (i := 0) (by omega))
          have k1 := M.all _ (gd_mem (l := r) (i := l.length - 1) (by omega))
          simp only [w_last (show 0 < l.length by omega) (by omega), bc_t p0, bc_t z0, bc_t z1, Int.toNat_natCast, at1 a0, at1 a1, at1 b0, at1 b1, vp_whole, bc_t (v2le ps), Qv, eq_self, true_and, and_true]
          have nl : (vi l).length = l.length := by rw [vi, List.length_map]
          have nr : (vi r).length = l.length := by rw [vi, List.length_map, hlr]
          refine ⟨_, ⟨conlw hv hl m a b ha hbo g0⟩, _, ⟨conlw hv hl m a b hb hbo g0⟩, bc_yes (by omega) ?_⟩
          refine ⟨_, ⟨conlw hv hl m a b ha hbo k0⟩, _, ⟨conlw hv hl m a b hb hbo k0⟩, bc_yes (by omega) ?_⟩
          simp only [lowL2, lowH2, set0 _ _ (show 0 < l.length by omega), set0 _ _ (show 0 < r.length by omega)]
          refine ⟨_, ⟨conup hv hl m a b ha g1⟩, _, ⟨conup hv hl m a b hb g1⟩, bc_yes (by simp; omega) ?_⟩
          refine ⟨_, ⟨conup hv hl m a b ha k1⟩, _, ⟨conup hv hl m a b hb k1⟩, bc_yes (by simp; omega) ?_⟩
          have s1 : ∀ v w : Int, listSet (vi (l.set 0 v)) (0 + (l.length - 1) * 1) [vI w] = vi ((l.set 0 v).set (l.length - 1) w) := fun v w => listSet_vi _ _ _ (by simp; omega)
          have s2 : ∀ v w : Int, listSet (vi (r.set 0 v)) (0 + (l.length - 1) * 1) [vI w] = vi ((r.set 0 v).set (l.length - 1) w) := fun v w => listSet_vi _ _ _ (by simp; omega)
          have t1 : ∀ v w : Int, List.take (l.length * 1) (List.drop 0 (vi ((l.set 0 v).set (l.length - 1) w))) = vi ((l.set 0 v).set (l.length - 1) w) := fun v w => vi_tk (by simp)
          have t2 : ∀ v w : Int, List.take (l.length * 1) (List.drop 0 (vi ((r.set 0 v).set (l.length - 1) w))) = vi ((r.set 0 v).set (l.length - 1) w) := fun v w => vi_tk (by simp; omega)
          have y1 : ∀ v w : Int, 0 + l.length * 1 ≤ (vi ((l.set 0 v).set (l.length - 1) w)).length := fun v w => by simp
          have y2 : ∀ v w : Int, 0 + l.length * 1 ≤ (vi ((r.set 0 v).set (l.length - 1) w)).length := fun v w => by simp; omega
          simp only [lowL2, lowH2, s1, s2, t1, t2, bc_t (y1 _ _), bc_t (y2 _ _)]
          have f1 : ∀ z ∈ (l.set 0 (lowR rd false a b (rd set) (rd set) bo (gd l 0))).set (l.length - 1) (lowR rd false a b (rd set) (rd set) 1000 (gd l (l.length - 1))), 0 ≤ z ∧ z ≤ 20000 := encF_in (up := false) R hs N
          have f2 : ∀ z ∈ (r.set 0 (lowR rd true a b (rd set) (rd set) bo (gd r 0))).set (l.length - 1) (lowR rd true a b (rd set) (rd set) 1000 (gd r (l.length - 1))), 0 ≤ z ∧ z ≤ 20000 := by rw [← hlr]; exact encF_in (up := true) R hs M
          have c1' := conMi ps m a b hm ((l.set 0 (lowR rd false a b (rd set) (rd set) bo (gd l 0))).set (l.length - 1) (lowR rd false a b (rd set) (rd set) 1000 (gd l (l.length - 1)))) (by simp; omega) (by simp; omega) (fun i hi => by have := f1 _ (gd_mem hi); omega)
          have c2' := conMi ps m a b hm ((r.set 0 (lowR rd true a b (rd set) (rd set) bo (gd r 0))).set (l.length - 1) (lowR rd true a b (rd set) (rd set) 1000 (gd r (l.length - 1)))) (by simp; omega) (by simp; omega) (fun i hi => by have := f2 _ (gd_mem hi); omega)
          rw [show ((l.set 0 (lowR rd false a b (rd set) (rd set) bo (gd l 0))).set (l.length - 1) (lowR rd false a b (rd set) (rd set) 1000 (gd l (l.length - 1)))).length = l.length by simp] at c1'
          rw [show ((r.set 0 (lowR rd true a b (rd set) (rd set) bo (gd r 0))).set (l.length - 1) (lowR rd true a b (rd set) (rd set) 1000 (gd r (l.length - 1)))).length = l.length by simp; omega] at c2'
          refine .inr ⟨_, _, ⟨c1'⟩, ?_⟩
          refine .inr ⟨_, _, ⟨c2'⟩, ?_⟩
          refine ⟨(0, c1, c2), Nat.zero_le _, ?_⟩
          have q1 : L1 = mixL m ((l.set 0 (lowR rd false a b (rd set) (rd set) bo (gd l 0))).set (l.length - 1) (lowR rd false a b (rd set) (rd set) 1000 (gd l (l.length - 1)))) := rfl
          have q2 : H1 = mixL m ((r.set 0 (lowR rd true a b (rd set) (rd set) bo (gd r 0))).set (l.length - 1) (lowR rd true a b (rd set) (rd set) 1000 (gd r (l.length - 1)))) := by rw [← hlr]; rfl
          show zen8 _ _ _ _ _ _ (vi L1) (vi H1) = _
          rw [q1, q2]; rfl
    · refine ⟨_, st2, inv, fun x => l.length - x.1, ⟨fun s b h => h, by kernel_rfl, ?_⟩⟩
      rintro ⟨i, c1, c2⟩ hi'
      have hi' : i ≤ l.length := hi'
      cases i with
      | zero =>
        show ren8 _ _ l.length c1 l.length l.length ((0 : Nat) : Int) (vp (l.zip r)) (vi L1) (vi H1) _ _ _
        rw [ren8_text]
        have p0 : (0 : Int) ≤ ((0 : Nat) : Int) := by omega
        have p1 : ((0 : Nat) : Int) < (l.length : Int) := by omega
        simp only [bc_t p0, bc_t p1, Int.toNat_natCast, at1 (vi_at L1 0 (show 0 < L1.length by omega)), at1 (vi_at H1 0 (show 0 < H1.length by omega)), Qv, eq_self, true_and, and_true]
        refine ⟨(1, c1, c2), by show 1 ≤ l.length; omega, by show l.length - 1 < l.length - 0; omega, ?_⟩
        have e1 := vp_snoc (l := L1.zip H1) (i := 0) (by omega)
        rw [List.getElem_zip] at e1
        show zen10 _ _ _ _ _ _ _ _ _ (vp ((L1.zip H1).take (0 + 1))) = _
        rw [← e1, w64 (by omega) (by omega)]; rfl
      | succ i =>
        show ren10 _ _ l.length c1 l.length l.length (i + 1) ((i + 1 : Nat) : Int) (vp (l.zip r)) (vi L1) (vi H1) (vp ((L1.zip H1).take (i + 1))) _ _ _
        rw [ren10_text]
        have hT : ((L1.zip H1).take (i + 1)).length = i + 1 := by rw [List.length_take, hz1]; omega
        refine bc_dec (fun h => ?_) (fun h => ?_)
        · have hi2 : i + 1 < l.length := by omega
          have p0 : (0 : Int) ≤ ((i + 1 : Nat) : Int) := by omega
          simp only [bc_t p0, bc_t h, Int.toNat_natCast, at1 (vi_at L1 (i + 1) (show i + 1 < L1.length by omega)), at1 (vi_at H1 (i + 1) (show i + 1 < H1.length by omega)), Qv, eq_self, true_and, and_true]
          refine bc_yes (by omega) (bc_yes (by omega) (bc_yes (by omega) (bc_yes (by rw [vp_length, hT]; omega) (bc_yes (by rw [vp_length, hT]; omega) ?_))))
          refine ⟨(i + 2, c1, c2), by show i + 2 ≤ l.length; omega, by show l.length - (i + 2) < l.length - (i + 1); omega, ?_⟩
          have e1 := vp_snoc (l := L1.zip H1) (i := i + 1) (by omega)
          rw [List.getElem_zip] at e1
          show zen10 _ _ _ _ _ _ _ _ _ (vp ((L1.zip H1).take (i + 1 + 1))) = _
          rw [← e1, vp_tk hT, w64 (by omega) (by omega)]; rfl
        · show (if 2 = 2 then _ else _)
          rw [if_pos rfl]
          show nen11 _ _ (i + 1) (vp ((L1.zip H1).take (i + 1))) _
          rw [nen11_text]
          have e : i + 1 = l.length := by omega
          rw [e, List.take_of_length_le (by omega)]
          exact ⟨⟨rfl, by rw [vp_length, hz1]⟩, rfl⟩
end Go.Proofs.G5j

/- Chapter 2, heating: the reference's enclosure after a route, in data. -/
namespace Go.Proofs.G5j
open Go Go.Abs Go.Proofs Go.Proofs.G2
set_option maxRecDepth 100000
theorem conrO {ps : List Pt} (hv : OkT ps) (hl : ps.length ≤ 10) {m a b bo : Int} (hm : 0 ≤ m ∧ m ≤ 50) (ha : 0 ≤ a ∧ a ≤ 1000) (hb : 0 ≤ b ∧ b ≤ 1000) (hbo : 0 ≤ bo ∧ bo ≤ 1000) {l : List Int} (N : NodOK l) {z : List (Int × Int)} (hz : z.length ≤ 1000) (hzz : OkZ z) :
    C5 64 [dRu ps m a b, dSl l bo, .sl z.length 2 (vp z)] [.sl l.length 2 (vp (encP ps m a b bo z l))] := by
  have h2 := N.two
  have h8 := N.few
  have R := radOK hv hl hm ha hb hbo
  let rd : Int → Int := fun x => rad x ps
  let Lz : Nat → List Int := fun i => encZ rd false m a b bo (z.take i) l
  let Hz : Nat → List Int := fun i => encZ rd true m a b bo (z.take i) l
  have nL : ∀ i, (Lz i).length = l.length := fun i => encZ_length ..
  have nH : ∀ i, (Hz i).length = l.length := fun i => encZ_length ..
  have kL : ∀ i, NodOK (Lz i) := fun i => encZ_ok R false _ (fun p hp => hzz p (List.mem_of_mem_take hp)) N
  have kH : ∀ i, NodOK (Hz i) := fun i => encZ_ok R true _ (fun p hp => hzz p (List.mem_of_mem_take hp)) N
  let inv : Nat × Nat × Nat × Nat → Prop := fun x => x.1 ≤ z.length
  let st : Nat × Nat × Nat × Nat → Slots × Blocks := fun x => zrO2 z.length x.2.1 l.length x.1 (vp z) ps.length x.2.2.1 m a b l.length x.2.2.2 bo (vp ((Lz x.1).zip (Hz x.1))) (vp ps) (vi l)
  refine con_J hokZ mixed [] (L := fun _ s' bl => ∃ y, inv y ∧ st y = (s', bl)) Try.func64 rfl (by show 3 ≤ 400; omega) rfl (pts := [0]) (loops := [0]) (by kernel_rfl) (by kernel_rfl) (fun caps _ => ?_) (fun id q1 q2 => absurd q1 q2) (fun id hid => ?_)
  · show grO _ _ ps.length (caps 500) (vp ps) m a b l.length (caps 501) (vi l) bo z.length (caps 502) (vp z) _
    rw [grO_text]
    simp only [vi_whole, bc_t (v1le l)]
    exact .inr ⟨_, _, ⟨consa l (by omega) (by omega) bo⟩, (0, caps 502, caps 500, caps 501), Nat.zero_le _, rfl⟩
  · obtain rfl := List.mem_singleton.1 hid
    refine ⟨⟨_, st, inv, fun y => z.length - y.1, fun s' bl h => h, [2], [2], by kernel_rfl, by kernel_rfl, ?_⟩⟩
    rintro ⟨i, c1, c2, c3⟩ hi
    have hi : i ≤ z.length := hi
    let li : Nat → List Int := fun k => encN rd false m a b (rd (z.getD i (0, 0)).1) (rd (z.getD i (0, 0)).1) bo k (Lz i)
    let ri : Nat → List Int := fun k => encN rd true m a b (rd (z.getD i (0, 0)).1) (rd (z.getD i (0, 0)).1) bo k (Hz i)
    have nl : ∀ k, (li k).length = l.length := fun k => by rw [← nL i]; exact encN_length ..
    have nr : ∀ k, (ri k).length = l.length := fun k => by rw [← nH i]; exact encN_length ..
    refine ⟨fun _ s' bl => ∃ k : Nat, (i < z.length ∧ (k : Int) ≤ (z.getD i (0, 0)).2) ∧ zrO5 z.length c1 l.length i (k : Int) (vp z) ps.length c2 m a b l.length c3 bo (vp ((li k).zip (ri k))) (vp ps) (vi l) = (s', bl), ?_, fun id2 q1 q2 => absurd q1 q2, fun id2 hid2 => ?_⟩
    · show rrO2 _ _ z.length c1 l.length i (vp z) ps.length c2 m a b l.length c3 bo (vp ((Lz i).zip (Hz i))) (vp ps) (vi l) _ _ _
      rw [rrO2_text]
      refine bc_dec (fun h => ?_) (fun h => ?_)
      · have hi1 : i < z.length := by omega
        have hq := hzz z[i] (List.getElem_mem hi1)
        refine ⟨0, ⟨hi1, ?_⟩, rfl⟩
        rw [List.getD_eq_getElem?_getD, List.getElem?_eq_getElem hi1]; exact hq.2.1
      · show (if 0 = 0 then _ else _)
        rw [if_pos rfl]
        show nrO6 _ _ l.length (vp ((Lz i).zip (Hz i))) _
        rw [nrO6_text]
        have e : i = z.length := by omega
        refine ⟨⟨rfl, by rw [vp_length, List.length_zip, nL, nH, Nat.min_self]⟩, ?_⟩
        have e1 : Lz i = encR ps false m a b bo z l := by show encZ _ _ _ _ _ _ (z.take i) l = _; rw [e, List.take_length]; rfl
        have e2 : Hz i = encR ps true m a b bo z l := by show encZ _ _ _ _ _ _ (z.take i) l = _; rw [e, List.take_length]; rfl
        rw [e1, e2]
    · obtain rfl := List.mem_singleton.1 hid2
      refine ⟨⟨Nat, fun k => zrO5 z.length c1 l.length i (k : Int) (vp z) ps.length c2 m a b l.length c3 bo (vp ((li k).zip (ri k))) (vp ps) (vi l), fun k => i < z.length ∧ (k : Int) ≤ (z.getD i (0, 0)).2, fun k => (z.getD i (0, 0)).2.toNat - k, fun s' bl h => h, [], by kernel_rfl, by kernel_rfl, fun k hk' => ⟨fun _ _ _ => False, ?_, fun id3 h3 => by cases h3⟩⟩⟩
      obtain ⟨hi1, hkc⟩ := hk'
      have ez : z.getD i (0, 0) = z[i] := by rw [List.getD_eq_getElem?_getD, List.getElem?_eq_getElem hi1]; rfl
      obtain ⟨hs, ht⟩ := hzz z[i] (List.getElem_mem hi1)
      have Nl : NodOK (li k) := by show NodOK (encN _ _ _ _ _ (rd (z.getD i (0, 0)).1) (rd (z.getD i (0, 0)).1) _ _ _); rw [ez]; exact encN_ok R hs k (kL i)
      have Nr : NodOK (ri k) := by show NodOK (encN _ _ _ _ _ (rd (z.getD i (0, 0)).1) (rd (z.getD i (0, 0)).1) _ _ _); rw [ez]; exact encN_ok R hs k (kH i)
      have hzl : ((li k).zip (ri k)).length = l.length := by rw [List.length_zip, nl, nr, Nat.min_self]
      show rrO5 _ _ z.length c1 l.length i (k : Int) (vp z) ps.length c2 m a b l.length c3 bo (vp ((li k).zip (ri k))) (vp ps) (vi l) _ _ _
      rw [rrO5_text]
      have p0 : (0 : Int) ≤ (i : Int) := by omega
      have p1 : (i : Int) < (z.length : Int) := by omega
      have a0 : At (vp z) (0 + i * 2) 1 [vI z[i].1] := vp_one z i hi1
      have a1 : At (vp z) (Addr.off { block := 502, off := 0 + i * 2 } + 1) 1 [vI z[i].2] := vp_sndA z i hi1 502
      have y1 : 0 + l.length * 2 ≤ (vp ((li k).zip (ri k))).length := by rw [vp_length, hzl]; omega
      simp only [bc_t p0, bc_t p1, Int.toNat_natCast, at1 a0, at1 a1]
      refine bc_dec (fun h => ?_) (fun h => ?_)
      · simp only [vp_whole, bc_t (v2le ps), bc_t y1, vp_tk hzl, true_and, and_true]
        have c := conen hv hl hm ha hb hbo hs Nl Nr (by rw [nl, nr])
        rw [nl] at c
        refine .inr ⟨_, _, ⟨c⟩, k + 1, ⟨hi1, by rw [ez]; omega⟩, by rw [ez]; omega, ?_⟩
        have s1 : li (k + 1) = encS rd false m a b (rad z[i].1 ps) (rad z[i].1 ps) bo (li k) := by
          show encN _ _ _ _ _ (rd (z.getD i (0, 0)).1) (rd (z.getD i (0, 0)).1) _ (k + 1) _ = encS _ _ _ _ _ _ _ _ (encN _ _ _ _ _ (rd (z.getD i (0, 0)).1) (rd (z.getD i (0, 0)).1) _ k _)
          rw [ez, encN_succ]
        have s2 : ri (k + 1) = encS rd true m a b (rad z[i].1 ps) (rad z[i].1 ps) bo (ri k) := by
          show encN _ _ _ _ _ (rd (z.getD i (0, 0)).1) (rd (z.getD i (0, 0)).1) _ (k + 1) _ = encS _ _ _ _ _ _ _ _ (encN _ _ _ _ _ (rd (z.getD i (0, 0)).1) (rd (z.getD i (0, 0)).1) _ k _)
          rw [ez, encN_succ]
        show zrO5 _ _ _ _ ((k + 1 : Nat) : Int) _ _ _ _ _ _ _ _ _ (vp ((li (k + 1)).zip (ri (k + 1)))) _ _ = _
        rw [s1, s2, w64 (by omega) (by omega)]; rfl
      · simp only [if_true]
        show irO8 C5 _ z.length c1 l.length i (vp z) ps.length c2 m a b l.length c3 bo (vp ((li k).zip (ri k))) (vp ps) (vi l) _ _ _
        rw [irO8_text]
        have ek : k = z[i].2.toNat := by rw [ez] at hkc; omega
        refine ⟨(i + 1, c1, c2, c3), by show i + 1 ≤ z.length; omega, by show z.length - (i + 1) < z.length - i; omega, ?_⟩
        have s1 : Lz (i + 1) = li k := by
          show encZ _ _ _ _ _ _ (z.take (i + 1)) l = encN _ _ _ _ _ (rd (z.getD i (0, 0)).1) (rd (z.getD i (0, 0)).1) _ k _
          rw [encZ_snoc _ _ _ _ _ _ hi1, ez, ek]
        have s2 : Hz (i + 1) = ri k := by
          show encZ _ _ _ _ _ _ (z.take (i + 1)) l = encN _ _ _ _ _ (rd (z.getD i (0, 0)).1) (rd (z.getD i (0, 0)).1) _ k _
          rw [encZ_snoc _ _ _ _ _ _ hi1, ez, ek]
        show zrO2 _ _ _ ((i + 1 : Nat) : Int) _ _ _ _ _ _ _ _ _ (vp ((Lz (i + 1)).zip (Hz (i + 1)))) _ _ = _
        rw [s1, s2, w64 (by omega) (by omega)]; rfl
end Go.Proofs.G5j

/- Short names for what stands often in printed texts of laws. -/
namespace Go.Abs
abbrev Tk (n k : Nat) (l : List Value) : List Value := List.take (n * k) (List.drop 0 l)
abbrev Dw (n k : Nat) (l : List Value) : D := .sl n k (Tk n k l)
abbrev dL (n k : Nat) (l : List Value) : Bool := decide (0 + n * k ≤ List.length l)
abbrev kT : List D := [.val (.bool true)]
abbrev kF : List D := [.val (.bool false)]
end Go.Abs

/- Chapter 2, heating: the reference's answer; comparison, copies. -/
namespace Go.Proofs.G5j
open Go Go.Abs Go.Proofs Go.Proofs.G2
set_option maxRecDepth 100000
theorem bc_nf {a : Int} {x y : Prop} : bcase (a != a) x y = y := by rw [show (a != a) = false by simp]; rfl
theorem bc_qt {a : Int} {x y : Prop} : bcase (a == a) x y = x := by rw [show (a == a) = true by simp]; rfl
theorem bc_q {a b : Int} {x y : Prop} (h : a ≠ b) : bcase (a == b) x y = y := by rw [show (a == b) = false by simpa using h]; rfl
theorem conyR (z : List (Int × Int)) (hl : z.length ≤ 1000000) : C5 15 [.sl z.length 2 (vp z)] [.sl z.length 2 (vp z)] := by
  refine con_flat hokE mixed Try.func15 rfl (by show 1 ≤ 400; omega) rfl (by kernel_rfl) (fun caps => ?_)
  show gyR _ _ z.length (caps 500) (vp z) _
  rw [gyR_text]
  try simp only [eq_self, true_and, and_true]
  refine bc_yes (by simp) (bc_beq (fun h0 => ?_) (fun h0 => bc_yes (by omega) (bc_yes (by omega) (bc_yes (by omega) ⟨by simp, ?_⟩))))
  · obtain rfl : z = [] := List.length_eq_zero_iff.1 h0
    rfl
  · rw [vp_whole, Nat.zero_add, List.nil_append]
theorem conyRn : C5 15 [.nil] [.sl 0 2 []] := by
  refine con_flat hokE mixed Try.func15 rfl (by show 0 ≤ 400; omega) rfl (by kernel_rfl) (fun caps => ?_)
  show gyRn _ _ _
  rw [gyRn_text]
  exact ⟨⟨rfl, rfl⟩, rfl⟩
theorem conyG (z : List (Int × Int)) (hl : z.length ≤ 1000000) (a b : Int) : C5 19 [dGo z a b] [dGo z a b] := by
  refine con_flat hokZ mixed Try.func19 rfl (by show 1 ≤ 400; omega) rfl (by kernel_rfl) (fun caps => ?_)
  show gyG _ _ z.length (caps 500) (vp z) a b _
  rw [gyG_text]
  simp only [vp_whole, bc_t (v2le z), Qv, eq_self, true_and, and_true]
  exact .inr ⟨_, _, ⟨conyR z hl⟩, by simp, rfl⟩
theorem conyGn (a b : Int) : C5 19 [dGn a b] [dGo [] a b] := by
  refine con_flat hokZ mixed Try.func19 rfl (by show 0 ≤ 400; omega) rfl (by kernel_rfl) (fun caps => ?_)
  show gyGn _ _ a b _
  rw [gyGn_text]
  simp only [Qv, eq_self, true_and, and_true]
  exact .inr ⟨_, _, ⟨conyRn⟩, by simp, rfl⟩
end Go.Proofs.G5j

/- Chapter 2, heating: the earliest discharge, the maximum delay. -/
namespace Go.Proofs.G5j
open Go Go.Abs Go.Proofs Go.Proofs.G2
set_option maxRecDepth 100000
/-- the answers, by number of further steps -/
def ansA (rd : Int → Int) (mi a b bo zs ta tb : Int) (lo hi : List Int) (i : Nat) : Int := rdy ta tb 2 ((ser rd false mi a b bo zs 1 i lo).zip (ser rd true mi a b bo zs 1 i hi))
theorem ansRow_A (rd : Int → Int) (mi a b bo zs ta tb : Int) (lo hi : List Int) (i : Nat) : ansRow rd mi a b bo zs 1 ta tb lo hi i = [dI (i : Int), dI (ansA rd mi a b bo zs ta tb lo hi i)] := rfl
/-- the first number from i on, at most k tried, with the answer 2 -/
def erl (A : Nat → Int) : Nat → Nat → Option Nat
  | 0, _ => none
  | k + 1, i => if A i = 2 then some i else erl A k (i + 1)
/-- how many answers from i on, at most k, are 2 -/
def dly (A : Nat → Int) : Nat → Nat → Nat
  | 0, _ => 0
  | k + 1, i => if A i = 2 then dly A k (i + 1) + 1 else 0
theorem erl_some {A : Nat → Int} : ∀ {k i n : Nat}, erl A k i = some n → A n = 2 ∧ i ≤ n ∧ n < i + k
  | 0, _, _, h => by cases h
  | k + 1, i, n, h => by
    rw [erl] at h
    split at h
    · rename_i e; cases h; exact ⟨e, Nat.le_refl _, by omega⟩
    · have := erl_some h; exact ⟨this.1, by omega, by omega⟩
def eaR (A : Nat → Int) : List D := match erl A 201 0 with | some n => [dI (n : Int), dI 0] | none => [dI 0, dI 12]
def mxR (A : Nat → Int) : List D := if dly A 201 0 = 0 then [dI 0, dI 24] else [dI ((dly A 201 0 : Int) - 1), dI 0]
abbrev ansP (ps : List Pt) (m lo hi : Int) (l : List Int) (bo : Int) (z : List (Int × Int)) (ta tb : Int) : Nat → Int :=
  ansA (fun x => rad x ps) m lo hi bo (z.getLast?.getD (0, 0)).1 ta tb (encZ (fun x => rad x ps) false m lo hi bo z l) (encZ (fun x => rad x ps) true m lo hi bo z l)
theorem last_z {z : List (Int × Int)} (h : z.length - 1 < z.length) : z.getLast?.getD (0, 0) = z[z.length - 1] := by
  rw [List.getLast?_eq_getElem?, List.getElem?_eq_getElem h]; rfl
structure ValJ (ps : List Pt) (m lo hi : Int) (l : List Int) (bo : Int) (z : List (Int × Int)) : Prop where
  tab : OkT ps
  few : ps.length ≤ 10
  mi : 0 ≤ m ∧ m ≤ 50
  a : 0 ≤ lo ∧ lo ≤ 1000
  b : 0 ≤ hi ∧ hi ≤ 1000
  bo : 0 ≤ bo ∧ bo ≤ 1000
  nod : NodOK l
  z1 : 1 ≤ z.length
  z5 : z.length ≤ 5
  zz : OkZ z
theorem valJ {ps : List Pt} {m lo hi : Int} {l : List Int} {bo : Int} {z : List (Int × Int)} {ta tb : Int} (h0 : isE ps m lo hi l bo z ta tb = 0) : (rulE ps m lo hi = 0 ∧ slE l bo = 0 ∧ goE z ta tb = 0) ∧ ValJ ps m lo hi l bo z := by
  have h2 : rulE ps m lo hi = 0 ∧ slE l bo = 0 ∧ goE z ta tb = 0 := by
    unfold isE at h0
    rw [fst0_two, fst0_two] at h0
    by_cases q : rulE ps m lo hi = 0
    · by_cases q2 : slE l bo = 0
      · rw [if_pos q, if_pos q2] at h0; exact ⟨q, q2, h0⟩
      · rw [if_pos q, if_neg q2] at h0; exact absurd h0 q2
    · rw [if_neg q, if_neg q] at h0; exact absurd h0 q
  obtain ⟨e1, e2, e3⟩ := h2
  obtain ⟨⟨hv, hl10⟩, hm, ha, hb⟩ := rul_all e1
  obtain ⟨q2, q8, hg, hbo⟩ := sl_ok e2
  obtain ⟨e4, hz1⟩ := go_ok e3
  obtain ⟨hz5, hzz⟩ := rt_ok e4
  exact ⟨⟨e1, e2, e3⟩, ⟨hv, hl10, hm, ha, hb, hbo, ⟨q2, q8, hg⟩, hz1, hz5, hzz⟩⟩
theorem conEaE (ps : List Pt) (hp : ps.length < 1000000000) (m lo hi : Int) (l : List Int) (hl : l.length < 1000000) (bo : Int) (z : List (Int × Int)) (hz : z.length < 1000000000) (ta tb : Int) (hne : isE ps m lo hi l bo z ta tb ≠ 0) :
    C5 18 [dRu ps m lo hi, dSl l bo, dGo z ta tb] [dI 0, dI (isE ps m lo hi l bo z ta tb)] := by
  refine con_JR hokZ mixed [] (L := fun _ _ _ => False) Try.func18 rfl (by show 3 ≤ 400; omega) rfl (pts := [50005]) (loops := [50005]) (by kernel_rfl) (by kernel_rfl) (fun caps _ => ?_) (fun id q1 q2 => absurd q1 q2) (fun id hid hlt => absurd hlt (by obtain rfl := List.mem_singleton.1 hid; decide)) (fun id hid hlt => ?_)
  · show gEa C5 _ ps.length (caps 500) (vp ps) m lo hi l.length (caps 501) (vi l) bo z.length (caps 502) (vp z) ta tb _
    rw [gEa_text]
    simp only [vp_whole, vi_whole, bc_t (v2le ps), bc_t (v1le l), bc_t (v2le z), Qv, eq_self, true_and, and_true]
    refine ⟨_, ⟨conCR ps hp m lo hi⟩, _, ⟨conCS l (by omega) bo⟩, _, ⟨conFE [rulE ps m lo hi, slE l bo] (by simp)⟩, ?_⟩
    refine bc_bne (fun h => ?_) (fun h => ?_)
    · refine ⟨_, ⟨concG z hz ta tb⟩, _, ⟨conFE [fst0 [rulE ps m lo hi, slE l bo], goE z ta tb] (by simp)⟩, ?_⟩
      exact bc_bne (fun _ => bc_bne (fun _ => rfl) (fun h0 => absurd h0 hne)) (fun h0 => absurd h0 hne)
    · refine ⟨⟨conCl l (by omega)⟩, _, ⟨concG z hz ta tb⟩, _, ⟨conFE [0, goE z ta tb] (by simp)⟩, ?_⟩
      have hE : isE ps m lo hi l bo z ta tb = fst0 [0, goE z ta tb] := by unfold isE; rw [h]
      rw [← hE]
      exact bc_bne (fun _ => bc_bne (fun _ => rfl) (fun h0 => absurd h0 hne)) (fun h0 => absurd h0 hne)
  · obtain rfl := List.mem_singleton.1 hid
    refine ⟨⟨?_⟩⟩
    rintro s b h
    exact h.elim
theorem conEaV (ps : List Pt) (hp : ps.length < 1000000000) (m lo hi : Int) (l : List Int) (hl : l.length < 1000000) (bo : Int) (z : List (Int × Int)) (hz : z.length < 1000000000) (ta tb : Int) (h0 : isE ps m lo hi l bo z ta tb = 0) :
    C5 18 [dRu ps m lo hi, dSl l bo, dGo z ta tb] (eaR (ansP ps m lo hi l bo z ta tb)) := by
  obtain ⟨⟨e1, e2, e3⟩, V⟩ := valJ h0
  have hz1 := V.z1
  have hz5 := V.z5
  have N := V.nod
  have R := radOK V.tab V.few V.mi V.a V.b V.bo
  have hlast : z.length - 1 < z.length := by omega
  obtain ⟨hs, -⟩ := V.zz z[z.length - 1] (List.getElem_mem hlast)
  refine con_JR hokZ mixed [] (L := fun _ s b => ∃ c0 c2, zEa3 0 0 ps.length c0 m lo hi l.length bo z.length c2 ta tb z[z.length - 1].1 1 (vp ps) (vi l) (vp z) = (s, b)) Try.func18 rfl (by show 3 ≤ 400; omega) rfl (pts := [50005]) (loops := [50005]) (by kernel_rfl) (by kernel_rfl) (fun caps _ => ?_) (fun id q1 q2 => absurd q1 q2) (fun id hid hlt => absurd hlt (by obtain rfl := List.mem_singleton.1 hid; decide)) (fun id hid hlt => ?_)
  · show gEa C5 _ ps.length (caps 500) (vp ps) m lo hi l.length (caps 501) (vi l) bo z.length (caps 502) (vp z) ta tb _
    rw [gEa_text]
    simp only [vp_whole, vi_whole, bc_t (v2le ps), bc_t (v1le l), bc_t (v2le z), Qv, eq_self, true_and, and_true]
    refine ⟨_, ⟨conCR ps hp m lo hi⟩, _, ⟨conCS l (by omega) bo⟩, _, ⟨conFE [rulE ps m lo hi, slE l bo] (by simp)⟩, ?_⟩
    have z1 : fst0 [rulE ps m lo hi, slE l bo] = 0 := by rw [fst0_two, if_pos e1]; exact e2
    have z2 : fst0 [0, goE z ta tb] = 0 := by rw [fst0_two, if_pos rfl]; exact e3
    refine bc_bne (fun h => absurd z1 h) (fun _ => ?_)
    refine ⟨⟨conCl l (by omega)⟩, _, ⟨concG z hz ta tb⟩, _, ⟨conFE [0, goE z ta tb] (by simp)⟩, ?_⟩
    refine bc_bne (fun h => absurd z2 h) (fun _ => ?_)
    have hw := w_last (n := z.length) (by omega) (by omega)
    rw [hw]
    refine bc_yes (by omega) (bc_yes (by omega) ⟨_, vp_one z (z.length - 1) hlast, caps 500, caps 502, ?_⟩)
    rfl
  · obtain rfl := List.mem_singleton.1 hid
    refine ⟨⟨?_⟩⟩
    rintro s b ⟨c0, c2, e⟩
    cases e
    show hEa3 0 0 ps.length c0 m lo hi l.length bo z.length c2 ta tb z[z.length - 1].1 1 (vp ps) (vi l) (vp z) _
    rw [hEa3_text]
    let A : Nat → Int := ansP ps m lo hi l bo z ta tb
    let rows : Nat → List (List D) := fun i => ansRows (fun x => rad x ps) m lo hi bo z[z.length - 1].1 1 ta tb (encZ (fun x => rad x ps) false m lo hi bo z l) (encZ (fun x => rad x ps) true m lo hi bo z l) i
    have eA : ∀ i, A i = ansA (fun x => rad x ps) m lo hi bo z[z.length - 1].1 ta tb (encZ (fun x => rad x ps) false m lo hi bo z l) (encZ (fun x => rad x ps) true m lo hi bo z l) i := fun i => by show ansA _ _ _ _ _ (z.getLast?.getD (0, 0)).1 _ _ _ _ i = _; rw [last_z hlast]
    obtain ⟨r0, hr0⟩ : ∃ r, erl A 201 0 = r := ⟨_, rfl⟩
    refine ⟨rows 0, fun rest s b => (∃ i, i ≤ 201 ∧ rest = rows i ∧ r0 = erl A (201 - i) i) ∧ zEa4 0 0 = (s, b), runIt R N (by omega) V.zz hs (by decide) ta tb c0 c2, ⟨⟨0, by omega, rfl, hr0.symm⟩, rfl⟩, ?_, ?_⟩
    · rintro row rest s b ⟨⟨i, hi, e1, he⟩, e2⟩
      have hi2 : i < 201 := by
        rcases Nat.lt_or_ge i 201 with h | h
        · exact h
        · have : i = 201 := by omega
          subst this; cases e1
      have e1 : row :: rest = ansRows _ _ _ _ _ _ _ _ _ _ _ i := e1
      rw [ansRows_drop hi2, ansRow_A, ← eA] at e1
      obtain ⟨rfl, rfl⟩ := List.cons.inj e1
      cases e2
      show wEa4 C5 0 0 (i : Int) (A i) _ _
      rw [wEa4_text]
      intro caps
      have hk : 201 - i = (201 - (i + 1)) + 1 := by omega
      rw [hk, erl] at he
      refine bc_beq (fun h => ?_) (fun h => ?_)
      · rw [if_pos h] at he
        show nEa6 C5 _ (i : Int) 0 _
        rw [nEa6_text]
        show _ = eaR A
        unfold eaR; rw [hr0, he]
      · rw [if_neg h] at he
        exact ⟨⟨i + 1, by omega, rfl, he⟩, rfl⟩
    · rintro s b ⟨⟨i, hi, e1, he⟩, e2⟩
      rcases Nat.lt_or_ge i 201 with h | h
      · have e1 : [] = ansRows _ _ _ _ _ _ _ _ _ _ _ i := e1
        rw [ansRows_drop h] at e1; cases e1
      · have hi : i = 201 := by omega
        subst hi
        cases e2
        show nEa5 C5 _ 0 0 _
        rw [nEa5_text]
        show _ = eaR A
        unfold eaR; rw [hr0, he]; rfl
theorem conMxE (ps : List Pt) (hp : ps.length < 1000000000) (m lo hi : Int) (l : List Int) (hl : l.length < 1000000) (bo : Int) (z : List (Int × Int)) (hz : z.length < 1000000000) (ta tb : Int) (hne : isE ps m lo hi l bo z ta tb ≠ 0) :
    C5 20 [dRu ps m lo hi, dSl l bo, dGo z ta tb] [dI 0, dI (isE ps m lo hi l bo z ta tb)] := by
  refine con_JR hokZ mixed [] (L := fun _ _ _ => False) Try.func20 rfl (by show 3 ≤ 400; omega) rfl (pts := [50006]) (loops := [50006]) (by kernel_rfl) (by kernel_rfl) (fun caps _ => ?_) (fun id q1 q2 => absurd q1 q2) (fun id hid hlt => absurd hlt (by obtain rfl := List.mem_singleton.1 hid; decide)) (fun id hid hlt => ?_)
  · show gMx C5 _ ps.length (caps 500) (vp ps) m lo hi l.length (caps 501) (vi l) bo z.length (caps 502) (vp z) ta tb _
    rw [gMx_text]
    simp only [vp_whole, vi_whole, bc_t (v2le ps), bc_t (v1le l), bc_t (v2le z), Qv, eq_self, true_and, and_true]
    refine ⟨_, ⟨conCR ps hp m lo hi⟩, _, ⟨conCS l (by omega) bo⟩, _, ⟨conFE [rulE ps m lo hi, slE l bo] (by simp)⟩, ?_⟩
    refine bc_bne (fun h => ?_) (fun h => ?_)
    · refine ⟨_, ⟨concG z hz ta tb⟩, _, ⟨conFE [fst0 [rulE ps m lo hi, slE l bo], goE z ta tb] (by simp)⟩, ?_⟩
      exact bc_bne (fun _ => bc_bne (fun _ => rfl) (fun h0 => absurd h0 hne)) (fun h0 => absurd h0 hne)
    · refine ⟨⟨conCl l (by omega)⟩, _, ⟨concG z hz ta tb⟩, _, ⟨conFE [0, goE z ta tb] (by simp)⟩, ?_⟩
      have hE : isE ps m lo hi l bo z ta tb = fst0 [0, goE z ta tb] := by unfold isE; rw [h]
      rw [← hE]
      exact bc_bne (fun _ => bc_bne (fun _ => rfl) (fun h0 => absurd h0 hne)) (fun h0 => absurd h0 hne)
  · obtain rfl := List.mem_singleton.1 hid
    refine ⟨⟨?_⟩⟩
    rintro s b h
    exact h.elim
theorem conMxV (ps : List Pt) (hp : ps.length < 1000000000) (m lo hi : Int) (l : List Int) (hl : l.length < 1000000) (bo : Int) (z : List (Int × Int)) (hz : z.length < 1000000000) (ta tb : Int) (h0 : isE ps m lo hi l bo z ta tb = 0) :
    C5 20 [dRu ps m lo hi, dSl l bo, dGo z ta tb] (mxR (ansP ps m lo hi l bo z ta tb)) := by
  obtain ⟨⟨e1, e2, e3⟩, V⟩ := valJ h0
  have hz1 := V.z1
  have hz5 := V.z5
  have N := V.nod
  have R := radOK V.tab V.few V.mi V.a V.b V.bo
  have hlast : z.length - 1 < z.length := by omega
  obtain ⟨hs, -⟩ := V.zz z[z.length - 1] (List.getElem_mem hlast)
  refine con_JR hokZ mixed [] (L := fun _ s b => ∃ c0 c2, zMx3 0 0 (-1) ps.length c0 m lo hi l.length bo z.length c2 ta tb z[z.length - 1].1 1 (vp ps) (vi l) (vp z) = (s, b)) Try.func20 rfl (by show 3 ≤ 400; omega) rfl (pts := [50006]) (loops := [50006]) (by kernel_rfl) (by kernel_rfl) (fun caps _ => ?_) (fun id q1 q2 => absurd q1 q2) (fun id hid hlt => absurd hlt (by obtain rfl := List.mem_singleton.1 hid; decide)) (fun id hid hlt => ?_)
  · show gMx C5 _ ps.length (caps 500) (vp ps) m lo hi l.length (caps 501) (vi l) bo z.length (caps 502) (vp z) ta tb _
    rw [gMx_text]
    simp only [vp_whole, vi_whole, bc_t (v2le ps), bc_t (v1le l), bc_t (v2le z), Qv, eq_self, true_and, and_true]
    refine ⟨_, ⟨conCR ps hp m lo hi⟩, _, ⟨conCS l (by omega) bo⟩, _, ⟨conFE [rulE ps m lo hi, slE l bo] (by simp)⟩, ?_⟩
    have z1 : fst0 [rulE ps m lo hi, slE l bo] = 0 := by rw [fst0_two, if_pos e1]; exact e2
    have z2 : fst0 [0, goE z ta tb] = 0 := by rw [fst0_two, if_pos rfl]; exact e3
    refine bc_bne (fun h => absurd z1 h) (fun _ => ?_)
    refine ⟨⟨conCl l (by omega)⟩, _, ⟨concG z hz ta tb⟩, _, ⟨conFE [0, goE z ta tb] (by simp)⟩, ?_⟩
    refine bc_bne (fun h => absurd z2 h) (fun _ => ?_)
    have hw := w_last (n := z.length) (by omega) (by omega)
    rw [hw]
    refine bc_yes (by omega) (bc_yes (by omega) ⟨_, vp_one z (z.length - 1) hlast, caps 500, caps 502, ?_⟩)
    rfl
  · obtain rfl := List.mem_singleton.1 hid
    refine ⟨⟨?_⟩⟩
    rintro s b ⟨c0, c2, e⟩
    cases e
    show hMx3 0 0 (-1) ps.length c0 m lo hi l.length bo z.length c2 ta tb z[z.length - 1].1 1 (vp ps) (vi l) (vp z) _
    rw [hMx3_text]
    let A : Nat → Int := ansP ps m lo hi l bo z ta tb
    let rows : Nat → List (List D) := fun i => ansRows (fun x => rad x ps) m lo hi bo z[z.length - 1].1 1 ta tb (encZ (fun x => rad x ps) false m lo hi bo z l) (encZ (fun x => rad x ps) true m lo hi bo z l) i
    have eA : ∀ i, A i = ansA (fun x => rad x ps) m lo hi bo z[z.length - 1].1 ta tb (encZ (fun x => rad x ps) false m lo hi bo z l) (encZ (fun x => rad x ps) true m lo hi bo z l) i := fun i => by show ansA _ _ _ _ _ (z.getLast?.getD (0, 0)).1 _ _ _ _ i = _; rw [last_z hlast]
    obtain ⟨r0, hr0⟩ : ∃ r, dly A 201 0 = r := ⟨_, rfl⟩
    refine ⟨rows 0, fun rest s b => (∃ i, i ≤ 201 ∧ rest = rows i ∧ r0 = i + dly A (201 - i) i ∧ zMx4 0 0 ((i : Int) - 1) = (s, b)), runIt R N (by omega) V.zz hs (by decide) ta tb c0 c2, ⟨0, by omega, rfl, by rw [hr0]; omega, rfl⟩, ?_, ?_⟩
    · rintro row rest s b ⟨i, hi, e1, he, e2⟩
      have hi2 : i < 201 := by
        rcases Nat.lt_or_ge i 201 with h | h
        · exact h
        · have : i = 201 := by omega
          subst this; cases e1
      have e1 : row :: rest = ansRows _ _ _ _ _ _ _ _ _ _ _ i := e1
      rw [ansRows_drop hi2, ansRow_A, ← eA] at e1
      obtain ⟨rfl, rfl⟩ := List.cons.inj e1
      cases e2
      show wMx4 C5 0 0 ((i : Int) - 1) (i : Int) (A i) _ _
      rw [wMx4_text]
      intro caps
      have hk : 201 - i = (201 - (i + 1)) + 1 := by omega
      rw [hk, dly] at he
      refine bc_bne (fun h => ?_) (fun h => ?_)
      · rw [if_neg h] at he
        show nMx6 C5 _ 0 0 ((i : Int) - 1) _
        rw [nMx6_text]
        show _
        refine bc_dec (fun q => ?_) (fun q => ?_)
        · show _ = mxR A
          unfold mxR; rw [hr0, if_pos (by omega)]
        · show _ = mxR A
          unfold mxR; rw [hr0, if_neg (by omega), he]; rfl
      · rw [if_pos h] at he
        exact ⟨i + 1, by omega, rfl, by omega, by rw [show ((i + 1 : Nat) : Int) - 1 = (i : Int) by omega]⟩
    · rintro s b ⟨i, hi, e1, he, e2⟩
      rcases Nat.lt_or_ge i 201 with h | h
      · have e1 : [] = ansRows _ _ _ _ _ _ _ _ _ _ _ i := e1
        rw [ansRows_drop h] at e1; cases e1
      · have hi : i = 201 := by omega
        subst hi
        cases e2
        show nMx5 C5 _ 0 0 _ _
        rw [nMx5_text]
        refine bc_no (by decide) ?_
        show _ = mxR A
        have he : r0 = 201 := by rw [he]; rfl
        unfold mxR; rw [hr0, he]; rfl
end Go.Proofs.G5j

/- Chapter 2, heating: the reference's answers. -/
namespace Go.Proofs.G5j
open Go Go.Abs Go.Proofs Go.Proofs.G2
set_option maxRecDepth 100000
theorem preL2OK : PreOK Try.prog (preL C5) := by
  intro g h he args ats H k hk
  unfold preL at he
  rcases ite_so he with ⟨e, rfl⟩ | he
  · exact fixH_ok (fun _ _ _ h => h) _ _ _ _ _ hk
  rcases ite_so he with ⟨e, rfl⟩ | he
  · exact fixH_ok (fun _ _ _ h => h) _ _ _ _ _ hk
  rcases ite_so he with ⟨e, rfl⟩ | he
  · exact saidH_ok (fun _ _ _ h => h) _ _ _ _ _ hk
  · exact preZOK g h he args ats H k hk
theorem hokL2 : HandlerOK Try.prog (hL C5) := handlerX_ok mixed preL2OK (by decide) 6
theorem rgA_snoc (f : Nat → Int) (i : Nat) : vi ((List.range i).map f) ++ [vI (f i)] = vi ((List.range (i + 1)).map f) := by
  rw [List.range_succ, List.map_append, vi, vi, List.map_append]; rfl
theorem conas {ps : List Pt} {m lo hi : Int} {l : List Int} {bo : Int} {z : List (Int × Int)} (V : ValJ ps m lo hi l bo z) (ta tb : Int) :
    C5 47 [dRu ps m lo hi, dSl l bo, dGo z ta tb] [.sl 201 1 (vi ((List.range 201).map (ansP ps m lo hi l bo z ta tb)))] := by
  have hz1 := V.z1
  have hz5 := V.z5
  have N := V.nod
  have h2 := N.two
  have h8 := N.few
  have R := radOK V.tab V.few V.mi V.a V.b V.bo
  have hlast : z.length - 1 < z.length := by omega
  obtain ⟨hs, -⟩ := V.zz z[z.length - 1] (List.getElem_mem hlast)
  let rd : Int → Int := fun x => rad x ps
  let A : Nat → Int := ansP ps m lo hi l bo z ta tb
  let L0 := encZ rd false m lo hi bo z l
  let H0 := encZ rd true m lo hi bo z l
  have NL : NodOK L0 := encZ_ok R false _ V.zz N
  have NH : NodOK H0 := encZ_ok R true _ V.zz N
  let S := z[z.length - 1].1
  let lw : Nat → List Int := fun i => ser rd false m lo hi bo S 1 i L0
  let hw : Nat → List Int := fun i => ser rd true m lo hi bo S 1 i H0
  have eL : ∀ i, (lw i).length = l.length := fun i => (ser_length ..).trans (encZ_length ..)
  have eH : ∀ i, (hw i).length = l.length := fun i => (ser_length ..).trans (encZ_length ..)
  have Nl : ∀ i, NodOK (lw i) := fun i => ser_ok R false hs i NL
  have Nh : ∀ i, NodOK (hw i) := fun i => ser_ok R true hs i NH
  let E : Nat → List (Int × Int) := fun i => (lw i).zip (hw i)
  have nE : ∀ i, (E i).length = l.length := fun i => by show ((lw i).zip (hw i)).length = _; rw [List.length_zip, eL, eH, Nat.min_self]
  have eA : ∀ i, A i = rdy ta tb 2 (E i) := fun i => by show ansA _ _ _ _ _ (z.getLast?.getD (0, 0)).1 _ _ _ _ i = _; rw [last_z hlast]; rfl
  have cE : ∀ i, C5 66 [dRu ps m lo hi, dI bo, .sl l.length 2 (vp (E i)), dI S] [.sl l.length 2 (vp (E (i + 1)))] := fun i => by
    have c := conen V.tab V.few V.mi V.a V.b V.bo hs (Nl i) (Nh i) (by rw [eL, eH])
    rw [eL] at c; exact c
  have cR : ∀ i, C5 65 [.sl l.length 2 (vp (E i)), .agg [dI ta, dI tb]] [dI (A i)] := fun i => by
    have c := conrd (E i) (by rw [nE]; omega) ta tb
    rw [nE] at c; rw [eA]; exact c
  let inv : Nat × Nat × Nat × Nat → Prop := fun x => x.1 ≤ 201
  let st : Nat × Nat × Nat × Nat → Slots × Blocks := fun x => match x.1 with
    | 0 => zas2 l.length ((0 : Nat) : Int) ps.length x.2.1 m lo hi l.length x.2.2.1 bo z.length x.2.2.2 ta tb (vp (E 0)) (vp ps) (vi l) (vp z)
    | i + 1 => zas4 l.length (i + 1) ((i + 1 : Nat) : Int) ps.length x.2.1 m lo hi l.length x.2.2.1 bo z.length x.2.2.2 ta tb (vp (E (i + 1))) (vi ((List.range (i + 1)).map A)) (vp ps) (vi l) (vp z)
  refine con_of (L := fun _ s b => ∃ x, inv x ∧ st x = (s, b)) hokL2 mixed Try.func47 rfl (by show 3 ≤ 400; omega) rfl (ids := [0]) (by kernel_rfl) rfl (fun caps => ?_) (fun id hid => ?_)
  · show gas _ _ ps.length (caps 500) (vp ps) m lo hi l.length (caps 501) (vi l) bo z.length (caps 502) (vp z) ta tb _
    rw [gas_text]
    simp only [vp_whole, vi_whole, bc_t (v2le ps), bc_t (v1le l), bc_t (v2le z), Qv, eq_self, true_and, and_true]
    exact .inr ⟨_, _, ⟨conrO V.tab V.few V.mi V.a V.b V.bo N (z := z) (by omega) V.zz⟩, (0, caps 500, caps 501, caps 502), by show 0 ≤ 201; omega, rfl⟩
  · obtain rfl := List.mem_singleton.1 hid
    refine ⟨_, st, inv, fun x => 201 - x.1, ⟨fun s b h => h, by kernel_rfl, ?_⟩⟩
    rintro ⟨i, c1, c2, c3⟩ hi'
    have hi' : i ≤ 201 := hi'
    have hw' := w_last (n := z.length) (by omega) (by omega)
    have q0 : (0 : Int) ≤ ((z.length - 1 : Nat) : Int) := by omega
    have q1 : ((z.length - 1 : Nat) : Int) < (z.length : Int) := by omega
    have a1 : At (vp z) (0 + (z.length - 1) * 2) 1 [vI S] := vp_one z (z.length - 1) hlast
    cases i with
    | zero =>
      show ras2 _ _ l.length ((0 : Nat) : Int) ps.length c1 m lo hi l.length c2 bo z.length c3 ta tb (vp (E 0)) (vp ps) (vi l) (vp z) _ _ _
      rw [ras2_text]
      have y0 : 0 + l.length * 2 ≤ (vp (E 0)).length := by rw [vp_length, nE]; omega
      have p0 : ((0 : Nat) : Int) ≤ 200 := by omega
      simp only [vp_whole, vi_whole, bc_t (v2le ps), bc_t (v1le l), bc_t (v2le z), bc_t y0, bc_t p0, vp_tk (nE 0), hw', bc_t q0, bc_t q1, Int.toNat_natCast, at1 a1, Qv, eq_self, true_and, and_true]
      refine ⟨_, ⟨cR 0⟩, .inr ⟨_, _, ⟨cE 0⟩, (1, c1, c2, c3), by show 1 ≤ 201; omega, by show 201 - 1 < 201 - 0; omega, ?_⟩⟩
      rw [w64 (by omega) (by omega)]; rfl
    | succ i =>
      show ras4 _ _ l.length (i + 1) ((i + 1 : Nat) : Int) ps.length c1 m lo hi l.length c2 bo z.length c3 ta tb (vp (E (i + 1))) (vi ((List.range (i + 1)).map A)) (vp ps) (vi l) (vp z) _ _ _
      rw [ras4_text]
      have y0 : 0 + l.length * 2 ≤ (vp (E (i + 1))).length := by rw [vp_length, nE]; omega
      have nR : (vi ((List.range (i + 1)).map A)).length = i + 1 := by simp
      refine bc_dec (fun h => ?_) (fun h => ?_)
      · simp only [bc_t y0, vp_tk (nE (i + 1))]
        refine ⟨_, ⟨cR (i + 1)⟩, bc_yes (by omega) (bc_yes (by omega) (bc_yes (by omega) (bc_yes (by rw [nR]; omega) (bc_yes (by rw [nR]; omega) ?_))))⟩
        simp only [vp_whole, vi_whole, bc_t (v2le ps), bc_t (v1le l), bc_t (v2le z), bc_t y0, vp_tk (nE (i + 1)), hw', bc_t q0, bc_t q1, Int.toNat_natCast, at1 a1, Qv, eq_self, true_and, and_true]
        refine .inr ⟨_, _, ⟨cE (i + 1)⟩, (i + 2, c1, c2, c3), by show i + 2 ≤ 201; omega, by show 201 - (i + 2) < 201 - (i + 1); omega, ?_⟩
        rw [w64 (by omega) (by omega), vi_tk (by simp), rgA_snoc]; rfl
      · show (if 0 = 0 then _ else _)
        rw [if_pos rfl]
        show nas6 _ _ (i + 1) (vi ((List.range (i + 1)).map A)) _
        rw [nas6_text]
        have e : i + 1 = 201 := by omega
        rw [e]
        exact ⟨⟨rfl, by simp⟩, rfl⟩
theorem erl_range (A : Nat → Int) {i : Nat} (h : i < 201) : erl A (201 - i) i = if A i = 2 then some i else erl A (201 - (i + 1)) (i + 1) := by
  rw [show 201 - i = (201 - (i + 1)) + 1 by omega, erl]
theorem dly_range (A : Nat → Int) {i : Nat} (h : i < 201) : dly A (201 - i) i = if A i = 2 then dly A (201 - (i + 1)) (i + 1) + 1 else 0 := by
  rw [show 201 - i = (201 - (i + 1)) + 1 by omega, dly]
theorem rg_at (A : Nat → Int) {i : Nat} (h : i < 201) : At (vi ((List.range 201).map A)) (0 + i * 1) 1 [vI (A i)] := by
  have := vi_at ((List.range 201).map A) i (by simpa using h)
  simpa using this
/-- found: its number; else 0 -/
def reaR (A : Nat → Int) : List D := match erl A 201 0 with | some n => [dI (n : Int), .val (.bool true)] | none => [dI 0, .val (.bool false)]
def rmxR (A : Nat → Int) : List D := if dly A 201 0 = 0 then [dI 0, .val (.bool false)] else [dI ((dly A 201 0 : Int) - 1), .val (.bool true)]
theorem conrEa {ps : List Pt} {m lo hi : Int} {l : List Int} {bo : Int} {z : List (Int × Int)} (V : ValJ ps m lo hi l bo z) (ta tb : Int) :
    C5 22 [dRu ps m lo hi, dSl l bo, dGo z ta tb] (reaR (ansP ps m lo hi l bo z ta tb)) := by
  have hz5 := V.z5
  have h8 := V.nod.few
  have h10 := V.few
  let A : Nat → Int := ansP ps m lo hi l bo z ta tb
  obtain ⟨r0, hr0⟩ : ∃ r, erl A 201 0 = r := ⟨_, rfl⟩
  let inv : Nat → Prop := fun i => i ≤ 201 ∧ r0 = erl A (201 - i) i
  let st : Nat → Slots × Blocks := fun i => zrEa2 201 (i : Int) (vi ((List.range 201).map A))
  refine con_of (L := fun _ s b => ∃ x, inv x ∧ st x = (s, b)) hokL2 mixed Try.func22 rfl (by show 3 ≤ 400; omega) rfl (ids := [0]) (by kernel_rfl) rfl (fun caps => ?_) (fun id hid => ?_)
  · show grEa _ _ ps.length (caps 500) (vp ps) m lo hi l.length (caps 501) (vi l) bo z.length (caps 502) (vp z) ta tb _
    rw [grEa_text]
    simp only [vp_whole, vi_whole, bc_t (v2le ps), bc_t (v1le l), bc_t (v2le z), Qv, eq_self, true_and, and_true]
    exact .inr ⟨_, _, ⟨conas V ta tb⟩, 0, ⟨by omega, hr0.symm⟩, rfl⟩
  · obtain rfl := List.mem_singleton.1 hid
    refine ⟨_, st, inv, fun x => 201 - x, ⟨fun s b h => h, by kernel_rfl, ?_⟩⟩
    rintro i ⟨hi, he⟩
    show rrEa2 _ _ 201 (i : Int) (vi ((List.range 201).map A)) _ _ _
    rw [rrEa2_text]
    refine bc_dec (fun h => ?_) (fun h => ?_)
    · have hi2 : i < 201 := by omega
      have p0 : (0 : Int) ≤ (i : Int) := by omega
      rw [erl_range A hi2] at he
      simp only [bc_t p0, bc_t h, Int.toNat_natCast, at1 (rg_at A hi2)]
      refine bc_beq (fun q => ?_) (fun q => ?_)
      · rw [if_pos q] at he
        show _ = reaR A
        unfold reaR; rw [hr0, he]
      · rw [if_neg q] at he
        refine ⟨i + 1, ⟨by omega, he⟩, by show 201 - (i + 1) < 201 - i; omega, ?_⟩
        rw [w64 (by omega) (by omega)]; rfl
    · show (if 0 = 0 then _ else _)
      rw [if_pos rfl]
      show nrEa3 _ _ _
      rw [nrEa3_text]
      have e : i = 201 := by omega
      subst e
      show _ = reaR A
      unfold reaR; rw [hr0, he]; rfl
theorem conrMx {ps : List Pt} {m lo hi : Int} {l : List Int} {bo : Int} {z : List (Int × Int)} (V : ValJ ps m lo hi l bo z) (ta tb : Int) :
    C5 23 [dRu ps m lo hi, dSl l bo, dGo z ta tb] (rmxR (ansP ps m lo hi l bo z ta tb)) := by
  have hz5 := V.z5
  have h8 := V.nod.few
  have h10 := V.few
  let A : Nat → Int := ansP ps m lo hi l bo z ta tb
  obtain ⟨r0, hr0⟩ : ∃ r, dly A 201 0 = r := ⟨_, rfl⟩
  let inv : Nat → Prop := fun i => i < 201 ∧ r0 = i + 1 + dly A (201 - (i + 1)) (i + 1)
  let st : Nat → Slots × Blocks := fun i => zrMx1 201 (i : Int) (vi ((List.range 201).map A))
  refine con_of (L := fun _ s b => ∃ x, inv x ∧ st x = (s, b)) hokL2 mixed Try.func23 rfl (by show 3 ≤ 400; omega) rfl (ids := [0]) (by kernel_rfl) rfl (fun caps => ?_) (fun id hid => ?_)
  · show grMx _ _ ps.length (caps 500) (vp ps) m lo hi l.length (caps 501) (vi l) bo z.length (caps 502) (vp z) ta tb _
    rw [grMx_text]
    simp only [vp_whole, vi_whole, bc_t (v2le ps), bc_t (v1le l), bc_t (v2le z), Qv, eq_self, true_and, and_true]
    refine .inr ⟨_, _, ⟨conas V ta tb⟩, bc_yes (by omega) ⟨_, rg_at A (i := 0) (by omega), ?_⟩⟩
    have hd := dly_range A (i := 0) (by omega)
    refine bc_bne (fun q => ?_) (fun q => ?_)
    · rw [if_neg q] at hd
      show _ = rmxR A
      unfold rmxR; rw [show dly A 201 0 = 0 from hd, if_pos rfl]
    · rw [if_pos q] at hd
      refine ⟨0, ⟨by omega, ?_⟩, rfl⟩
      rw [← hr0, show dly A 201 0 = _ from hd]; omega
  · obtain rfl := List.mem_singleton.1 hid
    refine ⟨_, st, inv, fun x => 201 - x, ⟨fun s b h => h, by kernel_rfl, ?_⟩⟩
    rintro i ⟨hi, he⟩
    show rrMx1 _ _ 201 (i : Int) (vi ((List.range 201).map A)) _ _ _
    rw [rrMx1_text]
    have w1 : IntKind.wrap .i64 ((i : Int) + 1) = ((i + 1 : Nat) : Int) := by rw [w64 (by omega) (by omega)]; rfl
    rw [w1]
    have fin : ∀ (h : r0 = i + 1), (fun r => r = rmxR A) [dI (i : Int), .val (.bool true)] := fun h => by
      show _ = rmxR A
      unfold rmxR; rw [hr0, h, if_neg (by omega)]
      rw [show ((i + 1 : Nat) : Int) - 1 = (i : Int) by omega]
    refine bc_dec (fun h => ?_) (fun h => ?_)
    · have hi2 : i + 1 < 201 := by omega
      have p0 : (0 : Int) ≤ ((i + 1 : Nat) : Int) := by omega
      rw [dly_range A hi2] at he
      simp only [bc_t p0, bc_t h, Int.toNat_natCast, at1 (rg_at A hi2)]
      refine bc_beq (fun q => ?_) (fun q => ?_)
      · rw [if_pos q] at he
        exact ⟨i + 1, ⟨hi2, by omega⟩, by show 201 - (i + 1) < 201 - i; omega, rfl⟩
      · rw [if_neg q] at he
        show nrMx2 _ _ (i : Int) _
        rw [nrMx2_text]
        exact fin (by omega)
    · show (if 0 = 0 then _ else _)
      rw [if_pos rfl]
      show nrMx2 _ _ (i : Int) _
      rw [nrMx2_text]
      have e : i = 200 := by omega
      subst e
      exact fin (by rw [he]; rfl)
end Go.Proofs.G5j

/- awake of chapter 2, for every tape. -/
namespace Go.Proofs.G5j
open Go Go.Abs Go.Proofs
set_option maxRecDepth 100000
theorem tab0_ok : TabOK Try.prog (fun _ => none) := fun _ _ h => by cases h
theorem runA : ∀ caps, runOK Try.prog (fun _ => none) 1000 5 [] [.val (.bool true)] caps = true := by intro caps; kernel_rfl
theorem conA : C5 5 [] [.val (.bool true)] := con_run tab0_ok mixed (by show 0 ≤ 400; omega) runA
end Go.Proofs.G5j
