/- Texts of the proof, put together: AbsRngR, AbsRngJ, AbsFresh, AbsFive, AbsShort, GmST, GmPT, AbsPasD, AbsShort2, GmXT. -/
import Derived.Test.YtocehmejiaelcaaGreatDoorP4
import Derived.Test.YtocehmejiaelcaaGreatDoorP3
import Derived.Test.YtocehmejiaelcaaGreatDoorProg
/- A range over a function: the rule. -/
namespace Go.Abs
open Go.RowKit
variable {P : Program} {ρ : Ren} {w0 : Start P} {w : World} {H : Heap} {h : Handler} {Fo : Nat → Prop}

theorem readsL_len {ds : List D} {vs : List Value} (h : ReadsL w ds vs) : ds.length = vs.length := by
  induction ds generalizing vs with
  | nil => cases h; rfl
  | cons d r ih => cases h with | cons h t => simp [ih t]
theorem putAll_size : ∀ (l : List (Tmp × Value)) (A : AAct), (A.putAll l).size = A.size
  | [], _ => rfl
  | (t, v) :: l, A => by
    simp only [AAct.putAll]
    rw [putAll_size l]
    unfold AAct.put1
    split <;> rfl
theorem Foot.mono {ρ2 : Ren} {Fo2 : Nat → Prop} {k : Nat} (hr : ∀ i m, mbase ≤ i → ρ i = some m → ρ2 i = some m) (hf : Fo k → Fo2 k) (h : Foot ρ Fo k) : Foot ρ2 Fo2 k := by
  rcases h with ⟨i, m, h1, h2, h3⟩ | h
  · exact .inl ⟨i, m, h1, hr i m h1 h2, h3⟩
  · exact .inr (hf h)
theorem foot_may (g : Gam w0 ρ H w) (wt : Wit w0 ρ H w Fo) {k : Nat} (h : Foot ρ Fo k) (hk : k < w0.w.heap.size) : w0.may k := by
  rcases h with ⟨i, m, h1, h2, rfl⟩ | h
  · rcases Nat.lt_or_ge i gbase with hl | hl
    · exact .inl (.inl ⟨i, m, h1, hl, g.pins i m (Nat.le_trans (by decide) h1) hl h2, rfl⟩)
    · rcases (g.own i m h2).2 hl with h | h
      · omega
      · exact .inl (.inr h)
  · exact .inr (wt.free g h hk)
theorem foot_lt (g : Gam w0 ρ H w) (wt : Wit w0 ρ H w Fo) {k : Nat} (h : Foot ρ Fo k) : k < w.heap.size := by
  rcases h with ⟨i, m, h1, h2, rfl⟩ | h
  · exact (g.own i m h2).1
  · exact wt.bound g h
theorem gc_wit {μ : Mu} (g : Gam w0 ρ H w) (wt : Wit w0 ρ H w Fo) (ok : MuOK μ (heapOf (gcB H μ μ)).next) : Wit w0 (μ.ren ρ) (heapOf (gcB H μ μ)) w (fun k => (∃ own rest, (heapOf (gcB H μ μ)).get ynum = some (.yld own rest)) ∧ Fo k) := by
  have okS : MuS μ := ⟨ok.snd, fun i j hij hlt => by
    rcases ok.cls i j hij with h | h
    · exact h.2
    · have := h.1; unfold gbase at this; unfold abase at hlt; omega⟩
  refine ⟨fun own rest hget => ?_, fun h k hk => let ⟨⟨own, rest, h'⟩, _⟩ := hk; h own rest h'⟩
  obtain ⟨i, o', hi, hg, hmo⟩ := gcB_mem (heapOf_get hget)
  have ho' := isYld_of hmo
  subst ho'
  have hiy : ynum = i := by
    rcases ok.cls _ _ hi with h | h
    · exact h.2
    · exact absurd h.2.1 (by decide)
  subst hiy
  obtain ⟨m, q1, q2, q3⟩ := wt.is own rest hg
  have eF : (fun k => (∃ own rest, (heapOf (gcB H μ μ)).get ynum = some (.yld own rest)) ∧ Fo k) = Fo := by
    funext k
    exact propext ⟨fun h => h.2, fun h => ⟨⟨own, rest, hget⟩, h⟩⟩
  refine ⟨m, by rw [Mu.ren_of ok.snd hi]; exact q1, by rw [eF]; exact q2, fun j n hj hl hne hF => ?_⟩
  obtain ⟨oj, gj, aj⟩ := hl
  obtain ⟨_, j0, oj0, hj0, rj0, gj0, _, haj⟩ := ren_obj okS g hj gj
  exact q3 j0 n rj0 ⟨oj0, gj0, by rw [← haj]; exact aj⟩ (fun e => by subst e; exact hne (mu_eq_fst ok.fst hj0 hi)) hF.2

/-- The record of a loop changes: nothing else. -/
theorem Gam.record (g : Gam w0 ρ H w) (wt : Wit w0 ρ H w Fo) {lr : Nat} (h0 : w0.w.heap.size ≤ lr) (hm : ∀ i m, ρ i = some m → m.b ≠ lr) (hf : ¬ Fo lr) (o : Obj) : Gam w0 ρ H (w.putObj lr o) ∧ Wit w0 ρ H (w.putObj lr o) Fo := by
  have hput : ∀ k, k ≠ lr → (w.putObj lr o).heap[k]? = w.heap[k]? := fun k hk => World.putObj_heap_other hk
  exact g.same wt rfl rfl rfl (by simp [World.putObj]) (fun k hk _ => hput k (by omega)) (fun i m h _ => hput _ (hm i m h)) (fun k hk => hput k (fun e => hf (e ▸ hk)))

/-- What a round leaves. -/
def Left (B : Slots → Blocks → Prop) (X : Exit → Slots → Blocks → Prop) (e : Exit) (s : Slots) (b : Blocks) : Prop :=
  match e with
  | .normal => B s b
  | .ret => X .ret s b
  | .exit i => X (.exit i) s b
  | _ => False
theorem rend_out {keep : List Tmp} {A A1 : AAct} {B : Slots → Blocks → Prop} {X : Exit → Slots → Blocks → Prop} {e : Exit} (hk : rendK keep A B X e A1 H) : ∃ μ, rowGood μ keep A (gcB H μ μ) = true ∧ Left B X e (gcS μ keep A) (gcB H μ μ) := by
  cases e with
  | normal => obtain ⟨h1, h2⟩ := bcase_out hk; exact ⟨_, h1, h2⟩
  | ret => obtain ⟨h1, h2⟩ := bcase_out hk; exact ⟨_, h1, h2⟩
  | exit i => obtain ⟨h1, h2⟩ := bcase_out hk; exact ⟨_, h1, h2⟩
  | _ => exact hk.elim

def JumpIs (e : Exit) (jump : Option Code) : Prop := match e with | .normal => jump = none | .ret => jump = some .ret | .exit i => jump = some (.exit i) | _ => False
/-- What is known behind a round. -/
def RoundQ (sz : Nat) (B : Slots → Blocks → Prop) (X : Exit → Slots → Blocks → Prop) (w0 : Start P) (ρ : Ren) (Fo : Nat → Prop) (w : World) (a : Act) (lr : Nat) (L : Loop) (e : Ending) (w' : World) : Prop :=
      ∃ (jump : Option Code) (ex : Exit) (ρ' : Ren) (s' : Slots) (b' : Blocks) (Fo' : Nat → Prop) (L' : Loop), e = .returned (.bool jump.isNone) ∧ Left B X ex s' b' ∧ JumpIs ex jump ∧
        Gam w0 ρ' (heapOf b') w' ∧ Wit w0 ρ' (heapOf b') w' Fo' ∧ ActR ρ' (actOf sz s') a ∧ w'.heap[lr]? = some (.loop L') ∧ L' = { L with state := if jump.isNone then .ready else .done, pending := jump } ∧
        w'.os = w.os ∧ w'.tape = w.tape ∧ w'.output = w.output ∧ w.heap.size ≤ w'.heap.size ∧ (∀ k, k < w.heap.size → k ≠ lr → ¬ Foot ρ Fo k → w'.heap[k]? = w.heap[k]?) ∧ (∀ k, Foot ρ' Fo' k → Foot ρ Fo k ∨ w.heap.size ≤ k) ∧
        (∀ i m, ρ' i = some m → m.b ≠ lr) ∧ ¬ Fo' lr ∧ (∀ i m, i < mbase → ρ' i = some m → ρ i = some m) ∧ (∀ q, wbase ≤ q → q < hbase → ρ' q = none ∧ ∀ o, (q, o) ∉ b')

/-- A ROUND, from the caller's view. lr: the loop's record. -/
theorem round_run (hh : HandlerOK P h) (hmix : P.follows .mixedOrders = true) {u : Nat} (hu : u ≠ 0) {sz : Nat} {ps : Array Tmp} {x y : Code} {l : Lv} {keep : List Tmp} {s : Slots} {b : Blocks} {row : List D} {B : Slots → Blocks → Prop} {X : Exit → Slots → Blocks → Prop}
    (hr : roundR P h u sz ps x y l keep s b row B X) (g : Gam w0 ρ (heapOf b) w) (wt : Wit w0 ρ (heapOf b) w Fo) {a : Act} (ra : ActR ρ (actOf sz s) a) {lr : Nat} {L : Loop} (hL : w.heap[lr]? = some (.loop L)) (h0 : w0.w.heap.size ≤ lr)
    (hLt : L.tmps = a.tmps) (hLp : L.params = ps) (hLa : L.assign = x) (hLb : L.body = y) (hLs : L.state = .ready) (hm : ∀ i m, ρ i = some m → m.b ≠ lr) (hf : ¬ Fo lr) (hno : ∀ q, wbase ≤ q → q < hbase → ρ q = none ∧ ∀ o, (q, o) ∉ b)
    {F : Nat → Prop} (hFl : F lr) (hF : ∀ k, Foot ρ Fo k → F k) {args' : Array Value} (hrd : ReadsL (hide F w) row args'.toList) (rC : Option Nat) (n : Nat) :
    L.params.size = args'.size ∧ RoundIn (Fr rC) n P lr L.fn ((L.params.zip args').foldl (fun tmps (t, a) => tmps.setIfInBounds t a) L.tmps) L.assign L.body w (RoundQ sz B X w0 ρ Fo w a lr L) := by
  have hlr : lr < w.heap.size := by
    rcases Nat.lt_or_ge lr w.heap.size with h | h
    · exact h
    · rw [Array.getElem?_eq_none h] at hL; cases hL
  unfold roundR at hr
  obtain ⟨hcnt, hwp⟩ := bcase_out hr
  simp only [Bool.and_eq_true, decide_eq_true_eq] at hcnt
  have hlen := readsL_len hrd
  refine ⟨by rw [hLp, ← hcnt.2, hlen]; simp, ?_⟩
  obtain ⟨caps, ρ3, g3, hl3, hle3, hnew3, wt3⟩ := g.layRow wt hno hF hrd hcnt.1
  have hwp := hwp caps
  -- numbers that may be written are the caller's
  have big3 : ∀ i m, mbase ≤ i → ρ3 i = some m → ρ i = some m := fun i m hi h => (hnew3 i m h).resolve_right (fun h2 => by have := h2.2.1; unfold mbase at hi; unfold hbase at this; omega)
  have foot3 : ∀ k, Foot ρ3 Fo k → Foot ρ Fo k := fun k hk => hk.mono big3 id
  have lr3 : ∀ i m, ρ3 i = some m → m.b ≠ lr := fun i m h e => by
    rcases hnew3 i m h with h | ⟨_, _, h⟩
    · exact hm i m h e
    · exact h (e ▸ hFl)
  refine roundIn_of_wpIn (Fr_fn _ _) ?_
  rw [Fr_inRound, hLa, hLb, hLp, hLt]
  have raA : ActR ρ3 (AAct.putAll { actOf sz s with defers := [] } (ps.toList.zip (layVals caps wbase row).1)) { tmps := (ps.zip args').foldl (fun tmps (t, a) => tmps.setIfInBounds t a) a.tmps, defers := [] } := by
    have base : ActR ρ3 { actOf sz s with defers := [] } { tmps := a.tmps, defers := [] } := ⟨ra.size, fun t => (ra.slot t).mono hle3, rfl, fun j D e => by simp at e⟩
    have := putAll_R ps.toList hl3 base
    have e : (ps.zip args').foldl (fun tmps (t, a) => tmps.setIfInBounds t a) a.tmps = (ps.toList.zip args'.toList).foldl (fun tmps (p : Tmp × Value) => tmps.setIfInBounds p.1 p.2) a.tmps := by
      rw [← Array.foldl_toList, Array.toList_zip]
    rw [e]
    exact this
  have hx := wpT_soundR (b := true) (rC := some lr) (sz := sz) hh hmix (fun h0 => absurd h0 hu) (fun h0 => absurd h0 hu) x hwp (fun h0 => absurd h0 hu) _ ρ3 w _ n (g3.atNow wt3) raA (putAll_size _ _)
  refine wpIn_mono hx ?_
  rintro e1 a1 w1 ⟨A1, H1, ρ4, k1, s1, ra4, g4, ext4⟩
  cases e1 with
  | normal =>
    obtain ⟨g4', key4, ⟨Fo4, wt4, hFo4⟩, foot4⟩ := g3.atBack wt3 g4
    have hs1 : w.heap.size ≤ w1.heap.size := g4.below.size
    have e4 := ext4 rfl
    have small4 : ∀ i m, i < mbase → ρ4 i = some m → ρ3 i = some m := by
      intro i m hi h
      have hnx : i < (heapOf (b ++ (layVals caps wbase row).2)).next := by have := g3.gb; unfold gbase at this; unfold mbase at hi; omega
      cases hr3 : ρ3 i with
      | none => rw [(e4.keep i hnx hr3).1] at h; cases h
      | some m' => rw [e4.le i m' hr3] at h; exact h
    have nfl : ¬ Foot ρ3 Fo lr := by
      rintro (⟨i, m, h1, h2, h3⟩ | h)
      · exact lr3 i m h2 h3
      · exact hf h
    have foot4' : ∀ k, Foot ρ4 Fo4 k → Foot ρ Fo k ∨ w.heap.size ≤ k := by
      rintro k (⟨i, m, h1, h2, rfl⟩ | h)
      · exact (foot4 i m h1 h2).imp (foot3 _) id
      · exact (hFo4 k h).imp .inr id
    have lr4 : ∀ i m, ρ4 i = some m → m.b ≠ lr := by
      intro i m h e
      rcases Nat.lt_or_ge i mbase with hl | hl
      · exact lr3 i m (small4 i m hl h) e
      · rcases foot4 i m hl h with h1 | h1
        · exact nfl (e ▸ h1)
        · omega
    have f4 : ¬ Fo4 lr := fun h => by
      rcases hFo4 lr h with h | h
      · exact hf h
      · omega
    have hL1 : w1.heap[lr]? = some (.loop L) := (key4 lr hlr nfl).trans hL
    have hlr1 : lr < w1.heap.size := by omega
    refine ⟨_, run_beginRound hL1 hLs, ?_⟩
    obtain ⟨gb, wtb⟩ := g4'.record wt4 h0 lr4 f4 (.loop { L with state := .busy })
    have hsb : (w1.putObj lr (.loop { L with state := .busy })).heap.size = w1.heap.size := by simp [World.putObj]
    have hLb1 : (w1.putObj lr (.loop { L with state := .busy })).heap[lr]? = some (.loop { L with state := .busy }) := World.putObj_heap_same hlr1
    have hy := wpT_soundR (b := true) (rC := some lr) (sz := sz) hh hmix (fun h0 => absurd h0 hu) (fun h0 => absurd h0 hu) y k1 (fun h0 => absurd h0 hu) _ ρ4 _ a1 n (gb.atNow wtb) ra4 s1
    refine wpIn_mono hy ?_
    rintro e2 a2 w2 ⟨A2, H2, ρ5, k2, s2, ra5, g5, ext5⟩
    obtain ⟨g5', key5, ⟨Fo5, wt5, hFo5⟩, foot5⟩ := gb.atBack wtb g5
    have hs2 : w1.heap.size ≤ w2.heap.size := by have := g5.below.size; simp only [startAt] at this; omega
    have e5 := ext5 rfl
    have small5 : ∀ i m, i < mbase → ρ5 i = some m → ρ4 i = some m := by
      intro i m hi h
      have hnx : i < H1.next := by have := g4.gb; unfold gbase at this; unfold mbase at hi; omega
      cases hr3 : ρ4 i with
      | none => rw [(e5.keep i hnx hr3).1] at h; cases h
      | some m' => rw [e5.le i m' hr3] at h; exact h
    have nfl4 : ¬ Foot ρ4 Fo4 lr := by
      rintro (⟨i, m, h1, h2, h3⟩ | h)
      · exact lr4 i m h2 h3
      · exact f4 h
    have foot5' : ∀ k, Foot ρ5 Fo5 k → Foot ρ Fo k ∨ w.heap.size ≤ k := by
      rintro k (⟨i, m, h1, h2, rfl⟩ | h)
      · rcases foot5 i m h1 h2 with h | h
        · exact foot4' _ h
        · exact .inr (by omega)
      · rcases hFo5 k h with h | h
        · exact foot4' _ (.inr h)
        · exact .inr (by omega)
    have hL2 : w2.heap[lr]? = some (.loop { L with state := .busy }) := (key5 lr (by omega) nfl4).trans hLb1
    have hlr2 : lr < w2.heap.size := by omega
    obtain ⟨μ, hgood, hleft⟩ := rend_out k2
    simp only [rowGood, Bool.and_eq_true] at hgood
    obtain ⟨hall, hrow⟩ := hgood
    have hok : MuOK μ (heapOf (gcB H2 μ μ)).next := by simp only [gcAll, Bool.and_eq_true] at hall; exact gcGood_ok hall.1
    have ra0 : ActR ρ5 (actOf sz s) a := ra.mono (Ren.le_trans hle3 (Ren.le_trans e4.le e5.le))
    obtain ⟨g6, ra6⟩ := gc_sub g5' ra0 hall
    have wt6 := gc_wit g5' wt5 hok
    have hrow' : ∀ i j, (i, j) ∈ μ → i < wbase ∨ hbase ≤ i := fun i j hij => by
      have := List.all_eq_true.1 hrow _ hij
      simpa using this
    have muBig : ∀ i j, (i, j) ∈ μ → mbase ≤ j → mbase ≤ i := fun i j hij hj => by
      rcases hok.cls i j hij with h | h
      · omega
      · exact mb_of h.1
    have muSmall : ∀ i j, (i, j) ∈ μ → j < mbase → i = j := fun i j hij hj => by
      rcases hok.cls i j hij with h | h
      · exact h.2.symm
      · have := h.2.1; unfold gbase at this; unfold mbase at hj; omega
    have small6 : ∀ i m, i < mbase → μ.ren ρ5 i = some m → ρ i = some m := by
      intro i m hi h
      obtain ⟨i0, hi0, hr0⟩ := Mu.ren_some h
      obtain rfl := muSmall _ _ hi0 hi
      rcases hnew3 _ m (small4 _ m hi (small5 _ m hi hr0)) with h | ⟨q1, q2, _⟩
      · exact h
      · rcases hrow' _ _ hi0 with h | h <;> omega
    have foot6 : ∀ k, Foot (μ.ren ρ5) (fun k => (∃ own rest, (heapOf (gcB H2 μ μ)).get ynum = some (.yld own rest)) ∧ Fo5 k) k → Foot ρ5 Fo5 k := by
      rintro k (⟨i, m, h1, h2, h3⟩ | h)
      · obtain ⟨i0, hi0, hr0⟩ := Mu.ren_some h2
        exact .inl ⟨i0, m, muBig _ _ hi0 h1, hr0, h3⟩
      · exact .inr h.2
    have nfl5 : ¬ Foot ρ5 Fo5 lr := fun h => by
      rcases foot5' lr h with h | h
      · rcases h with ⟨i, m, h1, h2, h3⟩ | h
        · exact hm i m h2 h3
        · exact hf h
      · omega
    have lr6 : ∀ i m, μ.ren ρ5 i = some m → m.b ≠ lr := by
      intro i m h e
      rcases Nat.lt_or_ge i mbase with hl | hl
      · exact hm i m (small6 i m hl h) e
      · exact nfl5 (foot6 _ (.inl ⟨i, m, hl, h, e⟩))
    have f6 : ¬ ((∃ own rest, (heapOf (gcB H2 μ μ)).get ynum = some (.yld own rest)) ∧ Fo5 lr) := fun h => nfl5 (.inr h.2)
    have fin : ∀ (jump : Option Code), JumpIs e2 jump → ∃ v w', (Instr.endRound lr jump).run P w2 = .ok v w' ∧ RoundQ sz B X w0 ρ Fo w a lr L (.returned v) w' := fun jump hj => by
      obtain ⟨g7, wt7⟩ := g6.record wt6 h0 lr6 f6 (.loop { ({ L with state := .busy } : Loop) with state := if jump.isNone then .ready else .done, pending := jump })
      refine ⟨_, _, run_endRound jump hL2, ?_⟩
      refine ⟨jump, e2, _, _, _, _, _, rfl, hleft, hj, g7, wt7, ra6, World.putObj_heap_same hlr2, rfl, g5.below.os.trans g4.below.os, g5.below.tape.trans g4.below.tape, g5.below.output.trans g4.below.output, (by simp [World.putObj]; omega), (fun k hk hkl hkf => by
          have nf3 : ¬ Foot ρ3 Fo k := fun h => hkf (foot3 k h)
          have nf4 : ¬ Foot ρ4 Fo4 k := fun h => by
            rcases foot4' k h with h | h
            · exact hkf h
            · omega
          rw [World.putObj_heap_other hkl, key5 k (by omega) nf4, World.putObj_heap_other hkl, key4 k hk nf3]), (fun k hk => foot5' k (foot6 k hk)), lr6, f6, small6, (fun q q1 q2 => ?_)⟩
      have no : ∀ i, (i, q) ∉ μ := by
        intro i hi
        have := muSmall _ _ hi (by unfold hbase at q2; unfold mbase; omega)
        subst this
        rcases hrow' _ _ hi with h | h <;> omega
      refine ⟨?_, fun o ho => ?_⟩
      · cases hr : μ.ren ρ5 q with
        | none => rfl
        | some m => obtain ⟨i, hi, _⟩ := Mu.ren_some hr; exact absurd hi (no i)
      · obtain ⟨i, _, hi, _⟩ := gcB_mem ho
        exact no i hi
    cases e2 with
    | normal => exact fin none rfl
    | ret => exact fin (some .ret) rfl
    | exit i => exact fin (some (.exit i)) rfl
    | _ => exact hleft.elim
  | _ => exact k1.elim

/-- The end of a function that is ranged over: all has been handed on, or the rounds have stopped. -/
def EndY : Value → Blocks → Prop := fun _ bs => ∃ r, (heapOf bs).get ynum = some (.yld false r) ∧ (r = some [] ∨ r = none)
/-- Where the caller stands between two rounds. -/
def StandsAt (J : List (List D) → Slots → Blocks → Prop) (X : Exit → Slots → Blocks → Prop) (rest : Option (List (List D))) (L : Loop) (s : Slots) (b : Blocks) : Prop :=
  match rest with
  | some r => L.state = .ready ∧ L.pending = none ∧ J r s b
  | none => L.state = .done ∧ ∃ e c, L.pending = some c ∧ X e s b ∧ ((e = .ret ∧ c = .ret) ∨ ∃ i, e = .exit i ∧ c = .exit i)
structure Stands (w0 : Start P) (sz : Nat) (fn : FuncId) (ps : Array Tmp) (x y : Code) (tmps : Array Value) (a : Act) (D0 lr N : Nat) (F0 : Nat → Prop) (J : List (List D) → Slots → Blocks → Prop) (X : Exit → Slots → Blocks → Prop)
    (rest : Option (List (List D))) (F : Nat → Prop) (w' : World) (ρ' : Ren) (s' : Slots) (b' : Blocks) (Fo' : Nat → Prop) (L : Loop) : Prop where
  gam : Gam w0 ρ' (heapOf b') w'
  wit : Wit w0 ρ' (heapOf b') w' Fo'
  act : ActR ρ' (actOf sz s') a
  hL : w'.heap[lr]? = some (.loop L)
  lp : L.fn = fn ∧ L.tmps = tmps ∧ L.params = ps ∧ L.assign = x ∧ L.body = y ∧ L.defers = D0
  st : StandsAt J X rest L s' b'
  foot : ∀ k, F k ↔ (k = lr ∨ Foot ρ' Fo' k)
  sub : ∀ k, F k → k < N → F0 k
  lrn : ∀ i m, ρ' i = some m → m.b ≠ lr
  lrf : ¬ Fo' lr
  low : ∀ i m, i < mbase → ρ' i = some m → m.b < N ∧ ¬ F0 m.b
  win : ∀ q, wbase ≤ q → q < hbase → ρ' q = none ∧ ∀ o, (q, o) ∉ b'

/-- THE RULE OF A RANGE OVER A FUNCTION. rows: what the function hands on; J: what is known of the caller while such a rest is still to come; X: where a round leaves the statement. -/
theorem range_rule (hh : HandlerOK P h) (hmix : P.follows .mixedOrders = true) {u : Nat} (hu : u ≠ 0) {sz : Nat} {f : Operand} {ps : Array Tmp} {x y : Code} {l : Lv} {keep : List Tmp} {s : Slots} {b : Blocks} {K : Cont} {gf : FuncId} {first captured : Array Value}
    (hfv : (actOf sz s).eval f = .func (.func gf) first captured) (hen : enterable P gf = true) (hgood : enterGood (.func (.func gf) first captured) keep sz s b = true) {rows : List (List D)}
    (hit : CallS P gf (iterArgs (.func (.func gf) first captured) (heapOf b)) (iterBlocks (.func (.func gf) first captured) (heapOf b) rows) EndY)
    (J : List (List D) → Slots → Blocks → Prop) (X : Exit → Slots → Blocks → Prop) (h0 : J rows (enterS (.func (.func gf) first captured) keep sz s b) (enterB (.func (.func gf) first captured) keep sz s b))
    (hround : ∀ row rest s b, J (row :: rest) s b → roundR P h u sz ps x y l keep s b row (J rest) X)
    (hend : ∀ s b, J [] s b → K .normal (actOf sz s) (heapOf b)) (hX : ∀ e s b, X e s b → K e (actOf sz s) (heapOf b)) :
    Holds P false sz (.rangeFunc f ps x y) (actOf sz s) (heapOf b) K := by
  intro w0 ρ w a n g ra _
  simp only [enterGood, Bool.and_eq_true] at hgood
  obtain ⟨⟨hig, hdg⟩, hdef⟩ := hgood
  have iok := iterGood_ok hig
  have dok := demGood_ok hdg
  refine wpIn_rangeFunc fun fn _ => ?_
  have hrun := run_enterLoop_outer (P := P) (w := w) fn a.tmps ps x y
  -- the worlds
  let W1 : World := w.alloc (.deferred (some []))
  let L0 : Loop := { state := .ready, pending := none, fn, tmps := a.tmps, params := ps, assign := x, body := y, defers := w.heap.size }
  let W2 : World := W1.alloc (.loop L0)
  let lr : Nat := w.heap.size + 1
  have hW1 : W1.heap.size = w.heap.size + 1 := by simp [W1]
  have hW2 : W2.heap.size = w.heap.size + 2 := by simp [W2, W1]
  have hL2 : W2.heap[lr]? = some (.loop L0) := by
    have := alloc_get W1 (.loop L0)
    rw [hW1] at this
    exact this
  -- the caller
  let mD : Meta := ⟨w.heap.size, 0, 0, false, 0, 0, by omega⟩
  obtain ⟨g1, ext1⟩ := g.new .deferred (.deferred (some [])) mD rfl (alloc_get _ _)
  let ρ1 : Ren := ρ.put (heapOf b).next mD
  let a' : Act := { a with defers := { target := .collected w.heap.size, args := #[] } :: a.defers }
  have ra1 : ActR ρ1 (markA s b sz) a' := by
    refine ⟨ra.size, fun t => (ra.slot t).mono ext1.le, ?_, ?_⟩
    · simp [a', markA, ra.defers.1]
    · intro j D hj
      cases j with
      | zero =>
        simp only [markA, List.getElem?_cons_zero, Option.some.injEq] at hj
        subst hj
        exact ⟨mD, by simp [ρ1, Ren.put], rfl⟩
      | succ j =>
        simp only [markA, List.getElem?_cons_succ] at hj
        obtain ⟨m, h1, h2⟩ := ra.defers.2 j D hj
        exact ⟨m, ext1.le _ _ h1, h2⟩
  have hb12 : Below W1.heap.size W1 W2 := (Below.refl _ W1).alloc (Nat.le_refl _) _
  have g1' : Gam w0 ρ1 (markH b) W1 := g1
  obtain ⟨Fo, wt1⟩ := g1'.wit
  obtain ⟨g2, wt⟩ := g1'.same wt1 hb12.os hb12.tape hb12.output hb12.size (fun k hk _ => hb12.block k (Nat.lt_of_lt_of_le hk g1'.below.size)) (fun i m hm _ => hb12.block _ (g1'.own i m hm).1) (fun k hk => hb12.block k (wt1.bound g1' hk))
  have hFo : ∀ k, Fo k → k < lr := fun k hk => by have := wt1.bound g1' hk; rwa [hW1] at this
  have h0s : w0.w.heap.size ≤ w.heap.size := g.below.size
  obtain ⟨gd, wtd, big, small, win⟩ := dem_gam g2 wt dok
  have rad := act_S dok.toS ra1 hdef
  -- names
  let fv : Value := .func (.func gf) first captured
  let μd := demMu fv keep sz s b
  let ρd : Ren := μd.ren ρ1
  let Fd : Nat → Prop := fun k => (∃ own rest, (heapOf (gcB (markH b) μd μd)).get ynum = some (.yld own rest)) ∧ Fo k
  let F0 : Nat → Prop := fun k => k = lr ∨ Foot ρd Fd k
  have lt1 : ∀ i m, ρ1 i = some m → m.b < lr := fun i m hm => by have := (g1'.own i m hm).1; rwa [hW1] at this
  have lrd : ∀ i m, ρd i = some m → m.b ≠ lr := fun i m hm => by
    obtain ⟨i0, _, hr0⟩ := Mu.ren_some hm
    exact Nat.ne_of_lt (lt1 i0 m hr0)
  have offZ : ∀ i m, ρ1 i = some m → (markH b).live i → (i < mbase ∨ i ∈ (iterMu fv (heapOf b)).map (·.1)) → i ≠ ynum → ¬ F0 m.b := by
    intro i m hm hl hz hy hF
    rcases hF with e | ⟨j, mj, h1, h2, h3⟩ | hF
    · exact Nat.ne_of_lt (lt1 i m hm) e
    · obtain ⟨j0, _, hr0, hl0, hb0, hz0⟩ := big j mj h1 h2
      have := g2.inj j0 i mj m hb0 hl0 hl hr0 hm h3
      subst this
      rcases hz with hz | hz
      · omega
      · exact hz0 hz
    · have hF := hF.2
      by_cases hyl : ∃ own rest, (markH b).get ynum = some (.yld own rest)
      · obtain ⟨own, rest, hget⟩ := hyl
        obtain ⟨my, q1, q2, q3⟩ := wt.is own rest hget
        exact q3 i m hm hl hy hF
      · exact wt.no (fun own rest h => hyl ⟨own, rest, h⟩) _ hF
  have frd : ¬ Fd lr := fun h => Nat.lt_irrefl _ (hFo lr h.2)
  -- where the rounds stand
  let IT : Bool → Option (List (List D)) → (Nat → Prop) → Nat → World → Prop := fun own rest F l' w' => own = false ∧ l' = lr ∧ W2.heap.size ≤ w'.heap.size ∧ ∃ ρ' s' b' Fo' L, Stands w0 sz fn ps x y a.tmps a' w.heap.size lr W2.heap.size F0 J X rest F w' ρ' s' b' Fo' L
  let ml : Meta := ⟨lr, 0, 0, false, 0, 0, by omega⟩
  let μi := iterMu fv (heapOf b)
  let si : Start P := { w := W2, pin := iterRen μi ρ ml, free := F0, it := IT }
  have F0may : ∀ k, F0 k → k < w0.w.heap.size → w0.may k := fun k hk hlt => by
    rcases hk with e | hk
    · simp only [lr] at e; omega
    · exact foot_may gd wtd hk hlt
  have siown : ∀ k, si.own k → k = lr := by
    rintro k (⟨j, m, h1, h2, h3, h4⟩ | h)
    · simp only [si, iterRen] at h3
      split at h3
      · cases h3; exact h4.symm
      · obtain ⟨i, hi, _⟩ := Mu.ren_some h3
        have := (iok.cls _ _ hi).2.2.2; omega
    · exact h.elim
  have siok : ItOK si := by
    refine ⟨?_, ?_, ?_, ?_⟩
    · rintro own rest F l' w' ⟨_, rfl, _, ρ', s', b', Fo', L, S⟩ k hk
      rcases (S.foot k).1 hk with e | hk
      · rw [e]
        rcases Nat.lt_or_ge lr w'.heap.size with h | h
        · exact h
        · have := S.hL; rw [Array.getElem?_eq_none h] at this; cases this
      · exact foot_lt S.gam S.wit hk
    · rintro own rest F l' w' ⟨_, rfl, _, ρ', s', b', Fo', L, S⟩ k hk hlt
      exact S.sub k hk hlt
    · rintro own rest F l' w' w'' ⟨ho, rfl, hsz, ρ', s', b', Fo', L, S⟩ h1 h2 h3 hs hk
      have hF : ∀ k, F k → w''.heap[k]? = w'.heap[k]? := fun k hf => by
        rcases (S.foot k).1 hf with e | hf2
        · refine hk k ?_ (.inr hf)
          rw [e]
          rcases Nat.lt_or_ge lr w'.heap.size with h | h
          · exact h
          · have := S.hL; rw [Array.getElem?_eq_none h] at this; cases this
        · exact hk k (foot_lt S.gam S.wit hf2) (.inr hf)
      obtain ⟨g', wt'⟩ := S.gam.same S.wit h1 h2 h3 hs (fun k hlt hm => by
          refine hk k (by omega) (.inl ⟨by show k < W2.heap.size; omega, fun hmay => ?_⟩)
          rcases hmay with hmay | hmay
          · have := siown k hmay; simp only [lr] at this; omega
          · exact hm (F0may k hmay hlt)) (fun i m hm _ => by
          rcases Nat.lt_or_ge i mbase with hl | hl
          · obtain ⟨q1, q2⟩ := S.low i m hl hm
            refine hk _ (S.gam.own i m hm).1 (.inl ⟨q1, fun hmay => ?_⟩)
            rcases hmay with hmay | hmay
            · exact S.lrn i m hm (siown _ hmay)
            · exact q2 hmay
          · exact hF _ ((S.foot _).2 (.inr (.inl ⟨i, m, hl, hm, rfl⟩)))) (fun k hfo => hF k ((S.foot k).2 (.inr (.inr hfo))))
      exact ⟨ho, rfl, Nat.le_trans hsz hs, ρ', s', b', Fo', L, g', wt', S.act, (hF lr ((S.foot lr).2 (.inl rfl))).trans S.hL, S.lp, S.st, S.foot, S.sub, S.lrn, S.lrf, S.low, S.win⟩
    · rintro row rest F l' w' ⟨_, rfl, hsz, ρ', s', b', Fo', L, S⟩ args' hrd
      obtain ⟨l1, l2, l3, l4, l5, l6⟩ := S.lp
      obtain ⟨st1, st2, st3⟩ := S.st
      have hr := hround row rest s' b' st3
      have hR := fun rC n => round_run (P := P) (Fo := Fo') hh hmix hu hr S.gam S.wit S.act S.hL (by simp only [lr]; omega) (l2.trans rfl) l3 l4 l5 st1 S.lrn S.lrf S.win (F := F) ((S.foot lr).2 (.inl rfl)) (fun k hk => (S.foot k).2 (.inr hk)) hrd rC n
      refine ⟨L, S.hL, (hR none 0).1, fun rC n => (hR rC n).2.mono ?_⟩
      rintro e w3 ⟨jump, ex, ρ3, s3, b3, Fo3, L3, rfl, hleft, hj, g3, wt3, ra3, hL3, hLe, q1, q2, q3, q4, q5, q6, q7, q8, q9, q10⟩
      refine ⟨jump.isNone, fun k => k = lr ∨ Foot ρ3 Fo3 k, rfl, ⟨rfl, rfl, Nat.le_trans hsz q4, ρ3, s3, b3, Fo3, L3, g3, wt3, ra3, hL3, ?_, ?_, fun k => Iff.rfl, ?_, q7, q8, ?_, q10⟩, q1, q2, q3, q4, ?_, ?_⟩
      · rw [hLe]; exact ⟨l1, l2, l3, l4, l5, l6⟩
      · cases ex with
        | normal =>
          have hj' : jump = none := hj
          subst hj'
          rw [hLe]
          exact ⟨rfl, rfl, hleft⟩
        | ret =>
          have hj' : jump = some .ret := hj
          subst hj'
          rw [hLe]
          exact ⟨rfl, .ret, .ret, rfl, hleft, .inl ⟨rfl, rfl⟩⟩
        | exit i =>
          have hj' : jump = some (.exit i) := hj
          subst hj'
          rw [hLe]
          exact ⟨rfl, .exit i, .exit i, rfl, hleft, .inr ⟨i, rfl, rfl⟩⟩
        | _ => exact hleft.elim
      · rintro k (e | hk) hlt
        · exact .inl e
        · rcases q6 k hk with h | h
          · exact S.sub k ((S.foot k).2 (.inr h)) hlt
          · omega
      · intro i m hi hm
        exact S.low i m hi (q9 i m hi hm)
      · intro k hk hnf
        exact q5 k hk (fun e => hnf ((S.foot k).2 (.inl e))) (fun hf => hnf ((S.foot k).2 (.inr hf)))
      · rintro k (e | hk)
        · exact .inl ((S.foot k).2 (.inl e))
        · exact (q6 k hk).imp (fun h => (S.foot k).2 (.inr h)) id
  have hit0 : si.it false (some rows) F0 ml.b W2 := by
    refine ⟨rfl, rfl, Nat.le_refl _, ρd, _, _, Fd, L0, gd, wtd, rad, hL2, ⟨rfl, rfl, rfl, rfl, rfl, rfl⟩, ⟨rfl, rfl, h0⟩, fun k => Iff.rfl, fun k hk _ => hk, lrd, frd, ?_, win⟩
    intro i m hi hm
    obtain ⟨i0, hi0, hr0, hl0, hz0⟩ := small i m hi hm
    refine ⟨(g2.own i0 m hr0).1, offZ i0 m hr0 hl0 hz0 (fun e => ?_)⟩
    subst e
    rcases hz0 with h | h
    · exact absurd h (by decide)
    · obtain ⟨p, hp, e⟩ := List.mem_map.1 h
      obtain ⟨p1, p2⟩ := p
      simp only at e
      subst e
      rcases (iok.cls _ _ hp).2.1 with h | h
      · exact absurd h (by decide)
      · exact absurd h (by decide)
  -- the function that is ranged over
  have hbl : Below w.heap.size w W2 := ((Below.refl _ w).alloc (Nat.le_refl _) _).alloc (by simp) _
  have hgetm : ∀ i o, (heapOf b).get i = some o → (∃ m, ρ i = some m) → (markH b).get i = some o := fun i o ho ⟨m, hm⟩ => by
    have := g.lt hm
    show ((heapOf b).new .deferred).get i = _
    rw [Heap.get_new, if_neg (by omega)]; exact ho
  have hplaced : ∀ p ∈ μi, Placed ρ p.1 := by
    have hf := ra.eval f
    rw [hfv] at hf
    exact reachV_placed g _ _ _ _ (fun i hi => blocksV_placed 8 _ _ hf i hi) (fun p hp => by cases hp)
  have gi : Gam si (iterRen μi ρ ml) (heapOf ((ynum, .yld false (some rows)) :: gcB (heapOf b) μi μi)) W2 := by
    refine iter_gam g iok (ml := ml) (by simp only [ml, lr]; omega) (by simp only [ml, lr]; omega) hbl (by simp only [ml, lr]; omega) rfl rfl (fun k h => h) (fun q hq hF => ?_) siok hit0 (fun i j m hij hr => ?_)
    · obtain ⟨v1, v2⟩ := g.vars q hq
      have h6 := VarKind.ok_some v1
      have h7 : q.1 < w0.w.heap.size := by
        rcases Nat.lt_or_ge q.1 w0.w.heap.size with h | h
        · exact h
        · rw [Array.getElem?_eq_none h] at h6; cases h6
      exact v2 (F0may _ hF h7)
    · obtain ⟨o, _, ho, _, hal⟩ := iok.live i j hij
      refine offZ i m (ext1.le _ _ hr) ⟨o, hgetm i o ho ⟨m, hr⟩, hal⟩ (.inr (List.mem_map.2 ⟨_, hij, rfl⟩)) (fun e => ?_)
      subst e
      rcases (iok.cls _ _ hij).2.1 with h | h
      · exact absurd h (by decide)
      · exact absurd h (by decide)
  have hf := ra.eval f
  rw [hfv] at hf
  obtain ⟨fvC, hfvC⟩ : ∃ fvC, a.eval f = fvC := ⟨_, rfl⟩
  rw [hfvC] at hf
  cases hf with
  | func _ _ _ first' captured' ha hb rfa rfb =>
    have hres : (resolve a.eval (rangeCall f lr) 0).run P W2 = .ok { target := .fn (.func gf) captured', args := first' ++ #[.func (.yield lr) #[] #[]] } W2 := by
      have hmap : (#[Operand.const (Value.func (.yield lr) #[] #[])]).map a.eval = #[Value.func (.yield lr) #[] #[]] := by simp [Act.eval]
      simp only [resolve, hfvC, Deferred.ofValue, hmap]
      rfl
    have hinv : (invoke (.fn (.func gf) captured') (first' ++ #[.func (.yield lr) #[] #[]])).run P W2 = .ok (.enter gf (first' ++ #[.func (.yield lr) #[] #[]] ++ captured')) W2 := enterable_run hen _ W2
    refine ⟨lr, _, W2, _, W2, gf, _, W2, by rw [Fr_round]; exact hrun, hres, fun f' _ => Fr_fn _ _, hinv, by rw [Fr_depth]; simp, ?_⟩
    have hle : (μi.ren ρ).le (iterRen μi ρ ml) := by
      intro j m h
      obtain ⟨i, hi, _⟩ := Mu.ren_some h
      unfold iterRen
      rw [if_neg (fun e => by have := (iok.cls _ _ hi).2.2.2; subst e; exact absurd this (by decide))]; exact h
    have hargs : LR (iterRen μi ρ ml) (iterArgs fv (heapOf b)) (first' ++ #[Value.func (.yield lr) #[] #[]] ++ captured').toList := by
      simp only [Array.toList_append]
      refine LR.append (LR.append ?_ (.cons ?_ .nil)) ?_
      · exact (LR.map_S iok.toS (LR.of_arr ha rfa)).mono hle
      · exact .yield ynum ml (by simp [iterRen])
      · exact (LR.map_S iok.toS (LR.of_arr hb rfb)).mono hle
    refine (Fr_calls (hit si _ W2 _ (n - 1) gi hargs)).mono ?_
    rintro e2 w3 ⟨v, bs, ρ3, v', ⟨r, hget, hr⟩, rfl, hv, g3⟩
    obtain ⟨m, F, hm, ⟨_, hmb, hsz, ρ', s', b', Fo', L, S⟩, _⟩ := g3.yld false r hget
    have hb' : L.state ≠ .busy := by
      rcases hr with rfl | rfl
      · rw [S.st.1]; simp
      · rw [S.st.1]; simp
    refine ⟨_, _, run_endLoop (P := P) S.hL hb', ?_⟩
    obtain ⟨g4, _⟩ := S.gam.record S.wit (by simp only [lr]; omega) S.lrn S.lrf (.loop { L with state := .exhausted })
    rcases hr with rfl | rfl
    · obtain ⟨_, hp, hJ⟩ := S.st
      simp only [hp]
      exact ⟨_, _, ρ', hend _ _ hJ, rfl, S.act, by simpa only [hp] using g4, fun h => by cases h⟩
    · obtain ⟨_, e, c, hp, hXe, hec⟩ := S.st
      simp only [hp]
      rcases hec with ⟨rfl, rfl⟩ | ⟨i, rfl, rfl⟩
      · exact wpIn_ret ⟨_, _, ρ', hX _ _ _ hXe, rfl, S.act, by simpa only [hp] using g4, fun h => by cases h⟩
      · exact wpIn_exit ⟨_, _, ρ', hX _ _ _ hXe, rfl, S.act, by simpa only [hp] using g4, fun h => by cases h⟩
end Go.Abs

/- Functions with ranges over functions, loops, cuts, and ranges within loops. -/
namespace Go.Abs
open Go.RowKit
variable {P : Program} {ρ : Ren} {w0 : Start P} {w : World} {H : Heap} {h : Handler} {L : AtLoop} {J : List Nat}

/-- What must be shown of a range at one of its heads. -/
def RangeAt (P : Program) (head : (FuncId → List Value → Blocks → Slots → Blocks → Prop) → Prop) (round : Slots → Blocks → List D → Kx → (Exit → Kx) → Prop) (N : Kx) (X : Exit → Kx) : Prop :=
  head fun g args bl s' b' => ∃ (rows : List (List D)) (Jr : List (List D) → Kx), CallS P g args ((ynum, .yld false (some rows)) :: bl) EndY ∧ Jr rows s' b' ∧
    (∀ row rest s b, Jr (row :: rest) s b → round s b row (Jr rest) X) ∧ ∀ s b, Jr [] s b → N s b
/-- A range over a function, at the top of a function. -/
structure RangeJ (P : Program) (h : Handler) (J : List Nat) (f : FuncId) (id : Nat) (L : AtLoop) (F : Value → Heap → Prop) : Type 1 where
  at_ : ∀ s b, L id s b → RangeAt P (rHead P f id s b) (rRound P h f id) (fun s b => jNext P h L J f id .normal s b F) (fun e s b => jNext P h L J f id e s b F)
/-- A range over a function, within a loop. -/
structure RangeJ2 (P : Program) (h : Handler) (J : List Nat) (f : FuncId) (id id2 : Nat) (L : AtLoop) (B : Kx) (X : Xk) (F : Value → Heap → Prop) : Type 1 where
  at_ : ∀ s b, L id2 s b → RangeAt P (rHead2 P f id id2 s b) (rRound2 P h f id id2) (fun s b => jIn P h L J f id id2 .normal s b B X F) (fun e s b => jIn P h L J f id id2 e s b B X F)

theorem headOf_holds (hh : HandlerOK P h) (hmix : P.follows .mixedOrders = true) {sz : Nat} {body : Code} {l : Lv} {s : Slots} {b : Blocks} {N : Kx} {X : Exit → Kx} {K : Cont} (hN : ∀ s b, N s b → K .normal (actOf sz s) (heapOf b)) (hX : ∀ e s b, X e s b → K e (actOf sz s) (heapOf b))
    (hk : RangeAt P (headOf P sz (body, l) s b) (rowOfR P h sz (body, l)) N X) : Holds P false sz body (actOf sz s) (heapOf b) K := by
  unfold RangeAt headOf at hk
  cases body with
  | rangeFunc f ps x y =>
    simp only at hk
    split at hk
    · rename_i g first captured hfv
      obtain ⟨hgood, rows, Jr, hit, h0, hround, hend⟩ := bcase_out hk
      simp only [Bool.and_eq_true] at hgood
      exact range_rule hh hmix (u := 8) (by decide) hfv hgood.1 hgood.2 (rows := rows) hit Jr X h0 (fun row rest s b hJ => hround row rest s b hJ) (fun s b hJ => hN _ _ (hend s b hJ)) hX
    · exact hk.elim
  | _ => exact hk.elim

theorem rangeJ_holds (hh : HandlerOK P h) (hmix : P.follows .mixedOrders = true) {f : FuncId} {fn : Func} {c : Code} (hf : P.funcs[f]? = some fn) (hc : fn.body = some c) {id : Nat} {F : Value → Heap → Prop} {body : Code} {l' : Lv} (hfl : findLoop c (fnLv fn) id = some (body, l'))
    (g : RangeJ P h J f id L F) {s : Slots} {b : Blocks} (hs : L id s b) :
    Holds P false (fnSize fn) body (actOf (fnSize fn) s) (heapOf b) (fun e A H => aftJ P h L J c (fnLv fn) id e A H (fnK P fn F)) := by
  have := g.at_ s b hs
  unfold rHead rRound at this
  simp only [hf, hc, hfl] at this
  exact headOf_holds hh hmix (fun s b hN => by simpa only [jNext, hf, hc] using hN) (fun e s b hX => by simpa only [jNext, hf, hc] using hX) this
theorem rangeJ2_holds (hh : HandlerOK P h) (hmix : P.follows .mixedOrders = true) {f : FuncId} {fn : Func} {c : Code} (hf : P.funcs[f]? = some fn) (hc : fn.body = some c) {id id2 : Nat} {F : Value → Heap → Prop} {B : Kx} {X : Xk} {body : Code} {l' : Lv} (hfl : findLoop c (fnLv fn) id = some (body, l')) {body2 : Code} {l2 : Lv} (hf2 : findLoop body l' id2 = some (body2, l2))
    (g : RangeJ2 P h J f id id2 L B X F) {s : Slots} {b : Blocks} (hs : L id2 s b) :
    Holds P false (fnSize fn) body2 (actOf (fnSize fn) s) (heapOf b) (fun e A H => aftJ P h L J body l' id2 e A H (roundK body l' B X (fnK P fn F))) := by
  have := g.at_ s b hs
  unfold rHead2 rRound2 at this
  simp only [hf, hc, hfl, hf2] at this
  exact headOf_holds hh hmix (fun s b hN => by simpa only [jIn, hf, hc, hfl] using hN) (fun e s b hX => by simpa only [jIn, hf, hc, hfl] using hX) this
theorem isRange_stmt {id : Nat} {body : Code} (h : ¬ id < rbase) : stmtOf id body = body := by simp [stmtOf, h]

/-- A loop of a function, with loops and ranges within. -/
structure LoopJR (P : Program) (h : Handler) (J : List Nat) (f : FuncId) (c : Code) (lv : Lv) (id : Nat) (L : AtLoop) (F : Value → Heap → Prop) : Type 1 where
  Y : Type
  st : Y → Slots × Blocks
  inv : Y → Prop
  m : Y → Nat
  head : ∀ s b, L id s b → ∃ y, inv y ∧ st y = (s, b)
  pts : List Nat
  loops : List Nat
  is : ((findLoop c lv id).map fun r => (ptIds J r.1, loopIds r.1)) = some (pts, loops)
  nd : nodupB pts = true
  lt : id < rbase
  round : ∀ y, inv y → ∃ L2 : AtLoop,
    jRound P h L2 J f id (st y).1 (st y).2 (fun s b => ∃ z, inv z ∧ m z < m y ∧ st z = (s, b)) (fun i s b => if i = id then jNext P h L J f id .normal s b F else jNext P h L J f id (.exit i) s b F) F ∧
    (∀ id2 ∈ pts, id2 ∉ loops → ∀ s b, L2 id2 s b → jIn P h L2 J f id id2 .normal s b (fun s b => ∃ z, inv z ∧ m z < m y ∧ st z = (s, b)) (fun i s b => if i = id then jNext P h L J f id .normal s b F else jNext P h L J f id (.exit i) s b F) F) ∧
    (∀ id2 ∈ loops, id2 < rbase → Nonempty (LoopJ2 P h J f c lv id id2 L2 (fun s b => ∃ z, inv z ∧ m z < m y ∧ st z = (s, b)) (fun i s b => if i = id then jNext P h L J f id .normal s b F else jNext P h L J f id (.exit i) s b F) F)) ∧
    (∀ id2 ∈ loops, ¬ id2 < rbase → Nonempty (RangeJ2 P h J f id id2 L2 (fun s b => ∃ z, inv z ∧ m z < m y ∧ st z = (s, b)) (fun i s b => if i = id then jNext P h L J f id .normal s b F else jNext P h L J f id (.exit i) s b F) F))
theorem loopJR_holds (hh : HandlerOK P h) (hmix : P.follows .mixedOrders = true) {f : FuncId} {fn : Func} {c : Code} (hf : P.funcs[f]? = some fn) (hc : fn.body = some c) {id : Nat} {F : Value → Heap → Prop} {body : Code} {l' : Lv} (hfl : findLoop c (fnLv fn) id = some (body, l'))
    (g : LoopJR P h J f c (fnLv fn) id L F) {s : Slots} {b : Blocks} (hs : L id s b) :
    Holds P false (fnSize fn) (stmtOf id body) (actOf (fnSize fn) s) (heapOf b) (fun e A H => aftJ P h L J c (fnLv fn) id e A H (fnK P fn F)) := by
  obtain ⟨y, hy, he⟩ := g.head s b hs
  have e1 : (g.st y).1 = s := congrArg Prod.fst he
  have e2 : (g.st y).2 = b := congrArg Prod.snd he
  have his := g.is
  rw [hfl] at his
  simp only [Option.map_some, Option.some.injEq, Prod.mk.injEq] at his
  have hst : stmtOf id body = .block id (.loop body) := by simp [stmtOf, g.lt]
  rw [hst]
  have eqX : ∀ i s b, (if i = id then jNext P h L J f id .normal s b F else jNext P h L J f id (.exit i) s b F) = (if i = id then aftJ P h L J c (fnLv fn) id .normal (actOf (fnSize fn) s) (heapOf b) (fnK P fn F) else aftJ P h L J c (fnLv fn) id (.exit i) (actOf (fnSize fn) s) (heapOf b) (fnK P fn F)) := by
    intro i s b
    simp only [jNext, hf, hc]
  have := loop_ruleJ (P := P) (h := h) (J := J) (sz := fnSize fn) hh hmix g.st g.inv g.m (id := id) (body := body) (l' := l') (k := fun e A H => aftJ P h L J c (fnLv fn) id e A H (fnK P fn F)) (R := fnK P fn F)
    (fun y hy => by
      obtain ⟨L2, h1, h2, h3, h3r⟩ := g.round y hy
      refine ⟨L2, ?_, ptsOK_of body (by rw [his.1]; exact g.nd) (fun id2 b2 l2 hf2 hr2 s b hs2 => ?_) (fun id2 hi2 hf2 s b hs2 => ?_)⟩
      · unfold jRound at h1
        simp only [hf, hc, hfl, eqX] at h1
        exact h1
      · have hm : id2 ∈ g.loops := by rw [← his.2]; exact findLoop_ids _ _ _ hf2
        by_cases hlt : id2 < rbase
        · obtain ⟨g2⟩ := h3 id2 hm hlt
          have := loopJ2_holds hh hmix hf hc hfl hf2 g2 hr2 hs2
          simp only [eqX] at this
          exact this
        · obtain ⟨g2⟩ := h3r id2 hm hlt
          rw [isRange_stmt hlt]
          have := rangeJ2_holds hh hmix hf hc hfl hf2 g2 hs2
          simp only [eqX] at this
          exact this
      · have hnl : id2 ∉ g.loops := by
          intro hm
          rw [← his.2] at hm
          have := findLoop_some body l' id2 hm
          rw [hf2] at this
          cases this
        have h4 := h2 id2 (by rw [his.1] at hi2; exact hi2) hnl s b hs2
        unfold jIn at h4
        simp only [hf, hc, hfl, eqX] at h4
        exact h4)
    (fun e A H he hR => by subst he; exact aftJ_ret c (findLoop_pt c _ id hfl) hR)
    (fun e A H h1 h2 hR => by cases e <;> first | exact h1 rfl | exact h2 rfl | exact hR)
    y hy
  rw [e1, e2] at this
  exact this

theorem ptsOK_goodR (hh : HandlerOK P h) (hmix : P.follows .mixedOrders = true) {f : FuncId} {fn : Func} {c : Code} (hf : P.funcs[f]? = some fn) (hc : fn.body = some c) {F : Value → Heap → Prop} {pts loops : List Nat} (his : (ptIds J c, loopIds c) = (pts, loops)) (hn : nodupB pts = true)
    (hcut : ∀ id ∈ pts, id ∉ loops → ∀ s b, L id s b → jNext P h L J f id .normal s b F)
    (hl : ∀ id ∈ loops, id < rbase → Nonempty (LoopJR P h J f c (fnLv fn) id L F)) (hr : ∀ id ∈ loops, ¬ id < rbase → Nonempty (RangeJ P h J f id L F)) : ptsOK P h L J (fnSize fn) c (fnLv fn) (fnK P fn F) := by
  simp only [Prod.mk.injEq] at his
  refine ptsOK_of c (by rw [his.1]; exact hn) (fun id body l' hfl _ s b hs => ?_) (fun id hi hfl s b hs => ?_)
  · have hm : id ∈ loops := by rw [← his.2]; exact findLoop_ids _ _ _ hfl
    by_cases hlt : id < rbase
    · obtain ⟨g⟩ := hl id hm hlt
      exact loopJR_holds hh hmix hf hc hfl g hs
    · obtain ⟨g⟩ := hr id hm hlt
      rw [isRange_stmt hlt]
      exact rangeJ_holds hh hmix hf hc hfl g hs
  · have hnl : id ∉ loops := by
      intro hm
      rw [← his.2] at hm
      have := findLoop_some c (fnLv fn) id hm
      rw [hfl] at this
      cases this
    have h4 := hcut id (by rw [his.1] at hi; exact hi) hnl s b hs
    unfold jNext at h4
    simp only [hf, hc] at h4
    exact h4

/-- A FUNCTION IS PROVED, with ranges over functions: a contract in data. -/
theorem con_JR (hh : HandlerOK P h) (hmix : P.follows .mixedOrders = true) (J : List Nat) {L : AtLoop} {f : FuncId} {fn : Func} {c : Code} (hf : P.funcs[f]? = some fn) (hc : fn.body = some c) {ds rs : List D} (hcount : countV ds ≤ 400) (hsz : ds.length = fn.params.size) {pts loops : List Nat} (his : (ptIds J c, loopIds c) = (pts, loops)) (hn : nodupB pts = true)
    (hk : ∀ caps, capsL 40 (layVals caps 500 ds).1 → jFn P h L J f (layVals caps 500 ds).1.toArray (heapOf (layVals caps 500 ds).2) (dataK (· = rs)))
    (hcut : ∀ id ∈ pts, id ∉ loops → ∀ s b, L id s b → jNext P h L J f id .normal s b (dataK (· = rs)))
    (hl : ∀ id ∈ loops, id < rbase → Nonempty (LoopJR P h J f c (fnLv fn) id L (dataK (· = rs)))) (hr : ∀ id ∈ loops, ¬ id < rbase → Nonempty (RangeJ P h J f id L (dataK (· = rs)))) : Con P f ds rs := by
  intro w args hgood hrd
  obtain ⟨caps, ρ, hst, g, ha⟩ := lay_gam hgood hrd hcount
  have hsz2 : max (layVals caps 500 ds).1.toArray.size fn.ntmps = fnSize fn := by simp [fnSize, layVals_len, hsz]
  refine callsIn_wide.1 ((jFn_run hh hmix hf hc (hk caps (capsL_of 40 ha)) (by rw [hsz2]; exact ptsOK_goodR hh hmix hf hc his hn hcut hl hr) g 0 (by simpa using ha)).mono ?_)
  rintro e w' ⟨v, H', ρ', v', hkv, rfl, hv, g'⟩
  obtain ⟨vs, ds', u, rfl, h1, rfl⟩ := dataK_out g' hst hv hkv
  exact ⟨⟨vs, u, rfl, h1⟩, g'.below.below hst⟩
#print axioms con_JR
end Go.Abs

/- A call that gives back a new slice and changes nothing. -/
namespace Go.Abs
variable {P : Program} {ρ : Ren} {w0 : Start P} {w : World} {H : Heap}
/-- the calls that end so -/
def freshS (P : Program) (g : FuncId) (es : Nat) (args : List Value) (bs : Blocks) (n : Nat) (out : List Value) : Prop := CallS P g args bs fun v b => v = .slice (some ⟨1000, 0, none⟩) n n ∧ b = [(1000, .sym out true es)]
structure GoodFresh (P : Program) (g : FuncId) (es : Nat) (args : List Value) (bs : Blocks) (n : Nat) (out : List Value) : Prop where
  call : freshS P g es args bs n out
def viewMu (args : List Value) (H : Heap) : Mu := reachV H 1000 (args.flatMap (blocksV 8)) [] hbase
def viewGood (μ : Mu) (H : Heap) : Bool := nodupB (μ.map (·.1)) && nodupB (μ.map (·.2)) && μ.all fun p => decide (abase ≤ p.1) && decide (hbase ≤ p.2) && decide (p.2 < mbase) && !(p.1 == ynum) && aliveIn μ H p.1
def freshH (P : Program) (g : FuncId) (es : Nat) : Handler := fun _ args _ H k =>
  bcase (viewGood (viewMu args.toList H) H) (∃ (n : Nat) (out : List Value), GoodFresh P g es (args.toList.map (mapV (viewMu args.toList H) 8)) (gcB H (viewMu args.toList H) (viewMu args.toList H)) n out ∧ k (.slice (some ⟨H.next, 0, none⟩) n n) (H.new (.sym out true es))) False
theorem viewGood_ok {μ : Mu} (h : viewGood μ H = true) : CallOK μ H ∧ ∀ i j, (i, j) ∈ μ → j < mbase := by
  simp only [viewGood, Bool.and_eq_true] at h
  have each : ∀ i j, (i, j) ∈ μ → abase ≤ i ∧ hbase ≤ j ∧ j < mbase ∧ i ≠ ynum ∧ aliveIn μ H i = true := fun i j hij => by
    have := List.all_eq_true.1 h.2 _ hij
    simp only [Bool.and_eq_true, decide_eq_true_eq, Bool.not_eq_true', beq_eq_false_iff_ne] at this
    obtain ⟨⟨⟨⟨a, b⟩, c⟩, d⟩, e⟩ := this
    exact ⟨a, b, c, d, e⟩
  refine ⟨⟨nodupB_spec h.1.1, nodupB_spec h.1.2, fun i j hij => ?_, fun i j hij => ?_, fun i j hij hj => ?_, fun i j hij => aliveIn_out (each i j hij).2.2.2.2⟩, fun i j hij => (each i j hij).2.2.1⟩
  · obtain ⟨a, b, c, _⟩ := each i j hij; exact ⟨a, b, by unfold mbase at c; unfold gbase; omega⟩
  · obtain ⟨_, _, c, d, _⟩ := each i j hij
    exact ⟨fun e => absurd e d, fun e => by subst e; exact absurd c (by decide)⟩
  · have := (each i j hij).2.2.1; omega
theorem mergeP_none {β : Mu} {bs : Blocks} : ∀ (l : Mu) (H : Heap), (∀ p ∈ l, p.2 < mbase) → mergeP β bs l H = H
  | [], _, _ => rfl
  | p :: r, H, h => by
    unfold mergeP
    rw [if_neg (by have := h p (List.mem_cons_self ..); omega)]
    exact mergeP_none r H (fun q hq => h q (List.mem_cons_of_mem _ hq))
theorem find_skip : ∀ (l : Mu) (r : Mu) (i : Nat), (∀ p ∈ l, p.1 ≠ i) → Mu.find (l ++ r) i = Mu.find r i
  | [], _, _, _ => rfl
  | (a, b) :: l, r, i, h => by
    have : a ≠ i := h (a, b) (List.mem_cons_self ..)
    simp only [List.cons_append, Mu.find]
    rw [if_neg this]
    exact find_skip l r i (fun p hp => h p (List.mem_cons_of_mem _ hp))
theorem objAt_one (β : Mu) (q : Nat) (out : List Value) (b : Bool) (es : Nat) : objAt β [(q, .sym out b es)] q = .sym out b es := by
  unfold objAt heapOf Heap.get
  simp only [List.foldl_cons, List.foldl_nil]
  rw [Tree.get_set _ _ _ _ _ (by omega), if_pos rfl]
  rfl
theorem news_one (q : Nat) (o : AObj) (h : gbase ≤ q) : (newsOf [(q, o)]).map (·.1) = [q] := by simp [newsOf, h]
theorem merged_one (μ : Mu) (q : Nat) (hq : gbase ≤ q) (out : List Value) (b : Bool) (es : Nat) (H : Heap) (hlt : ∀ p ∈ μ, p.2 < mbase) : merged μ [(q, .sym out b es)] H = H.new (.sym out b es) := by
  unfold merged
  rw [mergeP_none _ _ hlt, news_one q _ hq]
  unfold mergeN
  rw [objAt_one]
  rfl
theorem find_one (μ : Mu) (q : Nat) (hq : gbase ≤ q) (o : AObj) (n : Nat) (hlt : ∀ p ∈ μ, p.2 < mbase) : Mu.find (backMu μ n [(q, o)]) q = some n := by
  unfold backMu
  rw [news_one q o hq, find_skip _ _ _ (fun p hp => by
    obtain ⟨x, hx, rfl⟩ := List.mem_map.1 hp
    have := hlt _ hx
    intro e
    have e' : x.2 = q := e
    unfold mbase at this; unfold gbase at hq; omega)]
  simp [numFrom, Mu.find]
theorem mapV_one {β : Mu} {q i : Nat} (h : β.find q = some i) (n : Nat) : mapV β 8 (.slice (some ⟨q, 0, none⟩) n n) = .slice (some ⟨i, 0, none⟩) n n := by
  simp only [mapV, h]
theorem freshH_ok {g : FuncId} {es : Nat} {args : Array Value} {ats : Array TypeId} {k : Value → Heap → Prop} (hk : freshH P g es g args ats H k) : CallH P g args H k := by
  intro w0 ρ w args' m hg ha
  obtain ⟨hgood, n, out, ⟨hc⟩, hk⟩ := bcase_out hk
  obtain ⟨ok, hlt⟩ := viewGood_ok hgood
  have hp : ∀ p ∈ viewMu args.toList H, Placed ρ p.1 := reachV_placed hg _ _ _ _ (LR.placed (blocksV_placed 8) ha) (fun p hp => by cases hp)
  obtain ⟨s, hsC⟩ := startC hg ok
  have gC := callGam hg ok hp hsC
  refine (hc s _ w args' m gC (LR.map_S ok.toS ha)).mono ?_
  rintro e w' ⟨v, bs, ρ', v', ⟨rfl, rfl⟩, rfl, hv, g'⟩
  obtain ⟨ρm, gm, ext, hvr⟩ := mergeGam hg ok hp hsC g' (by rw [news_one _ _ (show gbase ≤ 1000 by decide)]; simp)
  have hlt' : ∀ p ∈ viewMu args.toList H, p.2 < mbase := fun p hp => hlt p.1 p.2 hp
  have hvv := hvr _ _ hv
  rw [mapV_one (find_one _ _ (show gbase ≤ 1000 by decide) _ _ hlt')] at hvv
  rw [merged_one _ _ (show gbase ≤ 1000 by decide) _ _ _ _ hlt'] at gm ext
  exact ⟨_, _, ρm, v', hk, rfl, hvv, gm, ext⟩
end Go.Abs

/- Lists of structs of five whole numbers as cells. -/
namespace Go.Abs
/-- five whole numbers -/
structure Fv where
  a : Int
  b : Int
  c : Int
  d : Int
  e : Int
def Fv.row (p : Fv) : List Value := [.int .i64 p.a, .int .i64 p.b, .int .i64 p.c, .int .i64 p.d, .int .i64 p.e]
def vs5 (l : List Fv) : List Value := l.flatMap Fv.row
theorem vs5_cons (p : Fv) (r : List Fv) : vs5 (p :: r) = p.row ++ vs5 r := List.flatMap_cons
@[simp] theorem vs5_length : ∀ l : List Fv, (vs5 l).length = l.length * 5
  | [] => rfl
  | p :: r => by rw [vs5_cons, List.length_append, vs5_length r, List.length_cons]; simp only [Fv.row, List.length_cons, List.length_nil]; omega
theorem vs5_drop : ∀ (l : List Fv) (i : Nat), (vs5 l).drop (i * 5) = vs5 (l.drop i)
  | l, 0 => by simp
  | [], i + 1 => by simp [vs5]
  | p :: r, i + 1 => by
    rw [vs5_cons, show (i + 1) * 5 = i * 5 + 5 by omega, List.drop_succ_cons, Nat.add_comm, ← List.drop_drop]
    have : (p.row ++ vs5 r).drop 5 = vs5 r := by simp [Fv.row]
    rw [this]; exact vs5_drop r i
theorem vs5_all (l : List Fv) (i : Nat) (h : i < l.length) : At (vs5 l) (0 + i * 5) 5 l[i].row := by
  refine ⟨by rw [vs5_length]; omega, ?_⟩
  rw [Nat.zero_add, vs5_drop, List.drop_eq_getElem_cons h, vs5_cons]
  simp [Fv.row]
/-- one of the five -/
theorem vs5_one (l : List Fv) (i : Nat) (h : i < l.length) (j : Nat) (v : Value) (hj : l[i].row[j]? = some v) : At (vs5 l) (0 + i * 5 + j) 1 [v] := by
  have hj5 : j < 5 := (List.getElem?_eq_some_iff.1 hj).1
  refine ⟨by rw [vs5_length]; omega, ?_⟩
  rw [Nat.zero_add, ← List.drop_drop, vs5_drop, List.drop_eq_getElem_cons h, vs5_cons]
  apply List.ext_getElem?
  intro k
  cases k with
  | zero =>
    rw [List.getElem?_take, if_pos (by omega), List.getElem?_drop, List.getElem?_append_left (by simpa [Fv.row] using hj5)]
    exact hj
  | succ k => rw [List.getElem?_take, if_neg (by omega)]; rfl
theorem at5 {l : List Value} {k : Nat} {p : Fv} (h : At l k 5 p.row) {Q : Int → Int → Int → Int → Int → Prop} :
    (∃ n1 : Int, ∃ n2 : Int, ∃ n3 : Int, ∃ n4 : Int, ∃ n5 : Int, At l k 5 [.int .i64 n1, .int .i64 n2, .int .i64 n3, .int .i64 n4, .int .i64 n5] ∧ Q n1 n2 n3 n4 n5) = Q p.a p.b p.c p.d p.e := by
  apply propext
  constructor
  · rintro ⟨n1, n2, n3, n4, n5, hn, hq⟩
    have e := hn.eq.symm.trans h.eq
    simp only [Fv.row, List.cons.injEq, Value.int.injEq, true_and, and_true] at e
    obtain ⟨rfl, rfl, rfl, rfl, rfl⟩ := e
    exact hq
  · intro hq; exact ⟨_, _, _, _, _, h, hq⟩
end Go.Abs

/- Short names for what stands often in printed texts. -/
namespace Go.Abs
abbrev Pt (b o : Nat) : Value := .pointer (some ⟨b, o, none⟩)
abbrev Sl (b n c : Nat) : Value := .slice (some ⟨b, 0, none⟩) n c
abbrev Qv {α : Type} (x : α) : Prop := x = x
end Go.Abs

/- What is left to show of each function, written out; the kernel reckons it. -/
namespace Go.Proofs.G5m
open Go Go.Abs Go.Proofs
set_option maxRecDepth 100000
set_option linter.unusedVariables false
abbrev vI (n : Int) : Value := .int .i64 n
abbrev Ct := FuncId → List D → List D → Prop
abbrev Bx := Slots → Blocks → Prop
abbrev Xx := Nat → Slots → Blocks → Prop
abbrev hE (C : Ct) : Handler := handlerX Tryz.prog (fun _ => none) 12 6
def gCu (C : Ct) (L : AtLoop) (s0 : ByteArray) (x1 : Int) (k : List D → Prop) : Prop := wpFn Tryz.prog (hE C) L 0 31 #[.string s0, .int .u8 x1] (heapOf []) (dataK k)
theorem gCu_text (C : Ct) (L : AtLoop) (s0 : ByteArray) (x1 : Int) (k : List D → Prop) : gCu C L s0 x1 k =
 (L 0 [(Prod.mk 0 (Go.Value.string (s0))), (Prod.mk 1 (Go.Value.int Go.IntKind.u8 (x1))), (Prod.mk 5 (Go.Value.slice Option.none 0 0)), (Prod.mk 6 (vI (0 : Int))), (Prod.mk 7 (vI (0 : Int)))] []) := by kernel_rfl
abbrev zCu1 (s0 : ByteArray) (x1 : Int) (x2 : Int) (x3 : Int) : Slots × Blocks := ([(0, (Value.string s0)), (1, (Value.int Go.IntKind.u8 x1)), (5, (Value.slice none 0 0)), (6, (Value.int .i64 x2)), (7, (Value.int .i64 x3))], [])
def rCu1 (C : Ct) (L : AtLoop) (s0 : ByteArray) (x1 : Int) (x2 : Int) (x3 : Int) (B : Bx) (X : Xx) (k : List D → Prop) : Prop := wpRound Tryz.prog (hE C) L 31 0 [(0, (Value.string s0)), (1, (Value.int Go.IntKind.u8 x1)), (5, (Value.slice none 0 0)), (6, (Value.int .i64 x2)), (7, (Value.int .i64 x3))] [] B X (dataK k)
theorem rCu1_text (C : Ct) (L : AtLoop) (s0 : ByteArray) (x1 : Int) (x2 : Int) (x3 : Int) (B : Bx) (X : Xx) (k : List D → Prop) : rCu1 C L s0 x1 x2 x3 B X k =
 (bcase (decide (x3 < (↑(ByteArray.size s0) : Int)))
 (bcase (decide (0 ≤ x3))
 (∃ b1 : UInt8,
 ((ByteAt (s0) (Int.toNat x3) (b1)) ∧
 (bcase ((↑(UInt8.toNat b1) : Int) == x1)
 (bcase (decide (0 ≤ x3))
 (bcase (decide (x3 ≤ (↑(ByteArray.size s0) : Int)))
 (bcase (decide (0 ≤ x2))
 (bcase (decide (x2 ≤ (↑(Int.toNat x3) : Int)))
 (B [(Prod.mk 0 (Go.Value.string (s0))), (Prod.mk 1 (Go.Value.int Go.IntKind.u8 (x1))), (Prod.mk 5 (Go.Value.slice (Option.some (Go.Addr.mk 1000 0 Option.none)) 1 1)), (Prod.mk 6 (vI (IntKind.wrap .i64 (x3 + 1)))), (Prod.mk 7 (vI (IntKind.wrap .i64 (x3 + 1))))] [(Prod.mk 1000 (AObj.sym [(Go.Value.string (ByteArray.extract s0 (Int.toNat x2) (Int.toNat x3)))] true 1))])
 False)
 False)
 False)
 False)
 (B [(Prod.mk 0 (Go.Value.string (s0))), (Prod.mk 1 (Go.Value.int Go.IntKind.u8 (x1))), (Prod.mk 5 (Go.Value.slice Option.none 0 0)), (Prod.mk 6 (vI x2)), (Prod.mk 7 (vI (IntKind.wrap .i64 (x3 + 1))))] []))))
 False)
 (X 0 [(Prod.mk 0 (Go.Value.string (s0))), (Prod.mk 5 (Go.Value.slice Option.none 0 0)), (Prod.mk 6 (vI x2))] [])) := by kernel_rfl
abbrev zCu2 (s0 : ByteArray) (x1 : Int) (n2 : Nat) (x3 : Int) (x4 : Int) (l5 : List Value) : Slots × Blocks := ([(0, (Value.string s0)), (1, (Value.int Go.IntKind.u8 x1)), (5, (Value.slice (some ⟨1000, 0, none⟩) n2 n2)), (6, (Value.int .i64 x3)), (7, (Value.int .i64 x4))], [(1000, (AObj.sym l5 true 1))])
def rCu2 (C : Ct) (L : AtLoop) (s0 : ByteArray) (x1 : Int) (n2 : Nat) (x3 : Int) (x4 : Int) (l5 : List Value) (B : Bx) (X : Xx) (k : List D → Prop) : Prop := wpRound Tryz.prog (hE C) L 31 0 [(0, (Value.string s0)), (1, (Value.int Go.IntKind.u8 x1)), (5, (Value.slice (some ⟨1000, 0, none⟩) n2 n2)), (6, (Value.int .i64 x3)), (7, (Value.int .i64 x4))] [(1000, (AObj.sym l5 true 1))] B X (dataK k)
theorem rCu2_text (C : Ct) (L : AtLoop) (s0 : ByteArray) (x1 : Int) (n2 : Nat) (x3 : Int) (x4 : Int) (l5 : List Go.Value) (B : Bx) (X : Xx) (k : List D → Prop) : rCu2 C L s0 x1 n2 x3 x4 l5 B X k =
 (bcase (decide (x4 < (↑(ByteArray.size s0) : Int)))
 (bcase (decide (0 ≤ x4))
 (∃ b1 : UInt8,
 ((ByteAt (s0) (Int.toNat x4) (b1)) ∧
 (bcase ((↑(UInt8.toNat b1) : Int) == x1)
 (bcase (decide (0 ≤ x4))
 (bcase (decide (x4 ≤ (↑(ByteArray.size s0) : Int)))
 (bcase (decide (0 ≤ x3))
 (bcase (decide (x3 ≤ (↑(Int.toNat x4) : Int)))
 (bcase (decide (n2 < n2 + 1))
 (bcase (decide ((2 * (n2 + 1) + 768) * 16 ≤ 281474976710656))
 (bcase (decide (n2 + 1 ≤ 1099511627776))
 (bcase (decide (0 + n2 * 1 ≤ List.length l5))
 (bcase (decide (0 + n2 * 1 = List.length l5))
 (B [(Prod.mk 0 (Go.Value.string (s0))), (Prod.mk 1 (Go.Value.int Go.IntKind.u8 (x1))), (Prod.mk 5 (Go.Value.slice (Option.some (Go.Addr.mk 1000 0 Option.none)) (n2 + 1) (n2 + 1))), (Prod.mk 6 (vI (IntKind.wrap .i64 (x4 + 1)))), (Prod.mk 7 (vI (IntKind.wrap .i64 (x4 + 1))))] [(Prod.mk 1000 (AObj.sym ((List.take (n2 * 1) (List.drop 0 l5)) ++ [(Go.Value.string (ByteArray.extract s0 (Int.toNat x3) (Int.toNat x4)))]) true 1))])
 False)
 False)
 False)
 False)
 False)
 False)
 False)
 False)
 False)
 (B [(Prod.mk 0 (Go.Value.string (s0))), (Prod.mk 1 (Go.Value.int Go.IntKind.u8 (x1))), (Prod.mk 5 (Go.Value.slice (Option.some (Go.Addr.mk 1000 0 Option.none)) (n2) (n2))), (Prod.mk 6 (vI x3)), (Prod.mk 7 (vI (IntKind.wrap .i64 (x4 + 1))))] [(Prod.mk 1000 (AObj.sym (l5) true 1))]))))
 False)
 (X 0 [(Prod.mk 0 (Go.Value.string (s0))), (Prod.mk 5 (Go.Value.slice (Option.some (Go.Addr.mk 1000 0 Option.none)) (n2) (n2))), (Prod.mk 6 (vI x3))] [(Prod.mk 1000 (AObj.sym (l5) true 1))])) := by kernel_rfl
def nCu3 (C : Ct) (L : AtLoop) (s0 : ByteArray) (x1 : Int) (k : List D → Prop) : Prop := wpNext Tryz.prog (hE C) L 31 0 .normal [(0, (Value.string s0)), (5, (Value.slice none 0 0)), (6, (Value.int .i64 x1))] [] (dataK k)
theorem nCu3_text (C : Ct) (L : AtLoop) (s0 : ByteArray) (x1 : Int) (k : List D → Prop) : nCu3 C L s0 x1 k =
 (bcase (decide (0 ≤ x1))
 (bcase (decide (x1 ≤ (↑(ByteArray.size s0) : Int)))
 (((1 = 1) ∧
 (1 = 1)) ∧
 (k [(D.sl 1 1 [(Go.Value.string (ByteArray.extract s0 (Int.toNat x1) (ByteArray.size s0)))])]))
 False)
 False) := by kernel_rfl
def nCu4 (C : Ct) (L : AtLoop) (s0 : ByteArray) (n1 : Nat) (x2 : Int) (l3 : List Value) (k : List D → Prop) : Prop := wpNext Tryz.prog (hE C) L 31 0 .normal [(0, (Value.string s0)), (5, (Value.slice (some ⟨1000, 0, none⟩) n1 n1)), (6, (Value.int .i64 x2))] [(1000, (AObj.sym l3 true 1))] (dataK k)
theorem nCu4_text (C : Ct) (L : AtLoop) (s0 : ByteArray) (n1 : Nat) (x2 : Int) (l3 : List Go.Value) (k : List D → Prop) : nCu4 C L s0 n1 x2 l3 k =
 (bcase (decide (0 ≤ x2))
 (bcase (decide (x2 ≤ (↑(ByteArray.size s0) : Int)))
 (bcase (decide (n1 < n1 + 1))
 (bcase (decide ((2 * (n1 + 1) + 768) * 16 ≤ 281474976710656))
 (bcase (decide (n1 + 1 ≤ 1099511627776))
 (bcase (decide (0 + n1 * 1 ≤ List.length l3))
 (bcase (decide (0 + n1 * 1 = List.length l3))
 ((((n1 + 1) = (n1 + 1)) ∧
 ((List.length
  (List.take (n1 * 1) (List.drop 0 l3) ++
    List.take 1
      (List.drop 0
        (Array.toList
          (Array.foldl
            (fun cs x =>
              match x with
              | (c, j) => Array.setIfInBounds cs (0 + j) c)
            (Go.Builtin.zeroCells (Go.Value.cells (Go.Value.string { data := #[] })) 1) (Array.zipIdx (Go.Value.cells (AAct.eval { tmps := Tree.node (Option.some (Go.Value.string s0)) (Tree.node (Option.some (Go.Value.chan (Option.some 0))) (Tree.node (Option.some (Go.Value.chan (Option.some 0))) (Tree.node (Option.some (Go.Value.chan (Option.some 0))) (Tree.node (Option.some (Go.Value.chan (Option.some 0))) (Tree.node (Option.some (Go.Value.string (ByteArray.extract s0 (Int.toNat x2) (ByteArray.size s0)))) Tree.leaf Tree.leaf) Tree.leaf) (Tree.node (Option.some (Go.Value.chan (Option.some 0))) Tree.leaf Tree.leaf)) (Tree.node (Option.some (Go.Value.chan (Option.some 0))) (Tree.node (Option.some (Go.Value.chan (Option.some 0))) Tree.leaf Tree.leaf) (Tree.node (Option.some (Go.Value.chan (Option.some 0))) Tree.leaf Tree.leaf))) (Tree.node (Option.some (Go.Value.slice (Option.some { block := 1000, off := 0 }) n1 n1)) (Tree.node (Option.some (Go.Value.chan (Option.some 0))) (Tree.node (Option.some (Go.Value.chan (Option.some 0))) (Tree.node (Option.some (Go.Value.chan (Option.some 0))) Tree.leaf Tree.leaf) Tree.leaf) (Tree.node (Option.some (Go.Value.chan (Option.some 0))) Tree.leaf Tree.leaf)) (Tree.node (Option.some (Go.Value.chan (Option.some 0))) (Tree.node (Option.some (Go.Value.chan (Option.some 0))) Tree.leaf Tree.leaf) (Tree.node (Option.some (Go.Value.string s0)) Tree.leaf Tree.leaf)))) (Tree.node (Option.some (Go.Value.chan (Option.some 0))) (Tree.node (Option.some (Go.Value.chan (Option.some 0))) (Tree.node (Option.some (Go.Value.chan (Option.some 0))) (Tree.node (Option.some (Go.Value.chan (Option.some 0))) (Tree.node (Option.some (Go.Value.chan (Option.some 0))) Tree.leaf Tree.leaf) Tree.leaf) (Tree.node (Option.some (Go.Value.chan (Option.some 0))) Tree.leaf Tree.leaf)) (Tree.node (Option.some (Go.Value.chan (Option.some 0))) (Tree.node (Option.some (Go.Value.chan (Option.some 0))) Tree.leaf Tree.leaf) (Tree.node (Option.some (Go.Value.slice (Option.some { block := 1000, off := 0 }) n1 n1)) Tree.leaf Tree.leaf))) (Tree.node (Option.some (vI x2)) (Tree.node (Option.some (Go.Value.chan (Option.some 0))) (Tree.node (Option.some (Go.Value.chan (Option.some 0))) Tree.leaf Tree.leaf) (Tree.node (Option.some (Go.Value.chan (Option.some 0))) Tree.leaf Tree.leaf)) (Tree.node (Option.some (Go.Value.chan (Option.some 0))) (Tree.node (Option.some (Go.Value.chan (Option.some 0))) Tree.leaf Tree.leaf) (Tree.node (Option.some (vI x2)) Tree.leaf Tree.leaf)))), size := 34, defers := [] } (Go.Operand.tmp 31))))))))) = ((n1 + 1) * 1))) ∧
 (k [(D.sl (n1 + 1) 1 ((List.take (n1 * 1) (List.drop 0 l3)) ++ [(Go.Value.string (ByteArray.extract s0 (Int.toNat x2) (ByteArray.size s0)))]))]))
 False)
 False)
 False)
 False)
 False)
 False)
 False) := by kernel_rfl
def gNu (C : Ct) (L : AtLoop) (s0 : ByteArray) (x1 : Int) (k : List D → Prop) : Prop := wpFn Tryz.prog (hE C) L 0 63 #[.string s0, .int .i64 x1] (heapOf []) (dataK k)
theorem gNu_text (C : Ct) (L : AtLoop) (s0 : ByteArray) (x1 : Int) (k : List D → Prop) : gNu C L s0 x1 k =
 (bcase (decide ((↑(ByteArray.size s0) : Int) > 0))
 (∃ b1 : UInt8,
 ((ByteAt (s0) 0 (b1)) ∧
 (bcase ((↑(UInt8.toNat b1) : Int) == 45)
 (bcase ((↑(ByteArray.size s0) : Int) == 1)
 (k [(D.val (vI (0 : Int))), (D.val (Value.bool false))])
 (bcase (decide (IntKind.wrap .i64 ((↑(ByteArray.size s0) : Int) - 1) > x1))
 (k [(D.val (vI (0 : Int))), (D.val (Value.bool false))])
 (∃ b2 : UInt8,
 ((ByteAt (s0) 1 (b2)) ∧
 (bcase ((↑(UInt8.toNat b2) : Int) == 48)
 (bcase (decide ((↑(ByteArray.size s0) : Int) > 1))
 (k [(D.val (vI (0 : Int))), (D.val (Value.bool false))])
 (L 0 [(Prod.mk 0 (Go.Value.string (s0))), (Prod.mk 6 (vI (1 : Int))), (Prod.mk 7 (vI (0 : Int))), (Prod.mk 8 (vI (1 : Int)))] []))
 (L 0 [(Prod.mk 0 (Go.Value.string (s0))), (Prod.mk 6 (vI (1 : Int))), (Prod.mk 7 (vI (0 : Int))), (Prod.mk 8 (vI (1 : Int)))] []))))))
 (bcase ((↑(ByteArray.size s0) : Int) == 0)
 (k [(D.val (vI (0 : Int))), (D.val (Value.bool false))])
 (bcase (decide (IntKind.wrap .i64 ((↑(ByteArray.size s0) : Int) - 0) > x1))
 (k [(D.val (vI (0 : Int))), (D.val (Value.bool false))])
 (∃ b2 : UInt8,
 ((ByteAt (s0) 0 (b2)) ∧
 (bcase ((↑(UInt8.toNat b2) : Int) == 48)
 (bcase (decide ((↑(ByteArray.size s0) : Int) > 1))
 (k [(D.val (vI (0 : Int))), (D.val (Value.bool false))])
 (L 0 [(Prod.mk 0 (Go.Value.string (s0))), (Prod.mk 6 (vI (0 : Int))), (Prod.mk 7 (vI (0 : Int))), (Prod.mk 8 (vI (0 : Int)))] []))
 (L 0 [(Prod.mk 0 (Go.Value.string (s0))), (Prod.mk 6 (vI (0 : Int))), (Prod.mk 7 (vI (0 : Int))), (Prod.mk 8 (vI (0 : Int)))] [])))))))))
 (bcase ((↑(ByteArray.size s0) : Int) == 0)
 (k [(D.val (vI (0 : Int))), (D.val (Value.bool false))])
 (bcase (decide (IntKind.wrap .i64 ((↑(ByteArray.size s0) : Int) - 0) > x1))
 (k [(D.val (vI (0 : Int))), (D.val (Value.bool false))])
 (∃ b1 : UInt8,
 ((ByteAt (s0) 0 (b1)) ∧
 (bcase ((↑(UInt8.toNat b1) : Int) == 48)
 (bcase (decide ((↑(ByteArray.size s0) : Int) > 1))
 (k [(D.val (vI (0 : Int))), (D.val (Value.bool false))])
 (L 0 [(Prod.mk 0 (Go.Value.string (s0))), (Prod.mk 6 (vI (0 : Int))), (Prod.mk 7 (vI (0 : Int))), (Prod.mk 8 (vI (0 : Int)))] []))
 (L 0 [(Prod.mk 0 (Go.Value.string (s0))), (Prod.mk 6 (vI (0 : Int))), (Prod.mk 7 (vI (0 : Int))), (Prod.mk 8 (vI (0 : Int)))] []))))))) := by kernel_rfl
abbrev zNu1 (s0 : ByteArray) (x1 : Int) (x2 : Int) (x3 : Int) : Slots × Blocks := ([(0, (Value.string s0)), (6, (Value.int .i64 x1)), (7, (Value.int .i64 x2)), (8, (Value.int .i64 x3))], [])
def rNu1 (C : Ct) (L : AtLoop) (s0 : ByteArray) (x1 : Int) (x2 : Int) (x3 : Int) (B : Bx) (X : Xx) (k : List D → Prop) : Prop := wpRound Tryz.prog (hE C) L 63 0 [(0, (Value.string s0)), (6, (Value.int .i64 x1)), (7, (Value.int .i64 x2)), (8, (Value.int .i64 x3))] [] B X (dataK k)
theorem rNu1_text (C : Ct) (L : AtLoop) (s0 : ByteArray) (x1 : Int) (x2 : Int) (x3 : Int) (B : Bx) (X : Xx) (k : List D → Prop) : rNu1 C L s0 x1 x2 x3 B X k =
 (bcase (decide (x3 < (↑(ByteArray.size s0) : Int)))
 (bcase (decide (0 ≤ x3))
 (∃ b1 : UInt8,
 ((ByteAt (s0) (Int.toNat x3) (b1)) ∧
 (bcase (decide ((↑(UInt8.toNat b1) : Int) < 48))
 (k [(D.val (vI (0 : Int))), (D.val (Value.bool false))])
 (bcase (decide (0 ≤ x3))
 (∃ b2 : UInt8,
 ((ByteAt (s0) (Int.toNat x3) (b2)) ∧
 (bcase (decide ((↑(UInt8.toNat b2) : Int) > 57))
 (k [(D.val (vI (0 : Int))), (D.val (Value.bool false))])
 (bcase (decide (0 ≤ x3))
 (∃ b3 : UInt8,
 ((ByteAt (s0) (Int.toNat x3) (b3)) ∧
 (B [(Prod.mk 0 (Go.Value.string (s0))), (Prod.mk 6 (vI x1)), (Prod.mk 7 (vI (IntKind.wrap .i64 (IntKind.wrap .i64 (10 * x2) + IntKind.wrap .i64 (Go.IntKind.wrap Go.IntKind.u8 ((↑(UInt8.toNat b3) : Int) - 48)))))), (Prod.mk 8 (vI (IntKind.wrap .i64 (x3 + 1))))] [])))
 False))))
 False))))
 False)
 (X 0 [(Prod.mk 6 (vI x1)), (Prod.mk 7 (vI x2))] [])) := by kernel_rfl
def nNu2 (C : Ct) (L : AtLoop) (x0 : Int) (x1 : Int) (k : List D → Prop) : Prop := wpNext Tryz.prog (hE C) L 63 0 .normal [(6, (Value.int .i64 x0)), (7, (Value.int .i64 x1))] [] (dataK k)
theorem nNu2_text (C : Ct) (L : AtLoop) (x0 : Int) (x1 : Int) (k : List D → Prop) : nNu2 C L x0 x1 k =
 (bcase (x0 == 1)
 (k [(D.val (vI (IntKind.wrap .i64 (0 - x1)))), (D.val (Value.bool true))])
 (k [(D.val (vI x1)), (D.val (Value.bool true))])) := by kernel_rfl
end Go.Proofs.G5m

/- What is left to show of each function, written out; the kernel reckons it. -/
namespace Go.Proofs.G5m
open Go Go.Abs Go.Proofs
set_option maxRecDepth 100000
set_option linter.unusedVariables false
def preP (C : Ct) : FuncId → Option Handler := fun g => if [49].contains g then some (freshH Tryz.prog g 2) else if [4, 47, 48, 60, 61, 62, 26, 77, 30, 59, 58, 24, 66, 52, 51, 99, 87, 70, 88, 55, 68, 86, 53, 38, 16, 11, 17, 65, 35, 19, 64, 33, 21, 56, 80].contains g then some (saidH Tryz.prog C) else none
abbrev hP (C : Ct) : Handler := handlerX Tryz.prog (preP C) 12 6
def gFE (C : Ct) (L : AtLoop) (n0 : Nat) (c0 : Nat) (l0 : List Value) (k : List D → Prop) : Prop := wpFn Tryz.prog (hE C) L 0 47 #[.slice (some ⟨500, 0, none⟩) n0 c0] (heapOf [(500, .sym l0 false 1)]) (dataK k)
theorem gFE_text (C : Ct) (L : AtLoop) (n0 : Nat) (c0 : Nat) (l0 : List Go.Value) (k : List D → Prop) : gFE C L n0 c0 l0 k =
 (L 0 [(Prod.mk 5 (Sl 500 (n0) (c0))), (Prod.mk 6 (vI ((↑n0 : Int)))), (Prod.mk 7 (vI 0))] [(Prod.mk 500 (AObj.sym (l0) false 1))]) := by kernel_rfl
abbrev zFE1 (n0 : Nat) (c1 : Nat) (x2 : Int) (x3 : Int) (l4 : List Value) : Slots × Blocks := ([(5, (Value.slice (some ⟨500, 0, none⟩) n0 c1)), (6, (Value.int .i64 x2)), (7, (Value.int .i64 x3))], [(500, (AObj.sym l4 false 1))])
def rFE1 (C : Ct) (L : AtLoop) (n0 : Nat) (c1 : Nat) (x2 : Int) (x3 : Int) (l4 : List Value) (B : Bx) (X : Xx) (k : List D → Prop) : Prop := wpRound Tryz.prog (hE C) L 47 0 [(5, (Value.slice (some ⟨500, 0, none⟩) n0 c1)), (6, (Value.int .i64 x2)), (7, (Value.int .i64 x3))] [(500, (AObj.sym l4 false 1))] B X (dataK k)
theorem rFE1_text (C : Ct) (L : AtLoop) (n0 : Nat) (c1 : Nat) (x2 : Int) (x3 : Int) (l4 : List Go.Value) (B : Bx) (X : Xx) (k : List D → Prop) : rFE1 C L n0 c1 x2 x3 l4 B X k =
 (bcase (decide (x3 < x2))
 (bcase (decide (0 ≤ x3))
 (bcase (decide (x3 < (↑n0 : Int)))
 (∃ n1 : Int,
 ((At (l4) (0 + Int.toNat x3 * 1) 1 [(vI n1)]) ∧
 (bcase (n1 != 0)
 (k [(D.val (vI n1))])
 (B [(Prod.mk 5 (Sl 500 (n0) (c1))), (Prod.mk 6 (vI x2)), (Prod.mk 7 (vI (IntKind.wrap .i64 (x3 + 1))))] [(Prod.mk 500 (AObj.sym (l4) false 1))]))))
 False)
 False)
 (X 0 [] [])) := by kernel_rfl
def nFE2 (C : Ct) (L : AtLoop) (k : List D → Prop) : Prop := wpNext Tryz.prog (hE C) L 47 0 .normal [] [] (dataK k)
theorem nFE2_text (C : Ct) (L : AtLoop) (k : List D → Prop) : nFE2 C L k =
 (k [(D.val (vI 0))]) := by kernel_rfl
def gCW (C : Ct) (L : AtLoop) (x0 : Int) (x1 : Int) (n2 : Nat) (c2 : Nat) (l2 : List Value) (k : List D → Prop) : Prop := wpFn Tryz.prog (hE C) L 0 48 #[.int .i64 x0, .int .i64 x1, .slice (some ⟨500, 0, none⟩) n2 c2] (heapOf [(500, .sym l2 false 1)]) (dataK k)
theorem gCW_text (C : Ct) (L : AtLoop) (x0 : Int) (x1 : Int) (n2 : Nat) (c2 : Nat) (l2 : List Go.Value) (k : List D → Prop) : gCW C L x0 x1 n2 c2 l2 k =
 (L 0 [(Prod.mk 0 (vI x0)), (Prod.mk 1 (vI x1)), (Prod.mk 9 (Sl 500 (n2) (c2))), (Prod.mk 10 (vI ((↑n2 : Int)))), (Prod.mk 11 (vI 0))] [(Prod.mk 500 (AObj.sym (l2) false 1))]) := by kernel_rfl
abbrev zCW1 (x0 : Int) (x1 : Int) (n2 : Nat) (c3 : Nat) (x4 : Int) (x5 : Int) (l6 : List Value) : Slots × Blocks := ([(0, (Value.int .i64 x0)), (1, (Value.int .i64 x1)), (9, (Value.slice (some ⟨500, 0, none⟩) n2 c3)), (10, (Value.int .i64 x4)), (11, (Value.int .i64 x5))], [(500, (AObj.sym l6 false 1))])
def rCW1 (C : Ct) (L : AtLoop) (x0 : Int) (x1 : Int) (n2 : Nat) (c3 : Nat) (x4 : Int) (x5 : Int) (l6 : List Value) (B : Bx) (X : Xx) (k : List D → Prop) : Prop := wpRound Tryz.prog (hE C) L 48 0 [(0, (Value.int .i64 x0)), (1, (Value.int .i64 x1)), (9, (Value.slice (some ⟨500, 0, none⟩) n2 c3)), (10, (Value.int .i64 x4)), (11, (Value.int .i64 x5))] [(500, (AObj.sym l6 false 1))] B X (dataK k)
theorem rCW1_text (C : Ct) (L : AtLoop) (x0 : Int) (x1 : Int) (n2 : Nat) (c3 : Nat) (x4 : Int) (x5 : Int) (l6 : List Go.Value) (B : Bx) (X : Xx) (k : List D → Prop) : rCW1 C L x0 x1 n2 c3 x4 x5 l6 B X k =
 (bcase (decide (x5 < x4))
 (bcase (decide (0 ≤ x5))
 (bcase (decide (x5 < (↑n2 : Int)))
 (∃ n1 : Int,
 ((At (l6) (0 + Int.toNat x5 * 1) 1 [(vI n1)]) ∧
 (bcase (decide (n1 < x0))
 (k [(D.val (vI 2))])
 (bcase (decide (n1 > x1))
 (k [(D.val (vI 2))])
 (B [(Prod.mk 0 (vI x0)), (Prod.mk 1 (vI x1)), (Prod.mk 9 (Sl 500 (n2) (c3))), (Prod.mk 10 (vI x4)), (Prod.mk 11 (vI (IntKind.wrap .i64 (x5 + 1))))] [(Prod.mk 500 (AObj.sym (l6) false 1))])))))
 False)
 False)
 (X 0 [] [])) := by kernel_rfl
def nCW2 (C : Ct) (L : AtLoop) (k : List D → Prop) : Prop := wpNext Tryz.prog (hE C) L 48 0 .normal [] [] (dataK k)
theorem nCW2_text (C : Ct) (L : AtLoop) (k : List D → Prop) : nCW2 C L k =
 (k [(D.val (vI 0))]) := by kernel_rfl
def gCN (C : Ct) (L : AtLoop) (n0 : Nat) (c0 : Nat) (l0 : List Value) (k : List D → Prop) : Prop := wpFn Tryz.prog (hE C) L 0 60 #[.slice (some ⟨500, 0, none⟩) n0 c0] (heapOf [(500, .sym l0 false 2)]) (dataK k)
theorem gCN_text (C : Ct) (L : AtLoop) (n0 : Nat) (c0 : Nat) (l0 : List Go.Value) (k : List D → Prop) : gCN C L n0 c0 l0 k =
 (L 0 [(Prod.mk 5 (Sl 500 (n0) (c0))), (Prod.mk 6 (vI ((↑n0 : Int)))), (Prod.mk 7 (vI 0))] [(Prod.mk 500 (AObj.sym (l0) false 2))]) := by kernel_rfl
abbrev zCN1 (n0 : Nat) (c1 : Nat) (x2 : Int) (x3 : Int) (l4 : List Value) : Slots × Blocks := ([(5, (Value.slice (some ⟨500, 0, none⟩) n0 c1)), (6, (Value.int .i64 x2)), (7, (Value.int .i64 x3))], [(500, (AObj.sym l4 false 2))])
def rCN1 (C : Ct) (L : AtLoop) (n0 : Nat) (c1 : Nat) (x2 : Int) (x3 : Int) (l4 : List Value) (B : Bx) (X : Xx) (k : List D → Prop) : Prop := wpRound Tryz.prog (hE C) L 60 0 [(5, (Value.slice (some ⟨500, 0, none⟩) n0 c1)), (6, (Value.int .i64 x2)), (7, (Value.int .i64 x3))] [(500, (AObj.sym l4 false 2))] B X (dataK k)
theorem rCN1_text (C : Ct) (L : AtLoop) (n0 : Nat) (c1 : Nat) (x2 : Int) (x3 : Int) (l4 : List Go.Value) (B : Bx) (X : Xx) (k : List D → Prop) : rCN1 C L n0 c1 x2 x3 l4 B X k =
 (bcase (decide (x3 < x2))
 (bcase (decide (0 ≤ x3))
 (bcase (decide (x3 < (↑n0 : Int)))
 (∃ n1 : Int,
 (∃ n2 : Int,
 ((At (l4) (0 + Int.toNat x3 * 2) 2 [(vI n1), (vI n2)]) ∧
 (bcase (decide (n1 > n2))
 (k [(D.val (vI 9))])
 (B [(Prod.mk 5 (Sl 500 (n0) (c1))), (Prod.mk 6 (vI x2)), (Prod.mk 7 (vI (IntKind.wrap .i64 (x3 + 1))))] [(Prod.mk 500 (AObj.sym (l4) false 2))])))))
 False)
 False)
 (X 0 [] [])) := by kernel_rfl
def nCN2 (C : Ct) (L : AtLoop) (k : List D → Prop) : Prop := wpNext Tryz.prog (hE C) L 60 0 .normal [] [] (dataK k)
theorem nCN2_text (C : Ct) (L : AtLoop) (k : List D → Prop) : nCN2 C L k =
 (k [(D.val (vI 0))]) := by kernel_rfl
def gCC (C : Ct) (L : AtLoop) (n0 : Nat) (c0 : Nat) (l0 : List Value) (k : List D → Prop) : Prop := wpFn Tryz.prog (hE C) L 0 61 #[.slice (some ⟨500, 0, none⟩) n0 c0] (heapOf [(500, .sym l0 false 5)]) (dataK k)
theorem gCC_text (C : Ct) (L : AtLoop) (n0 : Nat) (c0 : Nat) (l0 : List Go.Value) (k : List D → Prop) : gCC C L n0 c0 l0 k =
 (bcase ((↑n0 : Int) == 0)
 (k [(D.val (vI 10))])
 (bcase (decide ((↑n0 : Int) > 6))
 (k [(D.val (vI 8))])
 (k [(D.val (vI 0))]))) := by kernel_rfl
def gCS (C : Ct) (L : AtLoop) (x0 : Int) (x1 : Int) (x2 : Int) (x3 : Int) (x4 : Int) (k : List D → Prop) : Prop := wpFn Tryz.prog (hP C) L 0 62 #[.agg #[.int .i64 x0, .int .i64 x1, .int .i64 x2, .int .i64 x3, .int .i64 x4]] (heapOf []) (dataK k)
theorem gCS_text (C : Ct) (L : AtLoop) (x0 : Int) (x1 : Int) (x2 : Int) (x3 : Int) (x4 : Int) (k : List D → Prop) : gCS C L x0 x1 x2 x3 x4 k =
 ((((Qv (Sl 1004 1 1)) ∧
 (Qv (some (AObj.cells [(vI x3), (vI x4)] 30 false 2)))) ∧
 ((Qv (Value.agg [(vI x3), (vI x4)].toArray)) ∧
 ((Qv (Pt 1000 3)) ∧
 (((Qv (Sl 1003 2 2)) ∧
 (Qv (some (AObj.cells [(vI x3), (vI x4)] 3 false 1)))) ∧
 ((Qv (vI x4)) ∧
 ((Qv (Pt 1000 4)) ∧
 ((Qv (Pt 1000 3)) ∧
 ((Qv (vI x3)) ∧
 ((Qv (Pt 1000 3)) ∧
 ((Qv (Pt 1000 3)) ∧
 (((Qv (Sl 1002 2 2)) ∧
 (Qv (some (AObj.cells [(vI x1), (vI x2)] 3 false 1)))) ∧
 ((Qv (vI x2)) ∧
 ((Qv (Pt 1000 2)) ∧
 ((Qv (vI x1)) ∧
 ((Qv (Pt 1000 1)) ∧
 (((Qv (Sl 1001 1 1)) ∧
 (Qv (some (AObj.cells [(vI x0)] 3 false 1)))) ∧
 ((Qv (vI x0)) ∧
 ((Qv (Pt 1000 0)) ∧
 True)))))))))))))))))) ∧
 (∃ n1 : Int,
 ((Says C 48 [(D.val (vI 1)), (D.val (vI 1000)), (D.sl 1 1 [(vI x0)])] [(D.val (vI n1))]) ∧
 ((((Qv (Sl 1004 1 1)) ∧
 (Qv (some (AObj.cells [(vI x3), (vI x4)] 30 false 2)))) ∧
 ((Qv (Value.agg [(vI x3), (vI x4)].toArray)) ∧
 ((Qv (Pt 1000 3)) ∧
 (((Qv (Sl 1003 2 2)) ∧
 (Qv (some (AObj.cells [(vI x3), (vI x4)] 3 false 1)))) ∧
 ((Qv (vI x4)) ∧
 ((Qv (Pt 1000 4)) ∧
 ((Qv (Pt 1000 3)) ∧
 ((Qv (vI x3)) ∧
 ((Qv (Pt 1000 3)) ∧
 ((Qv (Pt 1000 3)) ∧
 (((Qv (Sl 1002 2 2)) ∧
 (Qv (some (AObj.cells [(vI x1), (vI x2)] 3 false 1)))) ∧
 ((Qv (vI x2)) ∧
 ((Qv (Pt 1000 2)) ∧
 ((Qv (vI x1)) ∧
 ((Qv (Pt 1000 1)) ∧
 ((Qv (vI x0)) ∧
 ((Qv (Pt 1000 0)) ∧
 True))))))))))))))))) ∧
 (∃ n2 : Int,
 ((Says C 48 [(D.val (vI 0)), (D.val (vI 1000000000000)), (D.sl 2 1 [(vI x1), (vI x2)])] [(D.val (vI n2))]) ∧
 ((((Qv (Sl 1004 1 1)) ∧
 (Qv (some (AObj.cells [(vI x3), (vI x4)] 30 false 2)))) ∧
 ((Qv (Value.agg [(vI x3), (vI x4)].toArray)) ∧
 ((Qv (Pt 1000 3)) ∧
 (((Qv (Sl 1003 2 2)) ∧
 (Qv (some (AObj.cells [(vI x3), (vI x4)] 3 false 1)))) ∧
 ((Qv (vI x4)) ∧
 ((Qv (Pt 1000 4)) ∧
 ((Qv (Pt 1000 3)) ∧
 ((Qv (vI x3)) ∧
 ((Qv (Pt 1000 3)) ∧
 ((Qv (Pt 1000 3)) ∧
 ((Qv (vI x2)) ∧
 ((Qv (Pt 1000 2)) ∧
 ((Qv (vI x1)) ∧
 ((Qv (Pt 1000 1)) ∧
 ((Qv (vI x0)) ∧
 ((Qv (Pt 1000 0)) ∧
 True)))))))))))))))) ∧
 (∃ n3 : Int,
 ((Says C 48 [(D.val (vI 0)), (D.val (vI 1000)), (D.sl 2 1 [(vI x3), (vI x4)])] [(D.val (vI n3))]) ∧
 ((((Qv (Sl 1004 1 1)) ∧
 (Qv (some (AObj.cells [(vI x3), (vI x4)] 30 false 2)))) ∧
 ((Qv (Value.agg [(vI x3), (vI x4)].toArray)) ∧
 ((Qv (Pt 1000 3)) ∧
 ((Qv (vI x4)) ∧
 ((Qv (Pt 1000 4)) ∧
 ((Qv (Pt 1000 3)) ∧
 ((Qv (vI x3)) ∧
 ((Qv (Pt 1000 3)) ∧
 ((Qv (Pt 1000 3)) ∧
 ((Qv (vI x2)) ∧
 ((Qv (Pt 1000 2)) ∧
 ((Qv (vI x1)) ∧
 ((Qv (Pt 1000 1)) ∧
 ((Qv (vI x0)) ∧
 ((Qv (Pt 1000 0)) ∧
 True))))))))))))))) ∧
 (∃ n4 : Int,
 ((Says C 60 [(D.sl 1 2 [(vI x3), (vI x4)])] [(D.val (vI n4))]) ∧
 ((((Qv (Sl 1005 4 4)) ∧
 (Qv (some (AObj.cells [(vI n1), (vI n2), (vI n3), (vI n4)] 26 false 1)))) ∧
 ((Qv (Value.agg [(vI x3), (vI x4)].toArray)) ∧
 ((Qv (Pt 1000 3)) ∧
 ((Qv (vI x4)) ∧
 ((Qv (Pt 1000 4)) ∧
 ((Qv (Pt 1000 3)) ∧
 ((Qv (vI x3)) ∧
 ((Qv (Pt 1000 3)) ∧
 ((Qv (Pt 1000 3)) ∧
 ((Qv (vI x2)) ∧
 ((Qv (Pt 1000 2)) ∧
 ((Qv (vI x1)) ∧
 ((Qv (Pt 1000 1)) ∧
 ((Qv (vI x0)) ∧
 ((Qv (Pt 1000 0)) ∧
 True))))))))))))))) ∧
 (∃ n5 : Int,
 ((Says C 47 [(D.sl 4 1 [(vI n1), (vI n2), (vI n3), (vI n4)])] [(D.val (vI n5))]) ∧
 (((Qv (Value.agg [(vI x3), (vI x4)].toArray)) ∧
 ((Qv (Pt 1000 3)) ∧
 ((Qv (vI x4)) ∧
 ((Qv (Pt 1000 4)) ∧
 ((Qv (Pt 1000 3)) ∧
 ((Qv (vI x3)) ∧
 ((Qv (Pt 1000 3)) ∧
 ((Qv (Pt 1000 3)) ∧
 ((Qv (vI x2)) ∧
 ((Qv (Pt 1000 2)) ∧
 ((Qv (vI x1)) ∧
 ((Qv (Pt 1000 1)) ∧
 ((Qv (vI x0)) ∧
 ((Qv (Pt 1000 0)) ∧
 True)))))))))))))) ∧
 (True ∧
 (k [(D.val (vI n5))])))))))))))))))))) := by kernel_rfl
def gCT (C : Ct) (L : AtLoop) (x0 : Int) (k : List D → Prop) : Prop := wpFn Tryz.prog (hP C) L 0 26 #[.int .i64 x0] (heapOf []) (dataK k)
theorem gCT_text (C : Ct) (L : AtLoop) (x0 : Int) (k : List D → Prop) : gCT C L x0 k =
 (∃ n1 : Int,
 ((Says C 48 [(D.val (vI 1)), (D.val (vI 1000)), (D.sl 1 1 [(vI x0)])] [(D.val (vI n1))]) ∧
 (k [(D.val (vI n1))]))) := by kernel_rfl
def gKR (C : Ct) (L : AtLoop) (x0 : Int) (x1 : Int) (x2 : Int) (x3 : Int) (x4 : Int) (x5 : Int) (n6 : Nat) (c6 : Nat) (l6 : List Value) (x7 : Int) (x8 : Int) (x9 : Int) (x10 : Int) (k : List D → Prop) : Prop := wpFn Tryz.prog (hP C) L 0 30 #[.agg #[.int .i64 x0, .int .i64 x1, .int .i64 x2, .int .i64 x3, .int .i64 x4, .int .i64 x5, .slice (some ⟨500, 0, none⟩) n6 c6, .int .i64 x7, .int .i64 x8, .int .i64 x9, .int .i64 x10]] (heapOf [(500, .sym l6 false 5)]) (dataK k)
theorem gKR_text (C : Ct) (L : AtLoop) (x0 : Int) (x1 : Int) (x2 : Int) (x3 : Int) (x4 : Int) (x5 : Int) (n6 : Nat) (c6 : Nat) (l6 : List Go.Value) (x7 : Int) (x8 : Int) (x9 : Int) (x10 : Int) (k : List D → Prop) : gKR C L x0 x1 x2 x3 x4 x5 n6 c6 l6 x7 x8 x9 x10 k =
 (((Qv (Sl 500 (n6) (c6))) ∧
 ((Qv (Pt 1000 6)) ∧
 (((Qv (Sl 1006 4 4)) ∧
 (Qv (some (AObj.cells [(vI x2), (vI x1), (vI x3), (vI x4), (vI x7), (vI x8), (vI x9), (vI x10)] 30 false 2)))) ∧
 ((Qv (Value.agg [(vI x9), (vI x10)].toArray)) ∧
 ((Qv (Pt 1000 9)) ∧
 ((Qv (Value.agg [(vI x7), (vI x8)].toArray)) ∧
 ((Qv (Pt 1000 7)) ∧
 ((Qv (Value.agg [(vI x3), (vI x4)].toArray)) ∧
 ((Qv (Pt 1000 3)) ∧
 ((Qv (Value.agg [(vI x2), (vI x1)].toArray)) ∧
 ((Qv (vI x1)) ∧
 ((Qv (Pt 1000 1)) ∧
 ((Qv (vI x2)) ∧
 ((Qv (Pt 1000 2)) ∧
 (((Qv (Sl 1005 2 2)) ∧
 (Qv (some (AObj.cells [(vI x9), (vI x10)] 3 false 1)))) ∧
 ((Qv (vI x10)) ∧
 ((Qv (Pt 1000 10)) ∧
 ((Qv (Pt 1000 9)) ∧
 ((Qv (vI x9)) ∧
 ((Qv (Pt 1000 9)) ∧
 ((Qv (Pt 1000 9)) ∧
 (((Qv (Sl 1004 2 2)) ∧
 (Qv (some (AObj.cells [(vI x7), (vI x8)] 3 false 1)))) ∧
 ((Qv (vI x8)) ∧
 ((Qv (Pt 1000 8)) ∧
 ((Qv (Pt 1000 7)) ∧
 ((Qv (vI x7)) ∧
 ((Qv (Pt 1000 7)) ∧
 ((Qv (Pt 1000 7)) ∧
 (((Qv (Sl 1003 3 3)) ∧
 (Qv (some (AObj.cells [(vI x3), (vI x4), (vI x5)] 3 false 1)))) ∧
 ((Qv (vI x5)) ∧
 ((Qv (Pt 1000 5)) ∧
 ((Qv (vI x4)) ∧
 ((Qv (Pt 1000 4)) ∧
 ((Qv (Pt 1000 3)) ∧
 ((Qv (vI x3)) ∧
 ((Qv (Pt 1000 3)) ∧
 ((Qv (Pt 1000 3)) ∧
 (((Qv (Sl 1002 2 2)) ∧
 (Qv (some (AObj.cells [(vI x1), (vI x2)] 3 false 1)))) ∧
 ((Qv (vI x2)) ∧
 ((Qv (Pt 1000 2)) ∧
 ((Qv (vI x1)) ∧
 ((Qv (Pt 1000 1)) ∧
 (((Qv (Sl 1001 1 1)) ∧
 (Qv (some (AObj.cells [(vI x0)] 3 false 1)))) ∧
 ((Qv (vI x0)) ∧
 ((Qv (Pt 1000 0)) ∧
 True))))))))))))))))))))))))))))))))))))))))))))) ∧
 (∃ n1 : Int,
 ((Says C 48 [(D.val (vI 1)), (D.val (vI 2500)), (D.sl 1 1 [(vI x0)])] [(D.val (vI n1))]) ∧
 (((Qv (Sl 500 (n6) (c6))) ∧
 ((Qv (Pt 1000 6)) ∧
 (((Qv (Sl 1006 4 4)) ∧
 (Qv (some (AObj.cells [(vI x2), (vI x1), (vI x3), (vI x4), (vI x7), (vI x8), (vI x9), (vI x10)] 30 false 2)))) ∧
 ((Qv (Value.agg [(vI x9), (vI x10)].toArray)) ∧
 ((Qv (Pt 1000 9)) ∧
 ((Qv (Value.agg [(vI x7), (vI x8)].toArray)) ∧
 ((Qv (Pt 1000 7)) ∧
 ((Qv (Value.agg [(vI x3), (vI x4)].toArray)) ∧
 ((Qv (Pt 1000 3)) ∧
 ((Qv (Value.agg [(vI x2), (vI x1)].toArray)) ∧
 ((Qv (vI x1)) ∧
 ((Qv (Pt 1000 1)) ∧
 ((Qv (vI x2)) ∧
 ((Qv (Pt 1000 2)) ∧
 (((Qv (Sl 1005 2 2)) ∧
 (Qv (some (AObj.cells [(vI x9), (vI x10)] 3 false 1)))) ∧
 ((Qv (vI x10)) ∧
 ((Qv (Pt 1000 10)) ∧
 ((Qv (Pt 1000 9)) ∧
 ((Qv (vI x9)) ∧
 ((Qv (Pt 1000 9)) ∧
 ((Qv (Pt 1000 9)) ∧
 (((Qv (Sl 1004 2 2)) ∧
 (Qv (some (AObj.cells [(vI x7), (vI x8)] 3 false 1)))) ∧
 ((Qv (vI x8)) ∧
 ((Qv (Pt 1000 8)) ∧
 ((Qv (Pt 1000 7)) ∧
 ((Qv (vI x7)) ∧
 ((Qv (Pt 1000 7)) ∧
 ((Qv (Pt 1000 7)) ∧
 (((Qv (Sl 1003 3 3)) ∧
 (Qv (some (AObj.cells [(vI x3), (vI x4), (vI x5)] 3 false 1)))) ∧
 ((Qv (vI x5)) ∧
 ((Qv (Pt 1000 5)) ∧
 ((Qv (vI x4)) ∧
 ((Qv (Pt 1000 4)) ∧
 ((Qv (Pt 1000 3)) ∧
 ((Qv (vI x3)) ∧
 ((Qv (Pt 1000 3)) ∧
 ((Qv (Pt 1000 3)) ∧
 (((Qv (Sl 1002 2 2)) ∧
 (Qv (some (AObj.cells [(vI x1), (vI x2)] 3 false 1)))) ∧
 ((Qv (vI x2)) ∧
 ((Qv (Pt 1000 2)) ∧
 ((Qv (vI x1)) ∧
 ((Qv (Pt 1000 1)) ∧
 ((Qv (vI x0)) ∧
 ((Qv (Pt 1000 0)) ∧
 True)))))))))))))))))))))))))))))))))))))))))))) ∧
 (∃ n2 : Int,
 ((Says C 48 [(D.val (vI 1)), (D.val (vI 1000)), (D.sl 2 1 [(vI x1), (vI x2)])] [(D.val (vI n2))]) ∧
 (((Qv (Sl 500 (n6) (c6))) ∧
 ((Qv (Pt 1000 6)) ∧
 (((Qv (Sl 1006 4 4)) ∧
 (Qv (some (AObj.cells [(vI x2), (vI x1), (vI x3), (vI x4), (vI x7), (vI x8), (vI x9), (vI x10)] 30 false 2)))) ∧
 ((Qv (Value.agg [(vI x9), (vI x10)].toArray)) ∧
 ((Qv (Pt 1000 9)) ∧
 ((Qv (Value.agg [(vI x7), (vI x8)].toArray)) ∧
 ((Qv (Pt 1000 7)) ∧
 ((Qv (Value.agg [(vI x3), (vI x4)].toArray)) ∧
 ((Qv (Pt 1000 3)) ∧
 ((Qv (Value.agg [(vI x2), (vI x1)].toArray)) ∧
 ((Qv (vI x1)) ∧
 ((Qv (Pt 1000 1)) ∧
 ((Qv (vI x2)) ∧
 ((Qv (Pt 1000 2)) ∧
 (((Qv (Sl 1005 2 2)) ∧
 (Qv (some (AObj.cells [(vI x9), (vI x10)] 3 false 1)))) ∧
 ((Qv (vI x10)) ∧
 ((Qv (Pt 1000 10)) ∧
 ((Qv (Pt 1000 9)) ∧
 ((Qv (vI x9)) ∧
 ((Qv (Pt 1000 9)) ∧
 ((Qv (Pt 1000 9)) ∧
 (((Qv (Sl 1004 2 2)) ∧
 (Qv (some (AObj.cells [(vI x7), (vI x8)] 3 false 1)))) ∧
 ((Qv (vI x8)) ∧
 ((Qv (Pt 1000 8)) ∧
 ((Qv (Pt 1000 7)) ∧
 ((Qv (vI x7)) ∧
 ((Qv (Pt 1000 7)) ∧
 ((Qv (Pt 1000 7)) ∧
 (((Qv (Sl 1003 3 3)) ∧
 (Qv (some (AObj.cells [(vI x3), (vI x4), (vI x5)] 3 false 1)))) ∧
 ((Qv (vI x5)) ∧
 ((Qv (Pt 1000 5)) ∧
 ((Qv (vI x4)) ∧
 ((Qv (Pt 1000 4)) ∧
 ((Qv (Pt 1000 3)) ∧
 ((Qv (vI x3)) ∧
 ((Qv (Pt 1000 3)) ∧
 ((Qv (Pt 1000 3)) ∧
 ((Qv (vI x2)) ∧
 ((Qv (Pt 1000 2)) ∧
 ((Qv (vI x1)) ∧
 ((Qv (Pt 1000 1)) ∧
 ((Qv (vI x0)) ∧
 ((Qv (Pt 1000 0)) ∧
 True))))))))))))))))))))))))))))))))))))))))))) ∧
 (∃ n3 : Int,
 ((Says C 48 [(D.val (vI 0)), (D.val (vI 20000)), (D.sl 3 1 [(vI x3), (vI x4), (vI x5)])] [(D.val (vI n3))]) ∧
 (((Qv (Sl 500 (n6) (c6))) ∧
 ((Qv (Pt 1000 6)) ∧
 (((Qv (Sl 1006 4 4)) ∧
 (Qv (some (AObj.cells [(vI x2), (vI x1), (vI x3), (vI x4), (vI x7), (vI x8), (vI x9), (vI x10)] 30 false 2)))) ∧
 ((Qv (Value.agg [(vI x9), (vI x10)].toArray)) ∧
 ((Qv (Pt 1000 9)) ∧
 ((Qv (Value.agg [(vI x7), (vI x8)].toArray)) ∧
 ((Qv (Pt 1000 7)) ∧
 ((Qv (Value.agg [(vI x3), (vI x4)].toArray)) ∧
 ((Qv (Pt 1000 3)) ∧
 ((Qv (Value.agg [(vI x2), (vI x1)].toArray)) ∧
 ((Qv (vI x1)) ∧
 ((Qv (Pt 1000 1)) ∧
 ((Qv (vI x2)) ∧
 ((Qv (Pt 1000 2)) ∧
 (((Qv (Sl 1005 2 2)) ∧
 (Qv (some (AObj.cells [(vI x9), (vI x10)] 3 false 1)))) ∧
 ((Qv (vI x10)) ∧
 ((Qv (Pt 1000 10)) ∧
 ((Qv (Pt 1000 9)) ∧
 ((Qv (vI x9)) ∧
 ((Qv (Pt 1000 9)) ∧
 ((Qv (Pt 1000 9)) ∧
 (((Qv (Sl 1004 2 2)) ∧
 (Qv (some (AObj.cells [(vI x7), (vI x8)] 3 false 1)))) ∧
 ((Qv (vI x8)) ∧
 ((Qv (Pt 1000 8)) ∧
 ((Qv (Pt 1000 7)) ∧
 ((Qv (vI x7)) ∧
 ((Qv (Pt 1000 7)) ∧
 ((Qv (Pt 1000 7)) ∧
 ((Qv (vI x5)) ∧
 ((Qv (Pt 1000 5)) ∧
 ((Qv (vI x4)) ∧
 ((Qv (Pt 1000 4)) ∧
 ((Qv (Pt 1000 3)) ∧
 ((Qv (vI x3)) ∧
 ((Qv (Pt 1000 3)) ∧
 ((Qv (Pt 1000 3)) ∧
 ((Qv (vI x2)) ∧
 ((Qv (Pt 1000 2)) ∧
 ((Qv (vI x1)) ∧
 ((Qv (Pt 1000 1)) ∧
 ((Qv (vI x0)) ∧
 ((Qv (Pt 1000 0)) ∧
 True)))))))))))))))))))))))))))))))))))))))))) ∧
 (∃ n4 : Int,
 ((Says C 48 [(D.val (vI 1)), (D.val (vI 100)), (D.sl 2 1 [(vI x7), (vI x8)])] [(D.val (vI n4))]) ∧
 (((Qv (Sl 500 (n6) (c6))) ∧
 ((Qv (Pt 1000 6)) ∧
 (((Qv (Sl 1006 4 4)) ∧
 (Qv (some (AObj.cells [(vI x2), (vI x1), (vI x3), (vI x4), (vI x7), (vI x8), (vI x9), (vI x10)] 30 false 2)))) ∧
 ((Qv (Value.agg [(vI x9), (vI x10)].toArray)) ∧
 ((Qv (Pt 1000 9)) ∧
 ((Qv (Value.agg [(vI x7), (vI x8)].toArray)) ∧
 ((Qv (Pt 1000 7)) ∧
 ((Qv (Value.agg [(vI x3), (vI x4)].toArray)) ∧
 ((Qv (Pt 1000 3)) ∧
 ((Qv (Value.agg [(vI x2), (vI x1)].toArray)) ∧
 ((Qv (vI x1)) ∧
 ((Qv (Pt 1000 1)) ∧
 ((Qv (vI x2)) ∧
 ((Qv (Pt 1000 2)) ∧
 (((Qv (Sl 1005 2 2)) ∧
 (Qv (some (AObj.cells [(vI x9), (vI x10)] 3 false 1)))) ∧
 ((Qv (vI x10)) ∧
 ((Qv (Pt 1000 10)) ∧
 ((Qv (Pt 1000 9)) ∧
 ((Qv (vI x9)) ∧
 ((Qv (Pt 1000 9)) ∧
 ((Qv (Pt 1000 9)) ∧
 ((Qv (vI x8)) ∧
 ((Qv (Pt 1000 8)) ∧
 ((Qv (Pt 1000 7)) ∧
 ((Qv (vI x7)) ∧
 ((Qv (Pt 1000 7)) ∧
 ((Qv (Pt 1000 7)) ∧
 ((Qv (vI x5)) ∧
 ((Qv (Pt 1000 5)) ∧
 ((Qv (vI x4)) ∧
 ((Qv (Pt 1000 4)) ∧
 ((Qv (Pt 1000 3)) ∧
 ((Qv (vI x3)) ∧
 ((Qv (Pt 1000 3)) ∧
 ((Qv (Pt 1000 3)) ∧
 ((Qv (vI x2)) ∧
 ((Qv (Pt 1000 2)) ∧
 ((Qv (vI x1)) ∧
 ((Qv (Pt 1000 1)) ∧
 ((Qv (vI x0)) ∧
 ((Qv (Pt 1000 0)) ∧
 True))))))))))))))))))))))))))))))))))))))))) ∧
 (∃ n5 : Int,
 ((Says C 48 [(D.val (vI 0)), (D.val (vI 100)), (D.sl 2 1 [(vI x9), (vI x10)])] [(D.val (vI n5))]) ∧
 (((Qv (Sl 500 (n6) (c6))) ∧
 ((Qv (Pt 1000 6)) ∧
 (((Qv (Sl 1006 4 4)) ∧
 (Qv (some (AObj.cells [(vI x2), (vI x1), (vI x3), (vI x4), (vI x7), (vI x8), (vI x9), (vI x10)] 30 false 2)))) ∧
 ((Qv (Value.agg [(vI x9), (vI x10)].toArray)) ∧
 ((Qv (Pt 1000 9)) ∧
 ((Qv (Value.agg [(vI x7), (vI x8)].toArray)) ∧
 ((Qv (Pt 1000 7)) ∧
 ((Qv (Value.agg [(vI x3), (vI x4)].toArray)) ∧
 ((Qv (Pt 1000 3)) ∧
 ((Qv (Value.agg [(vI x2), (vI x1)].toArray)) ∧
 ((Qv (vI x1)) ∧
 ((Qv (Pt 1000 1)) ∧
 ((Qv (vI x2)) ∧
 ((Qv (Pt 1000 2)) ∧
 ((Qv (vI x10)) ∧
 ((Qv (Pt 1000 10)) ∧
 ((Qv (Pt 1000 9)) ∧
 ((Qv (vI x9)) ∧
 ((Qv (Pt 1000 9)) ∧
 ((Qv (Pt 1000 9)) ∧
 ((Qv (vI x8)) ∧
 ((Qv (Pt 1000 8)) ∧
 ((Qv (Pt 1000 7)) ∧
 ((Qv (vI x7)) ∧
 ((Qv (Pt 1000 7)) ∧
 ((Qv (Pt 1000 7)) ∧
 ((Qv (vI x5)) ∧
 ((Qv (Pt 1000 5)) ∧
 ((Qv (vI x4)) ∧
 ((Qv (Pt 1000 4)) ∧
 ((Qv (Pt 1000 3)) ∧
 ((Qv (vI x3)) ∧
 ((Qv (Pt 1000 3)) ∧
 ((Qv (Pt 1000 3)) ∧
 ((Qv (vI x2)) ∧
 ((Qv (Pt 1000 2)) ∧
 ((Qv (vI x1)) ∧
 ((Qv (Pt 1000 1)) ∧
 ((Qv (vI x0)) ∧
 ((Qv (Pt 1000 0)) ∧
 True)))))))))))))))))))))))))))))))))))))))) ∧
 (∃ n7 : Int,
 ((Says C 60 [(D.sl 4 2 [(vI x2), (vI x1), (vI x3), (vI x4), (vI x7), (vI x8), (vI x9), (vI x10)])] [(D.val (vI n7))]) ∧
 (((Qv (Sl 500 (n6) (c6))) ∧
 ((Qv (Pt 1000 6)) ∧
 ((Qv (Value.agg [(vI x9), (vI x10)].toArray)) ∧
 ((Qv (Pt 1000 9)) ∧
 ((Qv (Value.agg [(vI x7), (vI x8)].toArray)) ∧
 ((Qv (Pt 1000 7)) ∧
 ((Qv (Value.agg [(vI x3), (vI x4)].toArray)) ∧
 ((Qv (Pt 1000 3)) ∧
 ((Qv (Value.agg [(vI x2), (vI x1)].toArray)) ∧
 ((Qv (vI x1)) ∧
 ((Qv (Pt 1000 1)) ∧
 ((Qv (vI x2)) ∧
 ((Qv (Pt 1000 2)) ∧
 ((Qv (vI x10)) ∧
 ((Qv (Pt 1000 10)) ∧
 ((Qv (Pt 1000 9)) ∧
 ((Qv (vI x9)) ∧
 ((Qv (Pt 1000 9)) ∧
 ((Qv (Pt 1000 9)) ∧
 ((Qv (vI x8)) ∧
 ((Qv (Pt 1000 8)) ∧
 ((Qv (Pt 1000 7)) ∧
 ((Qv (vI x7)) ∧
 ((Qv (Pt 1000 7)) ∧
 ((Qv (Pt 1000 7)) ∧
 ((Qv (vI x5)) ∧
 ((Qv (Pt 1000 5)) ∧
 ((Qv (vI x4)) ∧
 ((Qv (Pt 1000 4)) ∧
 ((Qv (Pt 1000 3)) ∧
 ((Qv (vI x3)) ∧
 ((Qv (Pt 1000 3)) ∧
 ((Qv (Pt 1000 3)) ∧
 ((Qv (vI x2)) ∧
 ((Qv (Pt 1000 2)) ∧
 ((Qv (vI x1)) ∧
 ((Qv (Pt 1000 1)) ∧
 ((Qv (vI x0)) ∧
 ((Qv (Pt 1000 0)) ∧
 True))))))))))))))))))))))))))))))))))))))) ∧
 (bcase (decide (0 + n6 * 5 ≤ List.length l6))
 (∃ n8 : Int,
 ((Says C 61 [(D.sl (n6) 5 (List.take (n6 * 5) (List.drop 0 l6)))] [(D.val (vI n8))]) ∧
 ((((Qv (Sl 1007 7 7)) ∧
 (Qv (some (AObj.cells [(vI n1), (vI n2), (vI n3), (vI n4), (vI n5), (vI n7), (vI n8)] 26 false 1)))) ∧
 ((Qv (Pt 1000 6)) ∧
 ((Qv (Value.agg [(vI x9), (vI x10)].toArray)) ∧
 ((Qv (Pt 1000 9)) ∧
 ((Qv (Value.agg [(vI x7), (vI x8)].toArray)) ∧
 ((Qv (Pt 1000 7)) ∧
 ((Qv (Value.agg [(vI x3), (vI x4)].toArray)) ∧
 ((Qv (Pt 1000 3)) ∧
 ((Qv (Value.agg [(vI x2), (vI x1)].toArray)) ∧
 ((Qv (vI x1)) ∧
 ((Qv (Pt 1000 1)) ∧
 ((Qv (vI x2)) ∧
 ((Qv (Pt 1000 2)) ∧
 ((Qv (vI x10)) ∧
 ((Qv (Pt 1000 10)) ∧
 ((Qv (Pt 1000 9)) ∧
 ((Qv (vI x9)) ∧
 ((Qv (Pt 1000 9)) ∧
 ((Qv (Pt 1000 9)) ∧
 ((Qv (vI x8)) ∧
 ((Qv (Pt 1000 8)) ∧
 ((Qv (Pt 1000 7)) ∧
 ((Qv (vI x7)) ∧
 ((Qv (Pt 1000 7)) ∧
 ((Qv (Pt 1000 7)) ∧
 ((Qv (vI x5)) ∧
 ((Qv (Pt 1000 5)) ∧
 ((Qv (vI x4)) ∧
 ((Qv (Pt 1000 4)) ∧
 ((Qv (Pt 1000 3)) ∧
 ((Qv (vI x3)) ∧
 ((Qv (Pt 1000 3)) ∧
 ((Qv (Pt 1000 3)) ∧
 ((Qv (vI x2)) ∧
 ((Qv (Pt 1000 2)) ∧
 ((Qv (vI x1)) ∧
 ((Qv (Pt 1000 1)) ∧
 ((Qv (vI x0)) ∧
 ((Qv (Pt 1000 0)) ∧
 True))))))))))))))))))))))))))))))))))))))) ∧
 (∃ n9 : Int,
 ((Says C 47 [(D.sl 7 1 [(vI n1), (vI n2), (vI n3), (vI n4), (vI n5), (vI n7), (vI n8)])] [(D.val (vI n9))]) ∧
 (((Qv (Pt 1000 6)) ∧
 ((Qv (Value.agg [(vI x9), (vI x10)].toArray)) ∧
 ((Qv (Pt 1000 9)) ∧
 ((Qv (Value.agg [(vI x7), (vI x8)].toArray)) ∧
 ((Qv (Pt 1000 7)) ∧
 ((Qv (Value.agg [(vI x3), (vI x4)].toArray)) ∧
 ((Qv (Pt 1000 3)) ∧
 ((Qv (Value.agg [(vI x2), (vI x1)].toArray)) ∧
 ((Qv (vI x1)) ∧
 ((Qv (Pt 1000 1)) ∧
 ((Qv (vI x2)) ∧
 ((Qv (Pt 1000 2)) ∧
 ((Qv (vI x10)) ∧
 ((Qv (Pt 1000 10)) ∧
 ((Qv (Pt 1000 9)) ∧
 ((Qv (vI x9)) ∧
 ((Qv (Pt 1000 9)) ∧
 ((Qv (Pt 1000 9)) ∧
 ((Qv (vI x8)) ∧
 ((Qv (Pt 1000 8)) ∧
 ((Qv (Pt 1000 7)) ∧
 ((Qv (vI x7)) ∧
 ((Qv (Pt 1000 7)) ∧
 ((Qv (Pt 1000 7)) ∧
 ((Qv (vI x5)) ∧
 ((Qv (Pt 1000 5)) ∧
 ((Qv (vI x4)) ∧
 ((Qv (Pt 1000 4)) ∧
 ((Qv (Pt 1000 3)) ∧
 ((Qv (vI x3)) ∧
 ((Qv (Pt 1000 3)) ∧
 ((Qv (Pt 1000 3)) ∧
 ((Qv (vI x2)) ∧
 ((Qv (Pt 1000 2)) ∧
 ((Qv (vI x1)) ∧
 ((Qv (Pt 1000 1)) ∧
 ((Qv (vI x0)) ∧
 ((Qv (Pt 1000 0)) ∧
 True)))))))))))))))))))))))))))))))))))))) ∧
 (True ∧
 (bcase (n9 != 0)
 (k [(D.val (vI 0)), (D.val (vI n9))])
 (L 0 [(Prod.mk 66 (Sl 500 (n6) (c6))), (Prod.mk 67 (vI ((↑n6 : Int)))), (Prod.mk 68 (vI 0))] [(Prod.mk 500 (AObj.sym (l6) false 5))])))))))))
 False)))))))))))))))))))) := by kernel_rfl
abbrev zKR1 (n0 : Nat) (c1 : Nat) (x2 : Int) (x3 : Int) (l4 : List Value) : Slots × Blocks := ([(66, (Value.slice (some ⟨500, 0, none⟩) n0 c1)), (67, (Value.int .i64 x2)), (68, (Value.int .i64 x3))], [(500, (AObj.sym l4 false 5))])
def rKR1 (C : Ct) (L : AtLoop) (n0 : Nat) (c1 : Nat) (x2 : Int) (x3 : Int) (l4 : List Value) (B : Bx) (X : Xx) (k : List D → Prop) : Prop := wpRound Tryz.prog (hP C) L 30 0 [(66, (Value.slice (some ⟨500, 0, none⟩) n0 c1)), (67, (Value.int .i64 x2)), (68, (Value.int .i64 x3))] [(500, (AObj.sym l4 false 5))] B X (dataK k)
theorem rKR1_text (C : Ct) (L : AtLoop) (n0 : Nat) (c1 : Nat) (x2 : Int) (x3 : Int) (l4 : List Go.Value) (B : Bx) (X : Xx) (k : List D → Prop) : rKR1 C L n0 c1 x2 x3 l4 B X k =
 (bcase (decide (x3 < x2))
 (bcase (decide (0 ≤ x3))
 (bcase (decide (x3 < (↑n0 : Int)))
 (∃ n1 : Int,
 (∃ n2 : Int,
 (∃ n3 : Int,
 (∃ n4 : Int,
 (∃ n5 : Int,
 ((At (l4) (0 + Int.toNat x3 * 5) 5 [(vI n1), (vI n2), (vI n3), (vI n4), (vI n5)]) ∧
 (∃ n6 : Int,
 ((Says C 62 [(D.agg [(D.val (vI n1)), (D.val (vI n2)), (D.val (vI n3)), (D.val (vI n4)), (D.val (vI n5))])] [(D.val (vI n6))]) ∧
 (bcase (n6 != 0)
 (k [(D.val (vI x3)), (D.val (vI n6))])
 (B [(Prod.mk 66 (Sl 500 (n0) (c1))), (Prod.mk 67 (vI x2)), (Prod.mk 68 (vI (IntKind.wrap .i64 (x3 + 1))))] [(Prod.mk 500 (AObj.sym (l4) false 5))]))))))))))
 False)
 False)
 (X 0 [] [])) := by kernel_rfl
def nKR2 (C : Ct) (L : AtLoop) (k : List D → Prop) : Prop := wpNext Tryz.prog (hP C) L 30 0 .normal [] [] (dataK k)
theorem nKR2_text (C : Ct) (L : AtLoop) (k : List D → Prop) : nKR2 C L k =
 (k [(D.val (vI 0)), (D.val (vI 0))]) := by kernel_rfl
def giL (C : Ct) (L : AtLoop) (x0 : Int) (k : List D → Prop) : Prop := wpFn Tryz.prog (hP C) L 0 59 #[.int .u8 x0] (heapOf []) (dataK k)
theorem giL_text (C : Ct) (L : AtLoop) (x0 : Int) (k : List D → Prop) : giL C L x0 k =
 (bcase (decide (97 ≤ x0))
 (bcase (decide (x0 ≤ 122))
 (k [(D.val (Value.bool true))])
 (bcase (decide (65 ≤ x0))
 (bcase (decide (x0 ≤ 90))
 (k [(D.val (Value.bool true))])
 (k [(D.val (Value.bool false))]))
 (k [(D.val (Value.bool false))])))
 (bcase (decide (65 ≤ x0))
 (bcase (decide (x0 ≤ 90))
 (k [(D.val (Value.bool true))])
 (k [(D.val (Value.bool false))]))
 (k [(D.val (Value.bool false))]))) := by kernel_rfl
def giD (C : Ct) (L : AtLoop) (x0 : Int) (k : List D → Prop) : Prop := wpFn Tryz.prog (hP C) L 0 58 #[.int .u8 x0] (heapOf []) (dataK k)
theorem giD_text (C : Ct) (L : AtLoop) (x0 : Int) (k : List D → Prop) : giD C L x0 k =
 (bcase (decide (48 ≤ x0))
 (bcase (decide (x0 ≤ 57))
 (k [(D.val (Value.bool true))])
 (k [(D.val (Value.bool false))]))
 (k [(D.val (Value.bool false))])) := by kernel_rfl
def giN (C : Ct) (L : AtLoop) (s0 : ByteArray) (k : List D → Prop) : Prop := wpFn Tryz.prog (hP C) L 0 24 #[.string s0] (heapOf []) (dataK k)
theorem giN_text (C : Ct) (L : AtLoop) (s0 : ByteArray) (k : List D → Prop) : giN C L s0 k =
 (bcase ((↑(ByteArray.size s0) : Int) == 0)
 (k [(D.val (Value.bool false))])
 (bcase (decide ((↑(ByteArray.size s0) : Int) > 12))
 (k [(D.val (Value.bool false))])
 (∃ b1 : UInt8,
 ((ByteAt (s0) 0 (b1)) ∧
 (((Says C 59 [(D.val (Value.int IntKind.u8 ((↑(UInt8.toNat b1) : Int))))] [(D.val (Value.bool true))]) ∧
 (L 0 [(Prod.mk 0 (Value.string (s0))), (Prod.mk 19 (vI ((↑(ByteArray.size s0) : Int)))), (Prod.mk 20 (vI 0))] [])) ∨
 ((Says C 59 [(D.val (Value.int IntKind.u8 ((↑(UInt8.toNat b1) : Int))))] [(D.val (Value.bool false))]) ∧
 (k [(D.val (Value.bool false))]))))))) := by kernel_rfl
abbrev ziN1 (s0 : ByteArray) (x1 : Int) (x2 : Int) : Slots × Blocks := ([(0, (Value.string s0)), (19, (Value.int .i64 x1)), (20, (Value.int .i64 x2))], [])
def riN1 (C : Ct) (L : AtLoop) (s0 : ByteArray) (x1 : Int) (x2 : Int) (B : Bx) (X : Xx) (k : List D → Prop) : Prop := wpRound Tryz.prog (hP C) L 24 0 [(0, (Value.string s0)), (19, (Value.int .i64 x1)), (20, (Value.int .i64 x2))] [] B X (dataK k)
theorem riN1_text (C : Ct) (L : AtLoop) (s0 : ByteArray) (x1 : Int) (x2 : Int) (B : Bx) (X : Xx) (k : List D → Prop) : riN1 C L s0 x1 x2 B X k =
 (bcase (decide (x2 < x1))
 (bcase (decide (0 ≤ x2))
 (∃ b1 : UInt8,
 ((ByteAt (s0) (Int.toNat x2) (b1)) ∧
 (((Says C 59 [(D.val (Value.int IntKind.u8 ((↑(UInt8.toNat b1) : Int))))] [(D.val (Value.bool true))]) ∧
 (B [(Prod.mk 0 (Value.string (s0))), (Prod.mk 19 (vI x1)), (Prod.mk 20 (vI (IntKind.wrap .i64 (x2 + 1))))] [])) ∨
 ((Says C 59 [(D.val (Value.int IntKind.u8 ((↑(UInt8.toNat b1) : Int))))] [(D.val (Value.bool false))]) ∧
 (bcase (decide (0 ≤ x2))
 (∃ b2 : UInt8,
 ((ByteAt (s0) (Int.toNat x2) (b2)) ∧
 (((Says C 58 [(D.val (Value.int IntKind.u8 ((↑(UInt8.toNat b2) : Int))))] [(D.val (Value.bool true))]) ∧
 (B [(Prod.mk 0 (Value.string (s0))), (Prod.mk 19 (vI x1)), (Prod.mk 20 (vI (IntKind.wrap .i64 (x2 + 1))))] [])) ∨
 ((Says C 58 [(D.val (Value.int IntKind.u8 ((↑(UInt8.toNat b2) : Int))))] [(D.val (Value.bool false))]) ∧
 (bcase (decide (0 ≤ x2))
 (∃ b3 : UInt8,
 ((ByteAt (s0) (Int.toNat x2) (b3)) ∧
 (bcase ((↑(UInt8.toNat b3) : Int) != 45)
 (k [(D.val (Value.bool false))])
 (B [(Prod.mk 0 (Value.string (s0))), (Prod.mk 19 (vI x1)), (Prod.mk 20 (vI (IntKind.wrap .i64 (x2 + 1))))] []))))
 False)))))
 False)))))
 False)
 (X 0 [] [])) := by kernel_rfl
def niN2 (C : Ct) (L : AtLoop) (k : List D → Prop) : Prop := wpNext Tryz.prog (hP C) L 24 0 .normal [] [] (dataK k)
theorem niN2_text (C : Ct) (L : AtLoop) (k : List D → Prop) : niN2 C L k =
 (k [(D.val (Value.bool true))]) := by kernel_rfl
def glT (C : Ct) (L : AtLoop) (x0 : Int) (x1 : Int) (k : List D → Prop) : Prop := wpFn Tryz.prog (hP C) L 0 51 #[.int .i64 x0, .int .i64 x1] (heapOf []) (dataK k)
theorem glT_text (C : Ct) (L : AtLoop) (x0 : Int) (x1 : Int) (k : List D → Prop) : glT C L x0 x1 k =
 (L 0 [(Prod.mk 0 (vI x0)), (Prod.mk 1 (vI x1)), (Prod.mk 4 (Pt 1000 0)), (Prod.mk 5 (vI (if IntKind.wrap .i64 (0 - x0) > x0 then IntKind.wrap .i64 (0 - x0) else x0))), (Prod.mk 6 (vI x1))] [(Prod.mk 1000 (AObj.cells [(vI 0), (vI 0)] 63 false 2))]) := by kernel_rfl
abbrev zlT1 (x0 : Int) (x1 : Int) (x2 : Int) (x3 : Int) (x4 : Int) (x5 : Int) : Slots × Blocks := ([(0, (Value.int .i64 x0)), (1, (Value.int .i64 x1)), (4, (Value.pointer (some ⟨1000, 0, none⟩))), (5, (Value.int .i64 x2)), (6, (Value.int .i64 x3))], [(1000, (AObj.cells [(Value.int .i64 x4), (Value.int .i64 x5)] 63 false 2))])
def rlT1 (C : Ct) (L : AtLoop) (x0 : Int) (x1 : Int) (x2 : Int) (x3 : Int) (x4 : Int) (x5 : Int) (B : Bx) (X : Xx) (k : List D → Prop) : Prop := wpRound Tryz.prog (hP C) L 51 0 [(0, (Value.int .i64 x0)), (1, (Value.int .i64 x1)), (4, (Value.pointer (some ⟨1000, 0, none⟩))), (5, (Value.int .i64 x2)), (6, (Value.int .i64 x3))] [(1000, (AObj.cells [(Value.int .i64 x4), (Value.int .i64 x5)] 63 false 2))] B X (dataK k)
theorem rlT1_text (C : Ct) (L : AtLoop) (x0 : Int) (x1 : Int) (x2 : Int) (x3 : Int) (x4 : Int) (x5 : Int) (B : Bx) (X : Xx) (k : List D → Prop) : rlT1 C L x0 x1 x2 x3 x4 x5 B X k =
 (bcase (decide (x3 > 0))
 (bcase (x3 != 0)
 (((bcase (x3 != 0)
 (Qv (vI (Int.tmod x2 x3)))
 False) ∧
 ((Qv (vI x3)) ∧
 ((Qv (vI x2)) ∧
 ((Qv (vI x3)) ∧
 True)))) ∧
 (((bcase (x3 != 0)
 (Qv (vI (Int.tmod x2 x3)))
 False) ∧
 ((Qv (vI x3)) ∧
 True)) ∧
 (True ∧
 (B [(Prod.mk 0 (vI x0)), (Prod.mk 1 (vI x1)), (Prod.mk 4 (Pt 1000 0)), (Prod.mk 5 (vI x3)), (Prod.mk 6 (vI (Int.tmod x2 x3)))] [(Prod.mk 1000 (AObj.cells [(vI x4), (vI x5)] 63 false 2))]))))
 False)
 (X 0 [(Prod.mk 0 (vI x0)), (Prod.mk 1 (vI x1)), (Prod.mk 4 (Pt 1000 0)), (Prod.mk 5 (vI x2))] [(Prod.mk 1000 (AObj.cells [(vI x4), (vI x5)] 63 false 2))])) := by kernel_rfl
def nlT2 (C : Ct) (L : AtLoop) (x0 : Int) (x1 : Int) (x2 : Int) (x3 : Int) (x4 : Int) (k : List D → Prop) : Prop := wpNext Tryz.prog (hP C) L 51 0 .normal [(0, (Value.int .i64 x0)), (1, (Value.int .i64 x1)), (4, (Value.pointer (some ⟨1000, 0, none⟩))), (5, (Value.int .i64 x2))] [(1000, (AObj.cells [(Value.int .i64 x3), (Value.int .i64 x4)] 63 false 2))] (dataK k)
theorem nlT2_text (C : Ct) (L : AtLoop) (x0 : Int) (x1 : Int) (x2 : Int) (x3 : Int) (x4 : Int) (k : List D → Prop) : nlT2 C L x0 x1 x2 x3 x4 k =
 (bcase (x2 != 0)
 (bcase (x2 != 0)
 (((Qv (Value.agg [(vI (IntKind.wrap .i64 (Int.tdiv x0 x2))), (vI (IntKind.wrap .i64 (Int.tdiv x1 x2)))].toArray)) ∧
 ((bcase (x2 != 0)
 (Qv (vI (IntKind.wrap .i64 (Int.tdiv x1 x2))))
 False) ∧
 ((Qv (vI x2)) ∧
 ((Qv (vI x1)) ∧
 ((bcase (x2 != 0)
 (Qv (vI (IntKind.wrap .i64 (Int.tdiv x0 x2))))
 False) ∧
 ((Qv (vI x2)) ∧
 ((Qv (vI x0)) ∧
 True))))))) ∧
 (True ∧
 (k [(D.agg [(D.val (vI (IntKind.wrap .i64 (Int.tdiv x0 x2)))), (D.val (vI (IntKind.wrap .i64 (Int.tdiv x1 x2))))])])))
 False)
 False) := by kernel_rfl
def gfB (C : Ct) (L : AtLoop) (x0 : Int) (x1 : Int) (x2 : Int) (x3 : Int) (x4 : Int) (x5 : Int) (n6 : Nat) (c6 : Nat) (l6 : List Value) (x7 : Int) (x8 : Int) (x9 : Int) (x10 : Int) (x11 : Int) (x12 : Int) (x13 : Int) (x14 : Int) (x15 : Int) (k : List D → Prop) : Prop := wpFn Tryz.prog (hP C) L 0 99 #[.agg #[.int .i64 x0, .int .i64 x1, .int .i64 x2, .int .i64 x3, .int .i64 x4, .int .i64 x5, .slice (some ⟨500, 0, none⟩) n6 c6, .int .i64 x7, .int .i64 x8, .int .i64 x9, .int .i64 x10], .agg #[.int .i64 x11, .int .i64 x12, .int .i64 x13], .int .i64 x14, .int .i64 x15] (heapOf [(500, .sym l6 false 5)]) (dataK k)
theorem gfB_text (C : Ct) (L : AtLoop) (x0 : Int) (x1 : Int) (x2 : Int) (x3 : Int) (x4 : Int) (x5 : Int) (n6 : Nat) (c6 : Nat) (l6 : List Go.Value) (x7 : Int) (x8 : Int) (x9 : Int) (x10 : Int) (x11 : Int) (x12 : Int) (x13 : Int) (x14 : Int) (x15 : Int) (k : List D → Prop) : gfB C L x0 x1 x2 x3 x4 x5 n6 c6 l6 x7 x8 x9 x10 x11 x12 x13 x14 x15 k =
 (bcase (x12 == x13)
 (k [(D.val (vI 0))])
 (((Qv (vI (IntKind.wrap .i64 (x15 * IntKind.wrap .i64 (x12 + x13))))) ∧
 ((Qv (vI (IntKind.wrap .i64 (x12 + x13)))) ∧
 ((Qv (vI x13)) ∧
 ((Qv (Pt 1001 2)) ∧
 ((Qv (vI x12)) ∧
 ((Qv (Pt 1001 1)) ∧
 ((Qv (vI x15)) ∧
 ((Qv (Value.agg [(vI x11), (vI x12), (vI x13)].toArray)) ∧
 ((Qv (vI x14)) ∧
 ((Qv (vI x0)) ∧
 ((Qv (Pt 1000 0)) ∧
 ((Qv (Pt 1000 0)) ∧
 True)))))))))))) ∧
 (((Qv (vI (IntKind.wrap .i64 (x0 * IntKind.wrap .i64 (IntKind.wrap .i64 (x14 * IntKind.wrap .i64 (x12 - x13)) + IntKind.wrap .i64 (x15 * IntKind.wrap .i64 (x12 + x13))))))) ∧
 ((Qv (vI (IntKind.wrap .i64 (IntKind.wrap .i64 (x14 * IntKind.wrap .i64 (x12 - x13)) + IntKind.wrap .i64 (x15 * IntKind.wrap .i64 (x12 + x13)))))) ∧
 ((Qv (vI (IntKind.wrap .i64 (x14 * IntKind.wrap .i64 (x12 - x13))))) ∧
 ((Qv (vI (IntKind.wrap .i64 (x15 * IntKind.wrap .i64 (x12 + x13))))) ∧
 ((Qv (vI (IntKind.wrap .i64 (x12 + x13)))) ∧
 ((Qv (vI x13)) ∧
 ((Qv (Pt 1001 2)) ∧
 ((Qv (vI x12)) ∧
 ((Qv (Pt 1001 1)) ∧
 ((Qv (vI x15)) ∧
 ((Qv (vI x14)) ∧
 ((Qv (vI x0)) ∧
 ((Qv (Pt 1000 0)) ∧
 ((Qv (Pt 1000 0)) ∧
 True)))))))))))))) ∧
 (True ∧
 (k [(D.val (vI (IntKind.wrap .i64 (x0 * IntKind.wrap .i64 (IntKind.wrap .i64 (x14 * IntKind.wrap .i64 (x12 - x13)) + IntKind.wrap .i64 (x15 * IntKind.wrap .i64 (x12 + x13)))))))]))))) := by kernel_rfl
def gfo (C : Ct) (L : AtLoop) (x0 : Int) (x1 : Int) (x2 : Int) (x3 : Int) (x4 : Int) (x5 : Int) (n6 : Nat) (c6 : Nat) (l6 : List Value) (x7 : Int) (x8 : Int) (x9 : Int) (x10 : Int) (x11 : Int) (x12 : Int) (x13 : Int) (k : List D → Prop) : Prop := wpFn Tryz.prog (hP C) L 0 87 #[.agg #[.int .i64 x0, .int .i64 x1, .int .i64 x2, .int .i64 x3, .int .i64 x4, .int .i64 x5, .slice (some ⟨500, 0, none⟩) n6 c6, .int .i64 x7, .int .i64 x8, .int .i64 x9, .int .i64 x10], .agg #[.int .i64 x11, .int .i64 x12, .int .i64 x13]] (heapOf [(500, .sym l6 false 5)]) (dataK k)
theorem gfo_text (C : Ct) (L : AtLoop) (x0 : Int) (x1 : Int) (x2 : Int) (x3 : Int) (x4 : Int) (x5 : Int) (n6 : Nat) (c6 : Nat) (l6 : List Go.Value) (x7 : Int) (x8 : Int) (x9 : Int) (x10 : Int) (x11 : Int) (x12 : Int) (x13 : Int) (k : List D → Prop) : gfo C L x0 x1 x2 x3 x4 x5 n6 c6 l6 x7 x8 x9 x10 x11 x12 x13 k =
 (((Qv (vI x10)) ∧
 ((Qv (Pt 1000 10)) ∧
 ((Qv (Pt 1000 9)) ∧
 ((Qv (Pt 1000 0)) ∧
 ((Qv (vI x8)) ∧
 ((Qv (Pt 1000 8)) ∧
 ((Qv (Pt 1000 7)) ∧
 ((Qv (Pt 1000 0)) ∧
 ((Qv (Value.agg [(vI x11), (vI x12), (vI x13)].toArray)) ∧
 ((Qv (Value.agg [(vI x0), (vI x1), (vI x2), (vI x3), (vI x4), (vI x5), (Sl 500 (n6) (c6)), (vI x7), (vI x8), (vI x9), (vI x10)].toArray)) ∧
 ((Qv (vI x9)) ∧
 ((Qv (Pt 1000 9)) ∧
 ((Qv (Pt 1000 9)) ∧
 ((Qv (Pt 1000 0)) ∧
 ((Qv (vI x7)) ∧
 ((Qv (Pt 1000 7)) ∧
 ((Qv (Pt 1000 7)) ∧
 ((Qv (Pt 1000 0)) ∧
 ((Qv (Value.agg [(vI x11), (vI x12), (vI x13)].toArray)) ∧
 ((Qv (Value.agg [(vI x0), (vI x1), (vI x2), (vI x3), (vI x4), (vI x5), (Sl 500 (n6) (c6)), (vI x7), (vI x8), (vI x9), (vI x10)].toArray)) ∧
 True)))))))))))))))))))) ∧
 (bcase (decide (0 + n6 * 5 ≤ List.length l6))
 (∃ n1 : Int,
 ((Says C 99 [(D.agg [(D.val (vI x0)), (D.val (vI x1)), (D.val (vI x2)), (D.val (vI x3)), (D.val (vI x4)), (D.val (vI x5)), (D.sl (n6) 5 (List.take (n6 * 5) (List.drop 0 l6))), (D.val (vI x7)), (D.val (vI x8)), (D.val (vI x9)), (D.val (vI x10))]), (D.agg [(D.val (vI x11)), (D.val (vI x12)), (D.val (vI x13))]), (D.val (vI x7)), (D.val (vI x9))] [(D.val (vI n1))]) ∧
 (((Qv (vI x10)) ∧
 ((Qv (Pt 1000 10)) ∧
 ((Qv (Pt 1000 9)) ∧
 ((Qv (Pt 1000 0)) ∧
 ((Qv (vI x8)) ∧
 ((Qv (Pt 1000 8)) ∧
 ((Qv (Pt 1000 7)) ∧
 ((Qv (Pt 1000 0)) ∧
 ((Qv (Value.agg [(vI x11), (vI x12), (vI x13)].toArray)) ∧
 ((Qv (Value.agg [(vI x0), (vI x1), (vI x2), (vI x3), (vI x4), (vI x5), (Sl 500 (n6) (c6)), (vI x7), (vI x8), (vI x9), (vI x10)].toArray)) ∧
 ((Qv (Pt 1000 9)) ∧
 ((Qv (Pt 1000 9)) ∧
 ((Qv (Pt 1000 0)) ∧
 ((Qv (Pt 1000 7)) ∧
 ((Qv (Pt 1000 7)) ∧
 ((Qv (Pt 1000 0)) ∧
 True)))))))))))))))) ∧
 (bcase (decide (0 + n6 * 5 ≤ List.length l6))
 (∃ n2 : Int,
 ((Says C 99 [(D.agg [(D.val (vI x0)), (D.val (vI x1)), (D.val (vI x2)), (D.val (vI x3)), (D.val (vI x4)), (D.val (vI x5)), (D.sl (n6) 5 (List.take (n6 * 5) (List.drop 0 l6))), (D.val (vI x7)), (D.val (vI x8)), (D.val (vI x9)), (D.val (vI x10))]), (D.agg [(D.val (vI x11)), (D.val (vI x12)), (D.val (vI x13))]), (D.val (vI x8)), (D.val (vI x10))] [(D.val (vI n2))]) ∧
 (((Qv (Value.agg [(vI n1), (vI n2)].toArray)) ∧
 ((Qv (Pt 1000 10)) ∧
 ((Qv (Pt 1000 9)) ∧
 ((Qv (Pt 1000 0)) ∧
 ((Qv (Pt 1000 8)) ∧
 ((Qv (Pt 1000 7)) ∧
 ((Qv (Pt 1000 0)) ∧
 ((Qv (Pt 1000 9)) ∧
 ((Qv (Pt 1000 9)) ∧
 ((Qv (Pt 1000 0)) ∧
 ((Qv (Pt 1000 7)) ∧
 ((Qv (Pt 1000 7)) ∧
 ((Qv (Pt 1000 0)) ∧
 True))))))))))))) ∧
 (True ∧
 (k [(D.agg [(D.val (vI n1)), (D.val (vI n2))])])))))
 False))))
 False)) := by kernel_rfl
def gto (C : Ct) (L : AtLoop) (x0 : Int) (x1 : Int) (x2 : Int) (x3 : Int) (x4 : Int) (x5 : Int) (n6 : Nat) (c6 : Nat) (l6 : List Value) (x7 : Int) (x8 : Int) (x9 : Int) (x10 : Int) (x11 : Int) (x12 : Int) (x13 : Int) (k : List D → Prop) : Prop := wpFn Tryz.prog (hP C) L 0 70 #[.agg #[.int .i64 x0, .int .i64 x1, .int .i64 x2, .int .i64 x3, .int .i64 x4, .int .i64 x5, .slice (some ⟨500, 0, none⟩) n6 c6, .int .i64 x7, .int .i64 x8, .int .i64 x9, .int .i64 x10], .agg #[.int .i64 x11, .int .i64 x12, .int .i64 x13]] (heapOf [(500, .sym l6 false 5)]) (dataK k)
theorem gto_text (C : Ct) (L : AtLoop) (x0 : Int) (x1 : Int) (x2 : Int) (x3 : Int) (x4 : Int) (x5 : Int) (n6 : Nat) (c6 : Nat) (l6 : List Go.Value) (x7 : Int) (x8 : Int) (x9 : Int) (x10 : Int) (x11 : Int) (x12 : Int) (x13 : Int) (k : List D → Prop) : gto C L x0 x1 x2 x3 x4 x5 n6 c6 l6 x7 x8 x9 x10 x11 x12 x13 k =
 (bcase (decide (0 + n6 * 5 ≤ List.length l6))
 (∃ n1 : Int,
 (∃ n2 : Int,
 ((Says C 87 [(D.agg [(D.val (vI x0)), (D.val (vI x1)), (D.val (vI x2)), (D.val (vI x3)), (D.val (vI x4)), (D.val (vI x5)), (D.sl (n6) 5 (List.take (n6 * 5) (List.drop 0 l6))), (D.val (vI x7)), (D.val (vI x8)), (D.val (vI x9)), (D.val (vI x10))]), (D.agg [(D.val (vI x11)), (D.val (vI x12)), (D.val (vI x13))])] [(D.agg [(D.val (vI n1)), (D.val (vI n2))])]) ∧
 (((Qv (Value.agg [(vI x11), (vI x12), (vI x13)].toArray)) ∧
 ((Qv (vI n2)) ∧
 ((Qv (Pt 1003 1)) ∧
 ((Qv (Value.agg [(vI x11), (vI x12), (vI x13)].toArray)) ∧
 ((Qv (vI n1)) ∧
 ((Qv (Pt 1003 0)) ∧
 True)))))) ∧
 (((Qv (vI (IntKind.wrap .i64 (n1 * IntKind.wrap .i64 (x12 - x13))))) ∧
 ((Qv (Value.agg [(vI x11), (vI x12), (vI x13)].toArray)) ∧
 ((Qv (vI n2)) ∧
 ((Qv (Pt 1003 1)) ∧
 ((Qv (vI n1)) ∧
 ((Qv (Pt 1003 0)) ∧
 True)))))) ∧
 (((Qv (Value.agg [(vI (IntKind.wrap .i64 (n1 * IntKind.wrap .i64 (x12 - x13)))), (vI (IntKind.wrap .i64 (n2 * IntKind.wrap .i64 (x12 - x13))))].toArray)) ∧
 ((Qv (vI (IntKind.wrap .i64 (n2 * IntKind.wrap .i64 (x12 - x13))))) ∧
 ((Qv (vI (IntKind.wrap .i64 (n1 * IntKind.wrap .i64 (x12 - x13))))) ∧
 ((Qv (vI n2)) ∧
 ((Qv (Pt 1003 1)) ∧
 ((Qv (vI n1)) ∧
 ((Qv (Pt 1003 0)) ∧
 True))))))) ∧
 (True ∧
 (k [(D.agg [(D.val (vI (IntKind.wrap .i64 (n1 * IntKind.wrap .i64 (x12 - x13))))), (D.val (vI (IntKind.wrap .i64 (n2 * IntKind.wrap .i64 (x12 - x13)))))])]))))))))
 False) := by kernel_rfl
def gbi (C : Ct) (L : AtLoop) (x0 : Int) (x1 : Int) (x2 : Int) (x3 : Int) (x4 : Int) (x5 : Int) (n6 : Nat) (c6 : Nat) (l6 : List Value) (x7 : Int) (x8 : Int) (x9 : Int) (x10 : Int) (x11 : Int) (x12 : Int) (x13 : Int) (k : List D → Prop) : Prop := wpFn Tryz.prog (hP C) L 0 88 #[.agg #[.int .i64 x0, .int .i64 x1, .int .i64 x2, .int .i64 x3, .int .i64 x4, .int .i64 x5, .slice (some ⟨500, 0, none⟩) n6 c6, .int .i64 x7, .int .i64 x8, .int .i64 x9, .int .i64 x10], .agg #[.int .i64 x11, .int .i64 x12, .int .i64 x13]] (heapOf [(500, .sym l6 false 5)]) (dataK k)
theorem gbi_text (C : Ct) (L : AtLoop) (x0 : Int) (x1 : Int) (x2 : Int) (x3 : Int) (x4 : Int) (x5 : Int) (n6 : Nat) (c6 : Nat) (l6 : List Go.Value) (x7 : Int) (x8 : Int) (x9 : Int) (x10 : Int) (x11 : Int) (x12 : Int) (x13 : Int) (k : List D → Prop) : gbi C L x0 x1 x2 x3 x4 x5 n6 c6 l6 x7 x8 x9 x10 x11 x12 x13 k =
 (bcase (x12 == x13)
 (k [(D.agg [(D.val (vI 0)), (D.val (vI 0))])])
 (((Qv (vI x10)) ∧
 ((Qv (Pt 1000 10)) ∧
 ((Qv (Pt 1000 9)) ∧
 ((Qv (Pt 1000 0)) ∧
 ((Qv (Value.func (Go.Fn.func 101) [].toArray [(Pt 1000 0), (Pt 1001 0)].toArray)) ∧
 ((Qv (vI x9)) ∧
 ((Qv (Pt 1000 9)) ∧
 ((Qv (Pt 1000 9)) ∧
 ((Qv (Pt 1000 0)) ∧
 ((Qv (Value.func (Go.Fn.func 101) [].toArray [(Pt 1000 0), (Pt 1001 0)].toArray)) ∧
 True)))))))))) ∧
 (bcase (decide (0 ≤ x11))
 (bcase (decide (x11 < (↑n6 : Int)))
 (∃ n1 : Int,
 ((At (l6) (0 + Int.toNat x11 * 5) 1 [(vI n1)]) ∧
 (((Qv (Value.agg [(vI x11), (vI x12), (vI x13)].toArray)) ∧
 ((Qv (vI (IntKind.wrap .i64 (IntKind.wrap .i64 (1 * x9) * n1)))) ∧
 ((∃ n2 : Int,
 ((At (l6) (0 + Int.toNat x11 * 5) 1 [(vI n2)]) ∧
 ((vI n2) = (vI n1)))) ∧
 ((Qv (Pt 500 (0 + Int.toNat x11 * 5))) ∧
 ((bcase (decide (0 ≤ x11))
 (bcase (decide (x11 < (↑n6 : Int)))
 (Qv (Pt 500 (0 + Int.toNat x11 * 5)))
 False)
 False) ∧
 ((Qv (vI x11)) ∧
 ((Qv (Pt 1001 0)) ∧
 ((Qv (Sl 500 (n6) (c6))) ∧
 ((Qv (Pt 1000 6)) ∧
 ((Qv (Pt 1000 0)) ∧
 ((Qv (vI (IntKind.wrap .i64 (1 * x9)))) ∧
 ((Qv (vI x9)) ∧
 True)))))))))))) ∧
 (((Qv (vI (IntKind.wrap .i64 (IntKind.wrap .i64 (IntKind.wrap .i64 (1 * x9) * n1) - IntKind.wrap .i64 (100 * IntKind.wrap .i64 (x12 - x13)))))) ∧
 ((Qv (vI (IntKind.wrap .i64 (100 * IntKind.wrap .i64 (x12 - x13))))) ∧
 ((Qv (vI (IntKind.wrap .i64 (IntKind.wrap .i64 (1 * x9) * n1)))) ∧
 ((∃ n2 : Int,
 ((At (l6) (0 + Int.toNat x11 * 5) 1 [(vI n2)]) ∧
 ((vI n2) = (vI n1)))) ∧
 ((Qv (Pt 500 (0 + Int.toNat x11 * 5))) ∧
 ((bcase (decide (0 ≤ x11))
 (bcase (decide (x11 < (↑n6 : Int)))
 (Qv (Pt 500 (0 + Int.toNat x11 * 5)))
 False)
 False) ∧
 ((Qv (vI x11)) ∧
 ((Qv (Pt 1001 0)) ∧
 ((Qv (Sl 500 (n6) (c6))) ∧
 ((Qv (Pt 1000 6)) ∧
 ((Qv (Pt 1000 0)) ∧
 ((Qv (vI (IntKind.wrap .i64 (1 * x9)))) ∧
 ((Qv (vI x9)) ∧
 True))))))))))))) ∧
 (True ∧
 (((Qv (vI x10)) ∧
 ((Qv (Pt 1000 10)) ∧
 ((Qv (Pt 1000 9)) ∧
 ((Qv (Pt 1000 0)) ∧
 ((Qv (Value.func (Go.Fn.func 101) [].toArray [(Pt 1000 0), (Pt 1001 0)].toArray)) ∧
 ((Qv (Pt 1000 9)) ∧
 ((Qv (Pt 1000 9)) ∧
 ((Qv (Pt 1000 0)) ∧
 True)))))))) ∧
 (bcase (decide (0 ≤ x11))
 (bcase (decide (x11 < (↑n6 : Int)))
 (∃ n2 : Int,
 ((At (l6) (0 + Int.toNat x11 * 5) 1 [(vI n2)]) ∧
 (((Qv (Value.agg [(vI x11), (vI x12), (vI x13)].toArray)) ∧
 ((Qv (vI (IntKind.wrap .i64 (IntKind.wrap .i64 (1 * x10) * n2)))) ∧
 ((∃ n3 : Int,
 ((At (l6) (0 + Int.toNat x11 * 5) 1 [(vI n3)]) ∧
 ((vI n3) = (vI n2)))) ∧
 ((Qv (Pt 500 (0 + Int.toNat x11 * 5))) ∧
 ((bcase (decide (0 ≤ x11))
 (bcase (decide (x11 < (↑n6 : Int)))
 (Qv (Pt 500 (0 + Int.toNat x11 * 5)))
 False)
 False) ∧
 ((Qv (vI x11)) ∧
 ((Qv (Pt 1001 0)) ∧
 ((Qv (Sl 500 (n6) (c6))) ∧
 ((Qv (Pt 1000 6)) ∧
 ((Qv (Pt 1000 0)) ∧
 ((Qv (vI (IntKind.wrap .i64 (1 * x10)))) ∧
 ((Qv (vI x10)) ∧
 True)))))))))))) ∧
 (((Qv (vI (IntKind.wrap .i64 (IntKind.wrap .i64 (IntKind.wrap .i64 (1 * x10) * n2) - IntKind.wrap .i64 (100 * IntKind.wrap .i64 (x12 - x13)))))) ∧
 ((Qv (vI (IntKind.wrap .i64 (100 * IntKind.wrap .i64 (x12 - x13))))) ∧
 ((Qv (vI (IntKind.wrap .i64 (IntKind.wrap .i64 (1 * x10) * n2)))) ∧
 ((∃ n3 : Int,
 ((At (l6) (0 + Int.toNat x11 * 5) 1 [(vI n3)]) ∧
 ((vI n3) = (vI n2)))) ∧
 ((Qv (Pt 500 (0 + Int.toNat x11 * 5))) ∧
 ((bcase (decide (0 ≤ x11))
 (bcase (decide (x11 < (↑n6 : Int)))
 (Qv (Pt 500 (0 + Int.toNat x11 * 5)))
 False)
 False) ∧
 ((Qv (vI x11)) ∧
 ((Qv (Pt 1001 0)) ∧
 ((Qv (Sl 500 (n6) (c6))) ∧
 ((Qv (Pt 1000 6)) ∧
 ((Qv (Pt 1000 0)) ∧
 ((Qv (vI (IntKind.wrap .i64 (1 * x10)))) ∧
 ((Qv (vI x10)) ∧
 True))))))))))))) ∧
 (True ∧
 (((Qv (Value.agg [(vI (IntKind.wrap .i64 (IntKind.wrap .i64 (IntKind.wrap .i64 (1 * x9) * n1) - IntKind.wrap .i64 (100 * IntKind.wrap .i64 (x12 - x13))))), (vI (IntKind.wrap .i64 (IntKind.wrap .i64 (IntKind.wrap .i64 (1 * x10) * n2) - IntKind.wrap .i64 (100 * IntKind.wrap .i64 (x12 - x13)))))].toArray)) ∧
 ((Qv (Pt 1000 10)) ∧
 ((Qv (Pt 1000 9)) ∧
 ((Qv (Pt 1000 0)) ∧
 ((Qv (Pt 1000 9)) ∧
 ((Qv (Pt 1000 9)) ∧
 ((Qv (Pt 1000 0)) ∧
 True))))))) ∧
 (True ∧
 (k [(D.agg [(D.val (vI (IntKind.wrap .i64 (IntKind.wrap .i64 (IntKind.wrap .i64 (1 * x9) * n1) - IntKind.wrap .i64 (100 * IntKind.wrap .i64 (x12 - x13)))))), (D.val (vI (IntKind.wrap .i64 (IntKind.wrap .i64 (IntKind.wrap .i64 (1 * x10) * n2) - IntKind.wrap .i64 (100 * IntKind.wrap .i64 (x12 - x13))))))])]))))))))
 False)
 False)))))))
 False)
 False))) := by kernel_rfl
def ghe (C : Ct) (L : AtLoop) (x0 : Int) (x1 : Int) (x2 : Int) (x3 : Int) (x4 : Int) (x5 : Int) (n6 : Nat) (c6 : Nat) (l6 : List Value) (x7 : Int) (x8 : Int) (x9 : Int) (x10 : Int) (x11 : Int) (x12 : Int) (x13 : Int) (k : List D → Prop) : Prop := wpFn Tryz.prog (hP C) L 0 55 #[.agg #[.int .i64 x0, .int .i64 x1, .int .i64 x2, .int .i64 x3, .int .i64 x4, .int .i64 x5, .slice (some ⟨500, 0, none⟩) n6 c6, .int .i64 x7, .int .i64 x8, .int .i64 x9, .int .i64 x10], .agg #[.int .i64 x11, .int .i64 x12, .int .i64 x13]] (heapOf [(500, .sym l6 false 5)]) (dataK k)
theorem ghe_text (C : Ct) (L : AtLoop) (x0 : Int) (x1 : Int) (x2 : Int) (x3 : Int) (x4 : Int) (x5 : Int) (n6 : Nat) (c6 : Nat) (l6 : List Go.Value) (x7 : Int) (x8 : Int) (x9 : Int) (x10 : Int) (x11 : Int) (x12 : Int) (x13 : Int) (k : List D → Prop) : ghe C L x0 x1 x2 x3 x4 x5 n6 c6 l6 x7 x8 x9 x10 x11 x12 x13 k =
 (bcase (decide (0 ≤ IntKind.wrap .i64 (x11 + 1)))
 (bcase (decide (IntKind.wrap .i64 (x11 + 1) ≤ (↑c6 : Int)))
 (L 0 [(Prod.mk 2 (Pt 1000 0)), (Prod.mk 3 (Pt 1001 0)), (Prod.mk 4 (Pt 1002 0)), (Prod.mk 5 (Pt 1003 0)), (Prod.mk 15 (Sl 500 (Int.toNat (IntKind.wrap .i64 (x11 + 1)) - 0) (c6 - 0))), (Prod.mk 16 (vI ((↑(Int.toNat (IntKind.wrap .i64 (x11 + 1)) - 0) : Int)))), (Prod.mk 17 (vI 0))] [(Prod.mk 1000 (AObj.cells [(vI x0), (vI x1), (vI x2), (vI x3), (vI x4), (vI x5), (Sl 500 (n6) (c6)), (vI x7), (vI x8), (vI x9), (vI x10)] 91 false 1)), (Prod.mk 1001 (AObj.cells [(vI x11), (vI x12), (vI x13)] 114 false 1)), (Prod.mk 1002 (AObj.cells [(vI 0), (vI 0)] 30 false 2)), (Prod.mk 1003 (AObj.cells [(vI 0), (vI 0)] 30 false 2)), (Prod.mk 500 (AObj.sym (l6) false 5))])
 False)
 False) := by kernel_rfl
abbrev zhe1 (n0 : Nat) (c1 : Nat) (x2 : Int) (x3 : Int) (x4 : Int) (x5 : Int) (x6 : Int) (x7 : Int) (x8 : Int) (x9 : Int) (n10 : Nat) (c11 : Nat) (x12 : Int) (x13 : Int) (x14 : Int) (x15 : Int) (x16 : Int) (x17 : Int) (x18 : Int) (x19 : Int) (x20 : Int) (x21 : Int) (x22 : Int) (l23 : List Value) : Slots × Blocks := ([(2, (Value.pointer (some ⟨1000, 0, none⟩))), (3, (Value.pointer (some ⟨1001, 0, none⟩))), (4, (Value.pointer (some ⟨1002, 0, none⟩))), (5, (Value.pointer (some ⟨1003, 0, none⟩))), (15, (Value.slice (some ⟨500, 0, none⟩) n0 c1)), (16, (Value.int .i64 x2)), (17, (Value.int .i64 x3))], [(1000, (AObj.cells [(Value.int .i64 x4), (Value.int .i64 x5), (Value.int .i64 x6), (Value.int .i64 x7), (Value.int .i64 x8), (Value.int .i64 x9), (Value.slice (some ⟨500, 0, none⟩) n10 c11), (Value.int .i64 x12), (Value.int .i64 x13), (Value.int .i64 x14), (Value.int .i64 x15)] 91 false 1)), (1001, (AObj.cells [(Value.int .i64 x16), (Value.int .i64 x17), (Value.int .i64 x18)] 114 false 1)), (1002, (AObj.cells [(Value.int .i64 x19), (Value.int .i64 x20)] 30 false 2)), (1003, (AObj.cells [(Value.int .i64 x21), (Value.int .i64 x22)] 30 false 2)), (500, (AObj.sym l23 false 5))])
def rhe1 (C : Ct) (L : AtLoop) (n0 : Nat) (c1 : Nat) (x2 : Int) (x3 : Int) (x4 : Int) (x5 : Int) (x6 : Int) (x7 : Int) (x8 : Int) (x9 : Int) (n10 : Nat) (c11 : Nat) (x12 : Int) (x13 : Int) (x14 : Int) (x15 : Int) (x16 : Int) (x17 : Int) (x18 : Int) (x19 : Int) (x20 : Int) (x21 : Int) (x22 : Int) (l23 : List Value) (B : Bx) (X : Xx) (k : List D → Prop) : Prop := wpRound Tryz.prog (hP C) L 55 0 [(2, (Value.pointer (some ⟨1000, 0, none⟩))), (3, (Value.pointer (some ⟨1001, 0, none⟩))), (4, (Value.pointer (some ⟨1002, 0, none⟩))), (5, (Value.pointer (some ⟨1003, 0, none⟩))), (15, (Value.slice (some ⟨500, 0, none⟩) n0 c1)), (16, (Value.int .i64 x2)), (17, (Value.int .i64 x3))] [(1000, (AObj.cells [(Value.int .i64 x4), (Value.int .i64 x5), (Value.int .i64 x6), (Value.int .i64 x7), (Value.int .i64 x8), (Value.int .i64 x9), (Value.slice (some ⟨500, 0, none⟩) n10 c11), (Value.int .i64 x12), (Value.int .i64 x13), (Value.int .i64 x14), (Value.int .i64 x15)] 91 false 1)), (1001, (AObj.cells [(Value.int .i64 x16), (Value.int .i64 x17), (Value.int .i64 x18)] 114 false 1)), (1002, (AObj.cells [(Value.int .i64 x19), (Value.int .i64 x20)] 30 false 2)), (1003, (AObj.cells [(Value.int .i64 x21), (Value.int .i64 x22)] 30 false 2)), (500, (AObj.sym l23 false 5))] B X (dataK k)
theorem rhe1_text (C : Ct) (L : AtLoop) (n0 : Nat) (c1 : Nat) (x2 : Int) (x3 : Int) (x4 : Int) (x5 : Int) (x6 : Int) (x7 : Int) (x8 : Int) (x9 : Int) (n10 : Nat) (c11 : Nat) (x12 : Int) (x13 : Int) (x14 : Int) (x15 : Int) (x16 : Int) (x17 : Int) (x18 : Int) (x19 : Int) (x20 : Int) (x21 : Int) (x22 : Int) (l23 : List Go.Value) (B : Bx) (X : Xx) (k : List D → Prop) : rhe1 C L n0 c1 x2 x3 x4 x5 x6 x7 x8 x9 n10 c11 x12 x13 x14 x15 x16 x17 x18 x19 x20 x21 x22 l23 B X k =
 (bcase (decide (x3 < x2))
 (bcase (decide (0 ≤ x3))
 (bcase (decide (x3 < (↑n0 : Int)))
 (∃ n1 : Int,
 (∃ n2 : Int,
 (∃ n3 : Int,
 (∃ n4 : Int,
 (∃ n5 : Int,
 ((At (l23) (0 + Int.toNat x3 * 5) 5 [(vI n1), (vI n2), (vI n3), (vI n4), (vI n5)]) ∧
 (B [(Prod.mk 2 (Pt 1000 0)), (Prod.mk 3 (Pt 1001 0)), (Prod.mk 4 (Pt 1002 0)), (Prod.mk 5 (Pt 1003 0)), (Prod.mk 15 (Sl 500 (n0) (c1))), (Prod.mk 16 (vI x2)), (Prod.mk 17 (vI (IntKind.wrap .i64 (x3 + 1))))] [(Prod.mk 1000 (AObj.cells [(vI x4), (vI x5), (vI x6), (vI x7), (vI x8), (vI x9), (Sl 500 (n10) (c11)), (vI x12), (vI x13), (vI x14), (vI x15)] 91 false 1)), (Prod.mk 1001 (AObj.cells [(vI x16), (vI x17), (vI x18)] 114 false 1)), (Prod.mk 1002 (AObj.cells [(vI x19), (vI x20)] 30 false 2)), (Prod.mk 1003 (AObj.cells [(vI (IntKind.wrap .i64 (x21 + n4))), (vI (IntKind.wrap .i64 (x22 + n5)))] 30 false 2)), (Prod.mk 500 (AObj.sym (l23) false 5))])))))))
 False)
 False)
 (X 0 [(Prod.mk 2 (Pt 1000 0)), (Prod.mk 3 (Pt 1001 0)), (Prod.mk 4 (Pt 1002 0)), (Prod.mk 5 (Pt 1003 0))] [(Prod.mk 1000 (AObj.cells [(vI x4), (vI x5), (vI x6), (vI x7), (vI x8), (vI x9), (Sl 500 (n10) (c11)), (vI x12), (vI x13), (vI x14), (vI x15)] 91 false 1)), (Prod.mk 1001 (AObj.cells [(vI x16), (vI x17), (vI x18)] 114 false 1)), (Prod.mk 1002 (AObj.cells [(vI x19), (vI x20)] 30 false 2)), (Prod.mk 1003 (AObj.cells [(vI x21), (vI x22)] 30 false 2)), (Prod.mk 500 (AObj.sym (l23) false 5))])) := by kernel_rfl
def nhe2 (C : Ct) (L : AtLoop) (x0 : Int) (x1 : Int) (x2 : Int) (x3 : Int) (x4 : Int) (x5 : Int) (n6 : Nat) (c7 : Nat) (x8 : Int) (x9 : Int) (x10 : Int) (x11 : Int) (x12 : Int) (x13 : Int) (x14 : Int) (x15 : Int) (x16 : Int) (x17 : Int) (x18 : Int) (l19 : List Value) (k : List D → Prop) : Prop := wpNext Tryz.prog (hP C) L 55 0 .normal [(2, (Value.pointer (some ⟨1000, 0, none⟩))), (3, (Value.pointer (some ⟨1001, 0, none⟩))), (4, (Value.pointer (some ⟨1002, 0, none⟩))), (5, (Value.pointer (some ⟨1003, 0, none⟩)))] [(1000, (AObj.cells [(Value.int .i64 x0), (Value.int .i64 x1), (Value.int .i64 x2), (Value.int .i64 x3), (Value.int .i64 x4), (Value.int .i64 x5), (Value.slice (some ⟨500, 0, none⟩) n6 c7), (Value.int .i64 x8), (Value.int .i64 x9), (Value.int .i64 x10), (Value.int .i64 x11)] 91 false 1)), (1001, (AObj.cells [(Value.int .i64 x12), (Value.int .i64 x13), (Value.int .i64 x14)] 114 false 1)), (1002, (AObj.cells [(Value.int .i64 x15), (Value.int .i64 x16)] 30 false 2)), (1003, (AObj.cells [(Value.int .i64 x17), (Value.int .i64 x18)] 30 false 2)), (500, (AObj.sym l19 false 5))] (dataK k)
theorem nhe2_text (C : Ct) (L : AtLoop) (x0 : Int) (x1 : Int) (x2 : Int) (x3 : Int) (x4 : Int) (x5 : Int) (n6 : Nat) (c7 : Nat) (x8 : Int) (x9 : Int) (x10 : Int) (x11 : Int) (x12 : Int) (x13 : Int) (x14 : Int) (x15 : Int) (x16 : Int) (x17 : Int) (x18 : Int) (l19 : List Go.Value) (k : List D → Prop) : nhe2 C L x0 x1 x2 x3 x4 x5 n6 c7 x8 x9 x10 x11 x12 x13 x14 x15 x16 x17 x18 l19 k =
 (k [(D.agg [(D.val (vI (IntKind.wrap .i64 (IntKind.wrap .i64 (100 * IntKind.wrap .i64 (x3 - x18)) + IntKind.wrap .i64 (IntKind.wrap .i64 (1 * IntKind.wrap .i64 (x1 - x14)) * x8))))), (D.val (vI (IntKind.wrap .i64 (IntKind.wrap .i64 (100 * IntKind.wrap .i64 (x4 - x17)) + IntKind.wrap .i64 (IntKind.wrap .i64 (1 * IntKind.wrap .i64 (x1 - x14)) * x9)))))])]) := by kernel_rfl
def gmT (C : Ct) (L : AtLoop) (x0 : Int) (x1 : Int) (x2 : Int) (k : List D → Prop) : Prop := wpFn Tryz.prog (hP C) L 0 86 #[.int .i64 x0, .agg #[.int .i64 x1, .int .i64 x2]] (heapOf []) (dataK k)
theorem gmT_text (C : Ct) (L : AtLoop) (x0 : Int) (x1 : Int) (x2 : Int) (k : List D → Prop) : gmT C L x0 x1 x2 k =
 (k [(D.agg [(D.val (vI (IntKind.wrap .i64 (100 * IntKind.wrap .i64 (x0 - x2))))), (D.val (vI (IntKind.wrap .i64 (100 * IntKind.wrap .i64 (x0 - x1)))))])]) := by kernel_rfl
def gma (C : Ct) (L : AtLoop) (x0 : Int) (x1 : Int) (x2 : Int) (x3 : Int) (x4 : Int) (x5 : Int) (n6 : Nat) (c6 : Nat) (l6 : List Value) (x7 : Int) (x8 : Int) (x9 : Int) (x10 : Int) (x11 : Int) (x12 : Int) (x13 : Int) (k : List D → Prop) : Prop := wpFn Tryz.prog (hP C) L 0 68 #[.agg #[.int .i64 x0, .int .i64 x1, .int .i64 x2, .int .i64 x3, .int .i64 x4, .int .i64 x5, .slice (some ⟨500, 0, none⟩) n6 c6, .int .i64 x7, .int .i64 x8, .int .i64 x9, .int .i64 x10], .agg #[.int .i64 x11, .int .i64 x12, .int .i64 x13]] (heapOf [(500, .sym l6 false 5)]) (dataK k)
theorem gma_text (C : Ct) (L : AtLoop) (x0 : Int) (x1 : Int) (x2 : Int) (x3 : Int) (x4 : Int) (x5 : Int) (n6 : Nat) (c6 : Nat) (l6 : List Go.Value) (x7 : Int) (x8 : Int) (x9 : Int) (x10 : Int) (x11 : Int) (x12 : Int) (x13 : Int) (k : List D → Prop) : gma C L x0 x1 x2 x3 x4 x5 n6 c6 l6 x7 x8 x9 x10 x11 x12 x13 k =
 (bcase (decide (0 ≤ x11))
 (bcase (decide (x11 < (↑n6 : Int)))
 (∃ n1 : Int,
 (∃ n2 : Int,
 (∃ n3 : Int,
 (∃ n4 : Int,
 (∃ n5 : Int,
 ((At (l6) (0 + Int.toNat x11 * 5) 5 [(vI n1), (vI n2), (vI n3), (vI n4), (vI n5)]) ∧
 ((((Qv (Pt 1004 0)) ∧
 (Qv (some (AObj.cells [(vI 0), (vI 0)] 30 false 2)))) ∧
 (((Qv (Pt 1003 0)) ∧
 (Qv (some (AObj.cells [(vI 0), (vI 0), (vI 0), (vI 0), (vI 0)] 79 false 5)))) ∧
 ((Qv (Value.agg [(vI x11), (vI x12), (vI x13)].toArray)) ∧
 ((Qv (Value.agg [(vI x0), (vI x1), (vI x2), (vI x3), (vI x4), (vI x5), (Sl 500 (n6) (c6)), (vI x7), (vI x8), (vI x9), (vI x10)].toArray)) ∧
 ((∃ n7 : Int,
 (∃ n8 : Int,
 (∃ n9 : Int,
 (∃ n10 : Int,
 (∃ n11 : Int,
 ((At (l6) (0 + Int.toNat x11 * 5) 5 [(vI n7), (vI n8), (vI n9), (vI n10), (vI n11)]) ∧
 ((Value.agg [(vI n7), (vI n8), (vI n9), (vI n10), (vI n11)].toArray) = (Value.agg [(vI n1), (vI n2), (vI n3), (vI n4), (vI n5)].toArray)))))))) ∧
 ((bcase (decide (0 ≤ x11))
 (bcase (decide (x11 < (↑n6 : Int)))
 (Qv (Pt 500 (0 + Int.toNat x11 * 5)))
 False)
 False) ∧
 ((Qv (vI x11)) ∧
 ((Qv (Pt 1001 0)) ∧
 ((Qv (Sl 500 (n6) (c6))) ∧
 ((Qv (Pt 1000 6)) ∧
 ((Qv (Pt 1000 0)) ∧
 True))))))))))) ∧
 (bcase (decide (0 + n6 * 5 ≤ List.length l6))
 (∃ n7 : Int,
 (∃ n8 : Int,
 ((Says C 55 [(D.agg [(D.val (vI x0)), (D.val (vI x1)), (D.val (vI x2)), (D.val (vI x3)), (D.val (vI x4)), (D.val (vI x5)), (D.sl (n6) 5 (List.take (n6 * 5) (List.drop 0 l6))), (D.val (vI x7)), (D.val (vI x8)), (D.val (vI x9)), (D.val (vI x10))]), (D.agg [(D.val (vI x11)), (D.val (vI x12)), (D.val (vI x13))])] [(D.agg [(D.val (vI n7)), (D.val (vI n8))])]) ∧
 ((((Qv (Pt 1004 0)) ∧
 (Qv (some (AObj.cells [(vI 0), (vI 0)] 30 false 2)))) ∧
 (((Qv (Pt 1003 0)) ∧
 (Qv (some (AObj.cells [(vI 0), (vI 0), (vI 0), (vI 0), (vI 0)] 79 false 5)))) ∧
 ((∃ n9 : Int,
 (∃ n10 : Int,
 (∃ n11 : Int,
 (∃ n12 : Int,
 (∃ n13 : Int,
 ((At (l6) (0 + Int.toNat x11 * 5) 5 [(vI n9), (vI n10), (vI n11), (vI n12), (vI n13)]) ∧
 ((Value.agg [(vI n9), (vI n10), (vI n11), (vI n12), (vI n13)].toArray) = (Value.agg [(vI n1), (vI n2), (vI n3), (vI n4), (vI n5)].toArray)))))))) ∧
 ((bcase (decide (0 ≤ x11))
 (bcase (decide (x11 < (↑n6 : Int)))
 (Qv (Pt 500 (0 + Int.toNat x11 * 5)))
 False)
 False) ∧
 ((Qv (vI x11)) ∧
 ((Qv (Pt 1001 0)) ∧
 ((Qv (Sl 500 (n6) (c6))) ∧
 ((Qv (Pt 1000 6)) ∧
 ((Qv (Pt 1000 0)) ∧
 True))))))))) ∧
 (True ∧
 (True ∧
 (((Qv (Value.agg [(vI (IntKind.wrap .i64 (n7 - IntKind.wrap .i64 (100 * x5)))), (vI (IntKind.wrap .i64 (n8 - IntKind.wrap .i64 (100 * x5))))].toArray)) ∧
 ((Qv (vI (IntKind.wrap .i64 (n8 - IntKind.wrap .i64 (100 * x5))))) ∧
 ((Qv (vI (IntKind.wrap .i64 (100 * x5)))) ∧
 ((Qv (vI x5)) ∧
 ((Qv (Pt 1000 5)) ∧
 ((Qv (Pt 1000 0)) ∧
 ((Qv (vI n8)) ∧
 ((Qv (Pt 1004 1)) ∧
 ((Qv (vI (IntKind.wrap .i64 (n7 - IntKind.wrap .i64 (100 * x5))))) ∧
 ((Qv (vI (IntKind.wrap .i64 (100 * x5)))) ∧
 ((Qv (vI x5)) ∧
 ((Qv (Pt 1000 5)) ∧
 ((Qv (Pt 1000 0)) ∧
 ((Qv (vI n7)) ∧
 ((Qv (Pt 1004 0)) ∧
 ((Qv (Value.agg [(vI x11), (vI x12), (vI x13)].toArray)) ∧
 ((Qv (Value.agg [(vI x0), (vI x1), (vI x2), (vI x3), (vI x4), (vI x5), (Sl 500 (n6) (c6)), (vI x7), (vI x8), (vI x9), (vI x10)].toArray)) ∧
 ((Qv (Value.agg [(vI x11), (vI x12), (vI x13)].toArray)) ∧
 ((Qv (Value.agg [(vI x0), (vI x1), (vI x2), (vI x3), (vI x4), (vI x5), (Sl 500 (n6) (c6)), (vI x7), (vI x8), (vI x9), (vI x10)].toArray)) ∧
 ((Qv (vI n3)) ∧
 ((Qv (Pt 1003 2)) ∧
 ((Qv (Value.agg [(vI x11), (vI x12), (vI x13)].toArray)) ∧
 ((Qv (Value.agg [(vI x0), (vI x1), (vI x2), (vI x3), (vI x4), (vI x5), (Sl 500 (n6) (c6)), (vI x7), (vI x8), (vI x9), (vI x10)].toArray)) ∧
 ((Qv (vI n2)) ∧
 ((Qv (Pt 1003 1)) ∧
 True))))))))))))))))))))))))) ∧
 (bcase (decide (0 + n6 * 5 ≤ List.length l6))
 (∃ n9 : Int,
 (∃ n10 : Int,
 ((Says C 87 [(D.agg [(D.val (vI x0)), (D.val (vI x1)), (D.val (vI x2)), (D.val (vI x3)), (D.val (vI x4)), (D.val (vI x5)), (D.sl (n6) 5 (List.take (n6 * 5) (List.drop 0 l6))), (D.val (vI x7)), (D.val (vI x8)), (D.val (vI x9)), (D.val (vI x10))]), (D.agg [(D.val (vI x11)), (D.val (vI x12)), (D.val (vI x13))])] [(D.agg [(D.val (vI n9)), (D.val (vI n10))])]) ∧
 (((Qv (Value.agg [(vI (IntKind.wrap .i64 (n7 - IntKind.wrap .i64 (100 * x5)))), (vI (IntKind.wrap .i64 (n8 - IntKind.wrap .i64 (100 * x5))))].toArray)) ∧
 ((Qv (vI (IntKind.wrap .i64 (n8 - IntKind.wrap .i64 (100 * x5))))) ∧
 ((Qv (vI (IntKind.wrap .i64 (100 * x5)))) ∧
 ((Qv (vI x5)) ∧
 ((Qv (Pt 1000 5)) ∧
 ((Qv (Pt 1000 0)) ∧
 ((Qv (vI n8)) ∧
 ((Qv (Pt 1004 1)) ∧
 ((Qv (vI (IntKind.wrap .i64 (n7 - IntKind.wrap .i64 (100 * x5))))) ∧
 ((Qv (vI (IntKind.wrap .i64 (100 * x5)))) ∧
 ((Qv (vI x5)) ∧
 ((Qv (Pt 1000 5)) ∧
 ((Qv (Pt 1000 0)) ∧
 ((Qv (vI n7)) ∧
 ((Qv (Pt 1004 0)) ∧
 ((Qv (Value.agg [(vI x11), (vI x12), (vI x13)].toArray)) ∧
 ((Qv (Value.agg [(vI x0), (vI x1), (vI x2), (vI x3), (vI x4), (vI x5), (Sl 500 (n6) (c6)), (vI x7), (vI x8), (vI x9), (vI x10)].toArray)) ∧
 ((Qv (Value.agg [(vI x11), (vI x12), (vI x13)].toArray)) ∧
 ((Qv (Value.agg [(vI x0), (vI x1), (vI x2), (vI x3), (vI x4), (vI x5), (Sl 500 (n6) (c6)), (vI x7), (vI x8), (vI x9), (vI x10)].toArray)) ∧
 ((Qv (vI n3)) ∧
 ((Qv (Pt 1003 2)) ∧
 ((Qv (vI n2)) ∧
 ((Qv (Pt 1003 1)) ∧
 True))))))))))))))))))))))) ∧
 (∃ n11 : Int,
 (∃ n12 : Int,
 ((Says C 86 [(D.val (vI n2)), (D.agg [(D.val (vI n9)), (D.val (vI n10))])] [(D.agg [(D.val (vI n11)), (D.val (vI n12))])]) ∧
 (((Qv (Value.agg [(vI (IntKind.wrap .i64 (n7 - IntKind.wrap .i64 (100 * x5)))), (vI (IntKind.wrap .i64 (n8 - IntKind.wrap .i64 (100 * x5))))].toArray)) ∧
 ((Qv (vI (IntKind.wrap .i64 (n8 - IntKind.wrap .i64 (100 * x5))))) ∧
 ((Qv (vI (IntKind.wrap .i64 (100 * x5)))) ∧
 ((Qv (vI x5)) ∧
 ((Qv (Pt 1000 5)) ∧
 ((Qv (Pt 1000 0)) ∧
 ((Qv (vI n8)) ∧
 ((Qv (Pt 1004 1)) ∧
 ((Qv (vI (IntKind.wrap .i64 (n7 - IntKind.wrap .i64 (100 * x5))))) ∧
 ((Qv (vI (IntKind.wrap .i64 (100 * x5)))) ∧
 ((Qv (vI x5)) ∧
 ((Qv (Pt 1000 5)) ∧
 ((Qv (Pt 1000 0)) ∧
 ((Qv (vI n7)) ∧
 ((Qv (Pt 1004 0)) ∧
 ((Qv (Value.agg [(vI x11), (vI x12), (vI x13)].toArray)) ∧
 ((Qv (Value.agg [(vI x0), (vI x1), (vI x2), (vI x3), (vI x4), (vI x5), (Sl 500 (n6) (c6)), (vI x7), (vI x8), (vI x9), (vI x10)].toArray)) ∧
 ((Qv (Value.agg [(vI x11), (vI x12), (vI x13)].toArray)) ∧
 ((Qv (Value.agg [(vI x0), (vI x1), (vI x2), (vI x3), (vI x4), (vI x5), (Sl 500 (n6) (c6)), (vI x7), (vI x8), (vI x9), (vI x10)].toArray)) ∧
 ((Qv (vI n3)) ∧
 ((Qv (Pt 1003 2)) ∧
 ((Qv (Pt 1003 1)) ∧
 True)))))))))))))))))))))) ∧
 (bcase (decide (0 + n6 * 5 ≤ List.length l6))
 (∃ n13 : Int,
 (∃ n14 : Int,
 ((Says C 70 [(D.agg [(D.val (vI x0)), (D.val (vI x1)), (D.val (vI x2)), (D.val (vI x3)), (D.val (vI x4)), (D.val (vI x5)), (D.sl (n6) 5 (List.take (n6 * 5) (List.drop 0 l6))), (D.val (vI x7)), (D.val (vI x8)), (D.val (vI x9)), (D.val (vI x10))]), (D.agg [(D.val (vI x11)), (D.val (vI x12)), (D.val (vI x13))])] [(D.agg [(D.val (vI n13)), (D.val (vI n14))])]) ∧
 (((Qv (Value.agg [(vI (IntKind.wrap .i64 (n7 - IntKind.wrap .i64 (100 * x5)))), (vI (IntKind.wrap .i64 (n8 - IntKind.wrap .i64 (100 * x5))))].toArray)) ∧
 ((Qv (vI (IntKind.wrap .i64 (n8 - IntKind.wrap .i64 (100 * x5))))) ∧
 ((Qv (vI (IntKind.wrap .i64 (100 * x5)))) ∧
 ((Qv (vI x5)) ∧
 ((Qv (Pt 1000 5)) ∧
 ((Qv (Pt 1000 0)) ∧
 ((Qv (vI n8)) ∧
 ((Qv (Pt 1004 1)) ∧
 ((Qv (vI (IntKind.wrap .i64 (n7 - IntKind.wrap .i64 (100 * x5))))) ∧
 ((Qv (vI (IntKind.wrap .i64 (100 * x5)))) ∧
 ((Qv (vI x5)) ∧
 ((Qv (Pt 1000 5)) ∧
 ((Qv (Pt 1000 0)) ∧
 ((Qv (vI n7)) ∧
 ((Qv (Pt 1004 0)) ∧
 ((Qv (Value.agg [(vI x11), (vI x12), (vI x13)].toArray)) ∧
 ((Qv (Value.agg [(vI x0), (vI x1), (vI x2), (vI x3), (vI x4), (vI x5), (Sl 500 (n6) (c6)), (vI x7), (vI x8), (vI x9), (vI x10)].toArray)) ∧
 ((Qv (vI n3)) ∧
 ((Qv (Pt 1003 2)) ∧
 ((Qv (Pt 1003 1)) ∧
 True)))))))))))))))))))) ∧
 (∃ n15 : Int,
 (∃ n16 : Int,
 ((Says C 86 [(D.val (vI n3)), (D.agg [(D.val (vI n13)), (D.val (vI n14))])] [(D.agg [(D.val (vI n15)), (D.val (vI n16))])]) ∧
 (((Qv (Value.agg [(vI (IntKind.wrap .i64 (n7 - IntKind.wrap .i64 (100 * x5)))), (vI (IntKind.wrap .i64 (n8 - IntKind.wrap .i64 (100 * x5))))].toArray)) ∧
 ((Qv (vI (IntKind.wrap .i64 (n8 - IntKind.wrap .i64 (100 * x5))))) ∧
 ((Qv (vI (IntKind.wrap .i64 (100 * x5)))) ∧
 ((Qv (vI x5)) ∧
 ((Qv (Pt 1000 5)) ∧
 ((Qv (Pt 1000 0)) ∧
 ((Qv (vI n8)) ∧
 ((Qv (Pt 1004 1)) ∧
 ((Qv (vI (IntKind.wrap .i64 (n7 - IntKind.wrap .i64 (100 * x5))))) ∧
 ((Qv (vI (IntKind.wrap .i64 (100 * x5)))) ∧
 ((Qv (vI x5)) ∧
 ((Qv (Pt 1000 5)) ∧
 ((Qv (Pt 1000 0)) ∧
 ((Qv (vI n7)) ∧
 ((Qv (Pt 1004 0)) ∧
 ((Qv (Value.agg [(vI x11), (vI x12), (vI x13)].toArray)) ∧
 ((Qv (Value.agg [(vI x0), (vI x1), (vI x2), (vI x3), (vI x4), (vI x5), (Sl 500 (n6) (c6)), (vI x7), (vI x8), (vI x9), (vI x10)].toArray)) ∧
 ((Qv (Pt 1003 2)) ∧
 ((Qv (Pt 1003 1)) ∧
 True))))))))))))))))))) ∧
 (bcase (decide (0 + n6 * 5 ≤ List.length l6))
 (∃ n17 : Int,
 (∃ n18 : Int,
 ((Says C 88 [(D.agg [(D.val (vI x0)), (D.val (vI x1)), (D.val (vI x2)), (D.val (vI x3)), (D.val (vI x4)), (D.val (vI x5)), (D.sl (n6) 5 (List.take (n6 * 5) (List.drop 0 l6))), (D.val (vI x7)), (D.val (vI x8)), (D.val (vI x9)), (D.val (vI x10))]), (D.agg [(D.val (vI x11)), (D.val (vI x12)), (D.val (vI x13))])] [(D.agg [(D.val (vI n17)), (D.val (vI n18))])]) ∧
 (((Qv (Value.agg [(vI n11), (vI n12), (vI n15), (vI n16), (vI n17), (vI n18), (vI (IntKind.wrap .i64 (n7 - IntKind.wrap .i64 (100 * x5)))), (vI (IntKind.wrap .i64 (n8 - IntKind.wrap .i64 (100 * x5))))].toArray)) ∧
 ((Qv (Value.agg [(vI (IntKind.wrap .i64 (n7 - IntKind.wrap .i64 (100 * x5)))), (vI (IntKind.wrap .i64 (n8 - IntKind.wrap .i64 (100 * x5))))].toArray)) ∧
 ((Qv (vI (IntKind.wrap .i64 (n8 - IntKind.wrap .i64 (100 * x5))))) ∧
 ((Qv (vI (IntKind.wrap .i64 (100 * x5)))) ∧
 ((Qv (vI x5)) ∧
 ((Qv (Pt 1000 5)) ∧
 ((Qv (Pt 1000 0)) ∧
 ((Qv (vI n8)) ∧
 ((Qv (Pt 1004 1)) ∧
 ((Qv (vI (IntKind.wrap .i64 (n7 - IntKind.wrap .i64 (100 * x5))))) ∧
 ((Qv (vI (IntKind.wrap .i64 (100 * x5)))) ∧
 ((Qv (vI x5)) ∧
 ((Qv (Pt 1000 5)) ∧
 ((Qv (Pt 1000 0)) ∧
 ((Qv (vI n7)) ∧
 ((Qv (Pt 1004 0)) ∧
 ((Qv (Pt 1003 2)) ∧
 ((Qv (Pt 1003 1)) ∧
 True)))))))))))))))))) ∧
 (True ∧
 (k [(D.agg [(D.val (vI n11)), (D.val (vI n12)), (D.val (vI n15)), (D.val (vI n16)), (D.val (vI n17)), (D.val (vI n18)), (D.val (vI (IntKind.wrap .i64 (n7 - IntKind.wrap .i64 (100 * x5))))), (D.val (vI (IntKind.wrap .i64 (n8 - IntKind.wrap .i64 (100 * x5)))))])]))))))
 False)))))))))
 False)))))))))
 False))))))))
 False))))))))
 False)
 False) := by kernel_rfl
def gRK (C : Ct) (L : AtLoop) (x0 : Int) (x1 : Int) (x2 : Int) (x3 : Int) (x4 : Int) (x5 : Int) (n6 : Nat) (c6 : Nat) (l6 : List Value) (x7 : Int) (x8 : Int) (x9 : Int) (x10 : Int) (k : List D → Prop) : Prop := wpFn Tryz.prog (hP C) L 0 65 #[.agg #[.int .i64 x0, .int .i64 x1, .int .i64 x2, .int .i64 x3, .int .i64 x4, .int .i64 x5, .slice (some ⟨500, 0, none⟩) n6 c6, .int .i64 x7, .int .i64 x8, .int .i64 x9, .int .i64 x10]] (heapOf [(500, .sym l6 false 5)]) (dataK k)
theorem gRK_text (C : Ct) (L : AtLoop) (x0 : Int) (x1 : Int) (x2 : Int) (x3 : Int) (x4 : Int) (x5 : Int) (n6 : Nat) (c6 : Nat) (l6 : List Go.Value) (x7 : Int) (x8 : Int) (x9 : Int) (x10 : Int) (k : List D → Prop) : gRK C L x0 x1 x2 x3 x4 x5 n6 c6 l6 x7 x8 x9 x10 k =
 (((Says C 64 [(D.val (vI x0)), (D.val (vI 1)), (D.val (vI 2500))] [(D.val (Value.bool true))]) ∧
 (((Says C 64 [(D.val (vI x1)), (D.val (vI 1)), (D.val (vI 1000))] [(D.val (Value.bool true))]) ∧
 (((Says C 64 [(D.val (vI x2)), (D.val (vI 1)), (D.val (vI 1000))] [(D.val (Value.bool true))]) ∧
 (((Says C 64 [(D.val (vI x3)), (D.val (vI 0)), (D.val (vI 20000))] [(D.val (Value.bool true))]) ∧
 (((Says C 64 [(D.val (vI x4)), (D.val (vI 0)), (D.val (vI 20000))] [(D.val (Value.bool true))]) ∧
 (((Says C 64 [(D.val (vI x5)), (D.val (vI 0)), (D.val (vI 20000))] [(D.val (Value.bool true))]) ∧
 (((Says C 64 [(D.val (vI x7)), (D.val (vI 1)), (D.val (vI 100))] [(D.val (Value.bool true))]) ∧
 (((Says C 64 [(D.val (vI x8)), (D.val (vI 1)), (D.val (vI 100))] [(D.val (Value.bool true))]) ∧
 (((Says C 64 [(D.val (vI x9)), (D.val (vI 0)), (D.val (vI 100))] [(D.val (Value.bool true))]) ∧
 (((Says C 64 [(D.val (vI x10)), (D.val (vI 0)), (D.val (vI 100))] [(D.val (Value.bool true))]) ∧
 (bcase (decide (x2 > x1))
 (k [(D.val (vI 0)), (D.val (vI 9))])
 (bcase (decide (x3 > x4))
 (k [(D.val (vI 0)), (D.val (vI 9))])
 (bcase (decide (x7 > x8))
 (k [(D.val (vI 0)), (D.val (vI 9))])
 (bcase (decide (x9 > x10))
 (k [(D.val (vI 0)), (D.val (vI 9))])
 (bcase ((↑n6 : Int) == 0)
 (k [(D.val (vI 0)), (D.val (vI 10))])
 (bcase (decide ((↑n6 : Int) > 6))
 (k [(D.val (vI 0)), (D.val (vI 8))])
 (L 0 [(Prod.mk 1 (Pt 1000 0)), (Prod.mk 4 (vI 0))] [(Prod.mk 1000 (AObj.cells [(vI x0), (vI x1), (vI x2), (vI x3), (vI x4), (vI x5), (Sl 500 (n6) (c6)), (vI x7), (vI x8), (vI x9), (vI x10)] 33 false 1)), (Prod.mk 500 (AObj.sym (l6) false 5))])))))))) ∨
 ((Says C 64 [(D.val (vI x10)), (D.val (vI 0)), (D.val (vI 100))] [(D.val (Value.bool false))]) ∧
 (k [(D.val (vI 0)), (D.val (vI 2))])))) ∨
 ((Says C 64 [(D.val (vI x9)), (D.val (vI 0)), (D.val (vI 100))] [(D.val (Value.bool false))]) ∧
 (k [(D.val (vI 0)), (D.val (vI 2))])))) ∨
 ((Says C 64 [(D.val (vI x8)), (D.val (vI 1)), (D.val (vI 100))] [(D.val (Value.bool false))]) ∧
 (k [(D.val (vI 0)), (D.val (vI 2))])))) ∨
 ((Says C 64 [(D.val (vI x7)), (D.val (vI 1)), (D.val (vI 100))] [(D.val (Value.bool false))]) ∧
 (k [(D.val (vI 0)), (D.val (vI 2))])))) ∨
 ((Says C 64 [(D.val (vI x5)), (D.val (vI 0)), (D.val (vI 20000))] [(D.val (Value.bool false))]) ∧
 (k [(D.val (vI 0)), (D.val (vI 2))])))) ∨
 ((Says C 64 [(D.val (vI x4)), (D.val (vI 0)), (D.val (vI 20000))] [(D.val (Value.bool false))]) ∧
 (k [(D.val (vI 0)), (D.val (vI 2))])))) ∨
 ((Says C 64 [(D.val (vI x3)), (D.val (vI 0)), (D.val (vI 20000))] [(D.val (Value.bool false))]) ∧
 (k [(D.val (vI 0)), (D.val (vI 2))])))) ∨
 ((Says C 64 [(D.val (vI x2)), (D.val (vI 1)), (D.val (vI 1000))] [(D.val (Value.bool false))]) ∧
 (k [(D.val (vI 0)), (D.val (vI 2))])))) ∨
 ((Says C 64 [(D.val (vI x1)), (D.val (vI 1)), (D.val (vI 1000))] [(D.val (Value.bool false))]) ∧
 (k [(D.val (vI 0)), (D.val (vI 2))])))) ∨
 ((Says C 64 [(D.val (vI x0)), (D.val (vI 1)), (D.val (vI 2500))] [(D.val (Value.bool false))]) ∧
 (k [(D.val (vI 0)), (D.val (vI 2))]))) := by kernel_rfl
abbrev zRK1 (x0 : Int) (x1 : Int) (x2 : Int) (x3 : Int) (x4 : Int) (x5 : Int) (x6 : Int) (n7 : Nat) (c8 : Nat) (x9 : Int) (x10 : Int) (x11 : Int) (x12 : Int) (l13 : List Value) : Slots × Blocks := ([(1, (Value.pointer (some ⟨1000, 0, none⟩))), (4, (Value.int .i64 x0))], [(1000, (AObj.cells [(Value.int .i64 x1), (Value.int .i64 x2), (Value.int .i64 x3), (Value.int .i64 x4), (Value.int .i64 x5), (Value.int .i64 x6), (Value.slice (some ⟨500, 0, none⟩) n7 c8), (Value.int .i64 x9), (Value.int .i64 x10), (Value.int .i64 x11), (Value.int .i64 x12)] 33 false 1)), (500, (AObj.sym l13 false 5))])
def rRK1 (C : Ct) (L : AtLoop) (x0 : Int) (x1 : Int) (x2 : Int) (x3 : Int) (x4 : Int) (x5 : Int) (x6 : Int) (n7 : Nat) (c8 : Nat) (x9 : Int) (x10 : Int) (x11 : Int) (x12 : Int) (l13 : List Value) (B : Bx) (X : Xx) (k : List D → Prop) : Prop := wpRound Tryz.prog (hP C) L 65 0 [(1, (Value.pointer (some ⟨1000, 0, none⟩))), (4, (Value.int .i64 x0))] [(1000, (AObj.cells [(Value.int .i64 x1), (Value.int .i64 x2), (Value.int .i64 x3), (Value.int .i64 x4), (Value.int .i64 x5), (Value.int .i64 x6), (Value.slice (some ⟨500, 0, none⟩) n7 c8), (Value.int .i64 x9), (Value.int .i64 x10), (Value.int .i64 x11), (Value.int .i64 x12)] 33 false 1)), (500, (AObj.sym l13 false 5))] B X (dataK k)
theorem rRK1_text (C : Ct) (L : AtLoop) (x0 : Int) (x1 : Int) (x2 : Int) (x3 : Int) (x4 : Int) (x5 : Int) (x6 : Int) (n7 : Nat) (c8 : Nat) (x9 : Int) (x10 : Int) (x11 : Int) (x12 : Int) (l13 : List Go.Value) (B : Bx) (X : Xx) (k : List D → Prop) : rRK1 C L x0 x1 x2 x3 x4 x5 x6 n7 c8 x9 x10 x11 x12 l13 B X k =
 (bcase (decide (x0 < (↑n7 : Int)))
 (bcase (decide (0 ≤ x0))
 (bcase (decide (x0 < (↑n7 : Int)))
 (∃ n1 : Int,
 (∃ n2 : Int,
 (∃ n3 : Int,
 (∃ n4 : Int,
 (∃ n5 : Int,
 ((At (l13) (0 + Int.toNat x0 * 5) 5 [(vI n1), (vI n2), (vI n3), (vI n4), (vI n5)]) ∧
 (((Says C 64 [(D.val (vI n1)), (D.val (vI 1)), (D.val (vI 1000))] [(D.val (Value.bool true))]) ∧
 (((Says C 64 [(D.val (vI n2)), (D.val (vI 0)), (D.val (vI 1000000000000))] [(D.val (Value.bool true))]) ∧
 (((Says C 64 [(D.val (vI n3)), (D.val (vI 0)), (D.val (vI 1000000000000))] [(D.val (Value.bool true))]) ∧
 (((Says C 64 [(D.val (vI n4)), (D.val (vI 0)), (D.val (vI 1000))] [(D.val (Value.bool true))]) ∧
 (((Says C 64 [(D.val (vI n5)), (D.val (vI 0)), (D.val (vI 1000))] [(D.val (Value.bool true))]) ∧
 (bcase (decide (n4 > n5))
 (k [(D.val (vI x0)), (D.val (vI 9))])
 (B [(Prod.mk 1 (Pt 1000 0)), (Prod.mk 4 (vI (IntKind.wrap .i64 (x0 + 1))))] [(Prod.mk 1000 (AObj.cells [(vI x1), (vI x2), (vI x3), (vI x4), (vI x5), (vI x6), (Sl 500 (n7) (c8)), (vI x9), (vI x10), (vI x11), (vI x12)] 33 false 1)), (Prod.mk 500 (AObj.sym (l13) false 5))]))) ∨
 ((Says C 64 [(D.val (vI n5)), (D.val (vI 0)), (D.val (vI 1000))] [(D.val (Value.bool false))]) ∧
 (k [(D.val (vI x0)), (D.val (vI 2))])))) ∨
 ((Says C 64 [(D.val (vI n4)), (D.val (vI 0)), (D.val (vI 1000))] [(D.val (Value.bool false))]) ∧
 (k [(D.val (vI x0)), (D.val (vI 2))])))) ∨
 ((Says C 64 [(D.val (vI n3)), (D.val (vI 0)), (D.val (vI 1000000000000))] [(D.val (Value.bool false))]) ∧
 (k [(D.val (vI x0)), (D.val (vI 2))])))) ∨
 ((Says C 64 [(D.val (vI n2)), (D.val (vI 0)), (D.val (vI 1000000000000))] [(D.val (Value.bool false))]) ∧
 (k [(D.val (vI x0)), (D.val (vI 2))])))) ∨
 ((Says C 64 [(D.val (vI n1)), (D.val (vI 1)), (D.val (vI 1000))] [(D.val (Value.bool false))]) ∧
 (k [(D.val (vI x0)), (D.val (vI 2))])))))))))
 False)
 False)
 (X 0 [] [])) := by kernel_rfl
def nRK2 (C : Ct) (L : AtLoop) (k : List D → Prop) : Prop := wpNext Tryz.prog (hP C) L 65 0 .normal [] [] (dataK k)
theorem nRK2_text (C : Ct) (L : AtLoop) (k : List D → Prop) : nRK2 C L k =
 (k [(D.val (vI 0)), (D.val (vI 0))]) := by kernel_rfl
def gRKn (C : Ct) (L : AtLoop) (x0 : Int) (x1 : Int) (x2 : Int) (x3 : Int) (x4 : Int) (x5 : Int) (x7 : Int) (x8 : Int) (x9 : Int) (x10 : Int) (k : List D → Prop) : Prop := wpFn Tryz.prog (hP C) L 0 65 #[.agg #[.int .i64 x0, .int .i64 x1, .int .i64 x2, .int .i64 x3, .int .i64 x4, .int .i64 x5, .slice none 0 0, .int .i64 x7, .int .i64 x8, .int .i64 x9, .int .i64 x10]] (heapOf []) (dataK k)
theorem gRKn_text (C : Ct) (L : AtLoop) (x0 : Int) (x1 : Int) (x2 : Int) (x3 : Int) (x4 : Int) (x5 : Int) (x7 : Int) (x8 : Int) (x9 : Int) (x10 : Int) (k : List D → Prop) : gRKn C L x0 x1 x2 x3 x4 x5 x7 x8 x9 x10 k =
 (((Says C 64 [(D.val (vI x0)), (D.val (vI 1)), (D.val (vI 2500))] [(D.val (Value.bool true))]) ∧
 (((Says C 64 [(D.val (vI x1)), (D.val (vI 1)), (D.val (vI 1000))] [(D.val (Value.bool true))]) ∧
 (((Says C 64 [(D.val (vI x2)), (D.val (vI 1)), (D.val (vI 1000))] [(D.val (Value.bool true))]) ∧
 (((Says C 64 [(D.val (vI x3)), (D.val (vI 0)), (D.val (vI 20000))] [(D.val (Value.bool true))]) ∧
 (((Says C 64 [(D.val (vI x4)), (D.val (vI 0)), (D.val (vI 20000))] [(D.val (Value.bool true))]) ∧
 (((Says C 64 [(D.val (vI x5)), (D.val (vI 0)), (D.val (vI 20000))] [(D.val (Value.bool true))]) ∧
 (((Says C 64 [(D.val (vI x7)), (D.val (vI 1)), (D.val (vI 100))] [(D.val (Value.bool true))]) ∧
 (((Says C 64 [(D.val (vI x8)), (D.val (vI 1)), (D.val (vI 100))] [(D.val (Value.bool true))]) ∧
 (((Says C 64 [(D.val (vI x9)), (D.val (vI 0)), (D.val (vI 100))] [(D.val (Value.bool true))]) ∧
 (((Says C 64 [(D.val (vI x10)), (D.val (vI 0)), (D.val (vI 100))] [(D.val (Value.bool true))]) ∧
 (bcase (decide (x2 > x1))
 (k [(D.val (vI 0)), (D.val (vI 9))])
 (bcase (decide (x3 > x4))
 (k [(D.val (vI 0)), (D.val (vI 9))])
 (bcase (decide (x7 > x8))
 (k [(D.val (vI 0)), (D.val (vI 9))])
 (bcase (decide (x9 > x10))
 (k [(D.val (vI 0)), (D.val (vI 9))])
 (k [(D.val (vI 0)), (D.val (vI 10))])))))) ∨
 ((Says C 64 [(D.val (vI x10)), (D.val (vI 0)), (D.val (vI 100))] [(D.val (Value.bool false))]) ∧
 (k [(D.val (vI 0)), (D.val (vI 2))])))) ∨
 ((Says C 64 [(D.val (vI x9)), (D.val (vI 0)), (D.val (vI 100))] [(D.val (Value.bool false))]) ∧
 (k [(D.val (vI 0)), (D.val (vI 2))])))) ∨
 ((Says C 64 [(D.val (vI x8)), (D.val (vI 1)), (D.val (vI 100))] [(D.val (Value.bool false))]) ∧
 (k [(D.val (vI 0)), (D.val (vI 2))])))) ∨
 ((Says C 64 [(D.val (vI x7)), (D.val (vI 1)), (D.val (vI 100))] [(D.val (Value.bool false))]) ∧
 (k [(D.val (vI 0)), (D.val (vI 2))])))) ∨
 ((Says C 64 [(D.val (vI x5)), (D.val (vI 0)), (D.val (vI 20000))] [(D.val (Value.bool false))]) ∧
 (k [(D.val (vI 0)), (D.val (vI 2))])))) ∨
 ((Says C 64 [(D.val (vI x4)), (D.val (vI 0)), (D.val (vI 20000))] [(D.val (Value.bool false))]) ∧
 (k [(D.val (vI 0)), (D.val (vI 2))])))) ∨
 ((Says C 64 [(D.val (vI x3)), (D.val (vI 0)), (D.val (vI 20000))] [(D.val (Value.bool false))]) ∧
 (k [(D.val (vI 0)), (D.val (vI 2))])))) ∨
 ((Says C 64 [(D.val (vI x2)), (D.val (vI 1)), (D.val (vI 1000))] [(D.val (Value.bool false))]) ∧
 (k [(D.val (vI 0)), (D.val (vI 2))])))) ∨
 ((Says C 64 [(D.val (vI x1)), (D.val (vI 1)), (D.val (vI 1000))] [(D.val (Value.bool false))]) ∧
 (k [(D.val (vI 0)), (D.val (vI 2))])))) ∨
 ((Says C 64 [(D.val (vI x0)), (D.val (vI 1)), (D.val (vI 2500))] [(D.val (Value.bool false))]) ∧
 (k [(D.val (vI 0)), (D.val (vI 2))]))) := by kernel_rfl
def gRE (C : Ct) (L : AtLoop) (x0 : Int) (x1 : Int) (x2 : Int) (x3 : Int) (x4 : Int) (x5 : Int) (n6 : Nat) (c6 : Nat) (l6 : List Value) (x7 : Int) (x8 : Int) (x9 : Int) (x10 : Int) (k : List D → Prop) : Prop := wpFn Tryz.prog (hP C) L 0 35 #[.agg #[.int .i64 x0, .int .i64 x1, .int .i64 x2, .int .i64 x3, .int .i64 x4, .int .i64 x5, .slice (some ⟨500, 0, none⟩) n6 c6, .int .i64 x7, .int .i64 x8, .int .i64 x9, .int .i64 x10]] (heapOf [(500, .sym l6 false 5)]) (dataK k)
theorem gRE_text (C : Ct) (L : AtLoop) (x0 : Int) (x1 : Int) (x2 : Int) (x3 : Int) (x4 : Int) (x5 : Int) (n6 : Nat) (c6 : Nat) (l6 : List Go.Value) (x7 : Int) (x8 : Int) (x9 : Int) (x10 : Int) (k : List D → Prop) : gRE C L x0 x1 x2 x3 x4 x5 n6 c6 l6 x7 x8 x9 x10 k =
 (bcase (decide (0 + n6 * 5 ≤ List.length l6))
 (∃ n1 : Int,
 (∃ n2 : Int,
 ((Says C 65 [(D.agg [(D.val (vI x0)), (D.val (vI x1)), (D.val (vI x2)), (D.val (vI x3)), (D.val (vI x4)), (D.val (vI x5)), (D.sl (n6) 5 (List.take (n6 * 5) (List.drop 0 l6))), (D.val (vI x7)), (D.val (vI x8)), (D.val (vI x9)), (D.val (vI x10))])] [(D.val (vI n1)), (D.val (vI n2))]) ∧
 (k [(D.val (vI n2))]))))
 False) := by kernel_rfl
def gREn (C : Ct) (L : AtLoop) (x0 : Int) (x1 : Int) (x2 : Int) (x3 : Int) (x4 : Int) (x5 : Int) (x7 : Int) (x8 : Int) (x9 : Int) (x10 : Int) (k : List D → Prop) : Prop := wpFn Tryz.prog (hP C) L 0 35 #[.agg #[.int .i64 x0, .int .i64 x1, .int .i64 x2, .int .i64 x3, .int .i64 x4, .int .i64 x5, .slice none 0 0, .int .i64 x7, .int .i64 x8, .int .i64 x9, .int .i64 x10]] (heapOf []) (dataK k)
theorem gREn_text (C : Ct) (L : AtLoop) (x0 : Int) (x1 : Int) (x2 : Int) (x3 : Int) (x4 : Int) (x5 : Int) (x7 : Int) (x8 : Int) (x9 : Int) (x10 : Int) (k : List D → Prop) : gREn C L x0 x1 x2 x3 x4 x5 x7 x8 x9 x10 k =
 (∃ n1 : Int,
 (∃ n2 : Int,
 ((Says C 65 [(D.agg [(D.val (vI x0)), (D.val (vI x1)), (D.val (vI x2)), (D.val (vI x3)), (D.val (vI x4)), (D.val (vI x5)), D.nil, (D.val (vI x7)), (D.val (vI x8)), (D.val (vI x9)), (D.val (vI x10))])] [(D.val (vI n1)), (D.val (vI n2))]) ∧
 (k [(D.val (vI n2))])))) := by kernel_rfl
def gWj (C : Ct) (L : AtLoop) (x0 : Int) (x1 : Int) (x2 : Int) (k : List D → Prop) : Prop := wpFn Tryz.prog (hE C) L 0 64 #[.int .i64 x0, .int .i64 x1, .int .i64 x2] (heapOf []) (dataK k)
theorem gWj_text (C : Ct) (L : AtLoop) (x0 : Int) (x1 : Int) (x2 : Int) (k : List D → Prop) : gWj C L x0 x1 x2 k =
 (bcase (decide (x1 ≤ x0))
 (bcase (decide (x0 ≤ x2))
 (k [(D.val (Value.bool true))])
 (k [(D.val (Value.bool false))]))
 (k [(D.val (Value.bool false))])) := by kernel_rfl
def gIN (C : Ct) (L : AtLoop) (s0 : ByteArray) (k : List D → Prop) : Prop := wpFn Tryz.prog (hP C) L 0 33 #[.string s0] (heapOf []) (dataK k)
theorem gIN_text (C : Ct) (L : AtLoop) (s0 : ByteArray) (k : List D → Prop) : gIN C L s0 k =
 (bcase (decide ((↑(ByteArray.size s0) : Int) < 1))
 (k [(D.val (Value.bool false))])
 (bcase (decide ((↑(ByteArray.size s0) : Int) > 12))
 (k [(D.val (Value.bool false))])
 (L 0 [(Prod.mk 0 (Value.string (s0))), (Prod.mk 3 (vI 0))] []))) := by kernel_rfl
abbrev zIN1 (s0 : ByteArray) (x1 : Int) : Slots × Blocks := ([(0, (Value.string s0)), (3, (Value.int .i64 x1))], [])
def rIN1 (C : Ct) (L : AtLoop) (s0 : ByteArray) (x1 : Int) (B : Bx) (X : Xx) (k : List D → Prop) : Prop := wpRound Tryz.prog (hP C) L 33 0 [(0, (Value.string s0)), (3, (Value.int .i64 x1))] [] B X (dataK k)
theorem rIN1_text (C : Ct) (L : AtLoop) (s0 : ByteArray) (x1 : Int) (B : Bx) (X : Xx) (k : List D → Prop) : rIN1 C L s0 x1 B X k =
 (bcase (decide (x1 < (↑(ByteArray.size s0) : Int)))
 (bcase (decide (0 ≤ x1))
 (∃ b1 : UInt8,
 ((ByteAt (s0) (Int.toNat x1) (b1)) ∧
 (bcase (decide ((↑(UInt8.toNat b1) : Int) ≥ 97))
 (bcase (decide ((↑(UInt8.toNat b1) : Int) ≤ 122))
 (B [(Prod.mk 0 (Value.string (s0))), (Prod.mk 3 (vI (IntKind.wrap .i64 (x1 + 1))))] [])
 (bcase (decide ((↑(UInt8.toNat b1) : Int) ≥ 65))
 (bcase (decide ((↑(UInt8.toNat b1) : Int) ≤ 90))
 (B [(Prod.mk 0 (Value.string (s0))), (Prod.mk 3 (vI (IntKind.wrap .i64 (x1 + 1))))] [])
 (bcase (x1 == 0)
 (k [(D.val (Value.bool false))])
 (bcase ((↑(UInt8.toNat b1) : Int) != 45)
 (bcase (decide ((↑(UInt8.toNat b1) : Int) < 48))
 (k [(D.val (Value.bool false))])
 (bcase (decide ((↑(UInt8.toNat b1) : Int) > 57))
 (k [(D.val (Value.bool false))])
 (B [(Prod.mk 0 (Value.string (s0))), (Prod.mk 3 (vI (IntKind.wrap .i64 (x1 + 1))))] [])))
 (B [(Prod.mk 0 (Value.string (s0))), (Prod.mk 3 (vI (IntKind.wrap .i64 (x1 + 1))))] []))))
 (bcase (x1 == 0)
 (k [(D.val (Value.bool false))])
 (bcase ((↑(UInt8.toNat b1) : Int) != 45)
 (bcase (decide ((↑(UInt8.toNat b1) : Int) < 48))
 (k [(D.val (Value.bool false))])
 (bcase (decide ((↑(UInt8.toNat b1) : Int) > 57))
 (k [(D.val (Value.bool false))])
 (B [(Prod.mk 0 (Value.string (s0))), (Prod.mk 3 (vI (IntKind.wrap .i64 (x1 + 1))))] [])))
 (B [(Prod.mk 0 (Value.string (s0))), (Prod.mk 3 (vI (IntKind.wrap .i64 (x1 + 1))))] [])))))
 (bcase (decide ((↑(UInt8.toNat b1) : Int) ≥ 65))
 (bcase (decide ((↑(UInt8.toNat b1) : Int) ≤ 90))
 (B [(Prod.mk 0 (Value.string (s0))), (Prod.mk 3 (vI (IntKind.wrap .i64 (x1 + 1))))] [])
 (bcase (x1 == 0)
 (k [(D.val (Value.bool false))])
 (bcase ((↑(UInt8.toNat b1) : Int) != 45)
 (bcase (decide ((↑(UInt8.toNat b1) : Int) < 48))
 (k [(D.val (Value.bool false))])
 (bcase (decide ((↑(UInt8.toNat b1) : Int) > 57))
 (k [(D.val (Value.bool false))])
 (B [(Prod.mk 0 (Value.string (s0))), (Prod.mk 3 (vI (IntKind.wrap .i64 (x1 + 1))))] [])))
 (B [(Prod.mk 0 (Value.string (s0))), (Prod.mk 3 (vI (IntKind.wrap .i64 (x1 + 1))))] []))))
 (bcase (x1 == 0)
 (k [(D.val (Value.bool false))])
 (bcase ((↑(UInt8.toNat b1) : Int) != 45)
 (bcase (decide ((↑(UInt8.toNat b1) : Int) < 48))
 (k [(D.val (Value.bool false))])
 (bcase (decide ((↑(UInt8.toNat b1) : Int) > 57))
 (k [(D.val (Value.bool false))])
 (B [(Prod.mk 0 (Value.string (s0))), (Prod.mk 3 (vI (IntKind.wrap .i64 (x1 + 1))))] [])))
 (B [(Prod.mk 0 (Value.string (s0))), (Prod.mk 3 (vI (IntKind.wrap .i64 (x1 + 1))))] [])))))))
 False)
 (X 0 [] [])) := by kernel_rfl
def nIN2 (C : Ct) (L : AtLoop) (k : List D → Prop) : Prop := wpNext Tryz.prog (hP C) L 33 0 .normal [] [] (dataK k)
theorem nIN2_text (C : Ct) (L : AtLoop) (k : List D → Prop) : nIN2 C L k =
 (k [(D.val (Value.bool true))]) := by kernel_rfl
end Go.Proofs.G5m

/- Chapter 3: copies, by the shape of what is copied. -/
namespace Go.Abs
end Go.Abs

/- Short names for what stands often in printed texts of laws. -/
namespace Go.Abs
abbrev Tk (n k : Nat) (l : List Value) : List Value := List.take (n * k) (List.drop 0 l)
abbrev Dw (n k : Nat) (l : List Value) : D := .sl n k (Tk n k l)
abbrev dL (n k : Nat) (l : List Value) : Bool := decide (0 + n * k ≤ List.length l)
abbrev kT : List D := [.val (.bool true)]
abbrev kF : List D := [.val (.bool false)]
abbrev Qft : Prop := Value.bool false = Value.bool true
abbrev Qtf : Prop := Value.bool true = Value.bool false
end Go.Abs

/- What is left to show of each function, written out; the kernel reckons it. -/
namespace Go.Proofs.G5m
open Go Go.Abs Go.Proofs
set_option maxRecDepth 100000
set_option linter.unusedVariables false
def preX (C : Ct) : FuncId → Option Handler := fun g => if [22, 31, 63, 23, 25, 5, 6, 32, 7, 8, 34, 10, 9].contains g then some (saidH Tryz.prog C) else preP C g
abbrev hX (C : Ct) : Handler := handlerX Tryz.prog (preX C) 12 6
def gaN (C : Ct) (L : AtLoop) (n0 : Nat) (c0 : Nat) (l0 : List Value) (k : List D → Prop) : Prop := jFn Tryz.prog (hX C) L [] 23 #[.slice (some ⟨500, 0, none⟩) n0 c0] (heapOf [(500, .sym l0 false 1)]) (dataK k)
theorem gaN_text (C : Ct) (L : AtLoop) (n0 : Nat) (c0 : Nat) (l0 : List Go.Value) (k : List D → Prop) : gaN C L n0 c0 l0 k =
 (L 0 [(Prod.mk 6 (Sl 500 (n0) (c0))), (Prod.mk 7 (vI ((↑n0 : Int)))), (Prod.mk 8 (vI 0))] [(Prod.mk 500 (AObj.sym (l0) false 1))]) := by kernel_rfl
abbrev zaN1 (n0 : Nat) (c1 : Nat) (x2 : Int) (x3 : Int) (l4 : List Value) : Slots × Blocks := ([(6, (Value.slice (some ⟨500, 0, none⟩) n0 c1)), (7, (Value.int .i64 x2)), (8, (Value.int .i64 x3))], [(500, (AObj.sym l4 false 1))])
def raN1 (C : Ct) (L : AtLoop) (n0 : Nat) (c1 : Nat) (x2 : Int) (x3 : Int) (l4 : List Value) (B : Bx) (X : Xx) (k : List D → Prop) : Prop := jRound Tryz.prog (hX C) L [] 23 0 [(6, (Value.slice (some ⟨500, 0, none⟩) n0 c1)), (7, (Value.int .i64 x2)), (8, (Value.int .i64 x3))] [(500, (AObj.sym l4 false 1))] B X (dataK k)
theorem raN1_text (C : Ct) (L : AtLoop) (n0 : Nat) (c1 : Nat) (x2 : Int) (x3 : Int) (l4 : List Go.Value) (B : Bx) (X : Xx) (k : List D → Prop) : raN1 C L n0 c1 x2 x3 l4 B X k =
 (bcase (decide (x3 < x2))
 (bcase (decide (0 ≤ x3))
 (bcase (decide (x3 < (↑n0 : Int)))
 (∃ s1 : ByteArray,
 ((At (l4) (0 + Int.toNat x3 * 1) 1 [(Value.string (s1))]) ∧
 (bcase ((↑(ByteArray.size s1) : Int) == 0)
 (k [(D.val (Value.bool false))])
 (bcase (decide ((↑(ByteArray.size s1) : Int) > 13))
 (k [(D.val (Value.bool false))])
 (bcase (decide ((↑(ByteArray.size s1) : Int) > 1))
 (∃ b1 : UInt8,
 ((ByteAt (s1) 0 (b1)) ∧
 (bcase ((↑(UInt8.toNat b1) : Int) == 48)
 (k [(D.val (Value.bool false))])
 (L 2 [(Prod.mk 4 (Value.string (s1))), (Prod.mk 6 (Sl 500 (n0) (c1))), (Prod.mk 7 (vI x2)), (Prod.mk 8 (vI x3)), (Prod.mk 31 (vI ((↑(ByteArray.size s1) : Int)))), (Prod.mk 32 (vI 0))] [(Prod.mk 500 (AObj.sym (l4) false 1))]))))
 (L 2 [(Prod.mk 4 (Value.string (s1))), (Prod.mk 6 (Sl 500 (n0) (c1))), (Prod.mk 7 (vI x2)), (Prod.mk 8 (vI x3)), (Prod.mk 31 (vI ((↑(ByteArray.size s1) : Int)))), (Prod.mk 32 (vI 0))] [(Prod.mk 500 (AObj.sym (l4) false 1))]))))))
 False)
 False)
 (X 0 [] [])) := by kernel_rfl
abbrev zaN2 (s0 : ByteArray) (n1 : Nat) (c2 : Nat) (x3 : Int) (x4 : Int) (x5 : Int) (x6 : Int) (l7 : List Value) : Slots × Blocks := ([(4, (Value.string s0)), (6, (Value.slice (some ⟨500, 0, none⟩) n1 c2)), (7, (Value.int .i64 x3)), (8, (Value.int .i64 x4)), (31, (Value.int .i64 x5)), (32, (Value.int .i64 x6))], [(500, (AObj.sym l7 false 1))])
def raN2 (C : Ct) (L : AtLoop) (s0 : ByteArray) (n1 : Nat) (c2 : Nat) (x3 : Int) (x4 : Int) (x5 : Int) (x6 : Int) (l7 : List Value) (B : Bx) (X : Xx) (k : List D → Prop) : Prop := jRound2 Tryz.prog (hX C) L [] 23 0 2 [(4, (Value.string s0)), (6, (Value.slice (some ⟨500, 0, none⟩) n1 c2)), (7, (Value.int .i64 x3)), (8, (Value.int .i64 x4)), (31, (Value.int .i64 x5)), (32, (Value.int .i64 x6))] [(500, (AObj.sym l7 false 1))] B X (dataK k)
theorem raN2_text (C : Ct) (L : AtLoop) (s0 : ByteArray) (n1 : Nat) (c2 : Nat) (x3 : Int) (x4 : Int) (x5 : Int) (x6 : Int) (l7 : List Go.Value) (B : Bx) (X : Xx) (k : List D → Prop) : raN2 C L s0 n1 c2 x3 x4 x5 x6 l7 B X k =
 (bcase (decide (x6 < x5))
 (bcase (decide (0 ≤ x6))
 (∃ b1 : UInt8,
 ((ByteAt (s0) (Int.toNat x6) (b1)) ∧
 (((Says C 58 [(D.val (Value.int IntKind.u8 ((↑(UInt8.toNat b1) : Int))))] [(D.val (Value.bool true))]) ∧
 (B [(Prod.mk 4 (Value.string (s0))), (Prod.mk 6 (Sl 500 (n1) (c2))), (Prod.mk 7 (vI x3)), (Prod.mk 8 (vI x4)), (Prod.mk 31 (vI x5)), (Prod.mk 32 (vI (IntKind.wrap .i64 (x6 + 1))))] [(Prod.mk 500 (AObj.sym (l7) false 1))])) ∨
 ((Says C 58 [(D.val (Value.int IntKind.u8 ((↑(UInt8.toNat b1) : Int))))] [(D.val (Value.bool false))]) ∧
 (k [(D.val (Value.bool false))])))))
 False)
 (X 2 [(Prod.mk 6 (Sl 500 (n1) (c2))), (Prod.mk 7 (vI x3)), (Prod.mk 8 (vI x4))] [(Prod.mk 500 (AObj.sym (l7) false 1))])) := by kernel_rfl
def naN3 (C : Ct) (L : AtLoop) (k : List D → Prop) : Prop := jNext Tryz.prog (hX C) L [] 23 0 .normal [] [] (dataK k)
theorem naN3_text (C : Ct) (L : AtLoop) (k : List D → Prop) : naN3 C L k =
 (k [(D.val (Value.bool true))]) := by kernel_rfl
def iaN4 (C : Ct) (L : AtLoop) (n0 : Nat) (c1 : Nat) (x2 : Int) (x3 : Int) (l4 : List Value) (B : Bx) (X : Xx) (k : List D → Prop) : Prop := jIn Tryz.prog (hX C) L [] 23 0 2 .normal [(6, (Value.slice (some ⟨500, 0, none⟩) n0 c1)), (7, (Value.int .i64 x2)), (8, (Value.int .i64 x3))] [(500, (AObj.sym l4 false 1))] B X (dataK k)
theorem iaN4_text (C : Ct) (L : AtLoop) (n0 : Nat) (c1 : Nat) (x2 : Int) (x3 : Int) (l4 : List Go.Value) (B : Bx) (X : Xx) (k : List D → Prop) : iaN4 C L n0 c1 x2 x3 l4 B X k =
 (B [(Prod.mk 6 (Sl 500 (n0) (c1))), (Prod.mk 7 (vI x2)), (Prod.mk 8 (vI (IntKind.wrap .i64 (x3 + 1))))] [(Prod.mk 500 (AObj.sym (l4) false 1))]) := by kernel_rfl
def gnO (C : Ct) (L : AtLoop) (s0 : ByteArray) (k : List D → Prop) : Prop := wpFn Tryz.prog (hX C) L 0 25 #[.string s0] (heapOf []) (dataK k)
theorem gnO_text (C : Ct) (L : AtLoop) (s0 : ByteArray) (k : List D → Prop) : gnO C L s0 k =
 (L 0 [(Prod.mk 0 (Value.string (s0))), (Prod.mk 3 (vI 0)), (Prod.mk 6 (vI ((↑(ByteArray.size s0) : Int)))), (Prod.mk 7 (vI 0))] []) := by kernel_rfl
abbrev znO1 (s0 : ByteArray) (x1 : Int) (x2 : Int) (x3 : Int) : Slots × Blocks := ([(0, (Value.string s0)), (3, (Value.int .i64 x1)), (6, (Value.int .i64 x2)), (7, (Value.int .i64 x3))], [])
def rnO1 (C : Ct) (L : AtLoop) (s0 : ByteArray) (x1 : Int) (x2 : Int) (x3 : Int) (B : Bx) (X : Xx) (k : List D → Prop) : Prop := wpRound Tryz.prog (hX C) L 25 0 [(0, (Value.string s0)), (3, (Value.int .i64 x1)), (6, (Value.int .i64 x2)), (7, (Value.int .i64 x3))] [] B X (dataK k)
theorem rnO1_text (C : Ct) (L : AtLoop) (s0 : ByteArray) (x1 : Int) (x2 : Int) (x3 : Int) (B : Bx) (X : Xx) (k : List D → Prop) : rnO1 C L s0 x1 x2 x3 B X k =
 (bcase (decide (x3 < x2))
 (bcase (decide (0 ≤ x3))
 (∃ b1 : UInt8,
 ((ByteAt (s0) (Int.toNat x3) (b1)) ∧
 (B [(Prod.mk 0 (Value.string (s0))), (Prod.mk 3 (vI (IntKind.wrap .i64 (IntKind.wrap .i64 (10 * x1) + IntKind.wrap .i64 (IntKind.wrap IntKind.u8 ((↑(UInt8.toNat b1) : Int) - 48)))))), (Prod.mk 6 (vI x2)), (Prod.mk 7 (vI (IntKind.wrap .i64 (x3 + 1))))] [])))
 False)
 (X 0 [(Prod.mk 3 (vI x1))] [])) := by kernel_rfl
def nnO2 (C : Ct) (L : AtLoop) (x0 : Int) (k : List D → Prop) : Prop := wpNext Tryz.prog (hX C) L 25 0 .normal [(3, (Value.int .i64 x0))] [] (dataK k)
theorem nnO2_text (C : Ct) (L : AtLoop) (x0 : Int) (k : List D → Prop) : nnO2 C L x0 k =
 (k [(D.val (vI x0))]) := by kernel_rfl
def gPS (C : Ct) (L : AtLoop) (s0 : ByteArray) (k : List D → Prop) : Prop := wpFn Tryz.prog (hX C) L 0 5 #[.string s0] (heapOf []) (dataK k)
theorem gPS_text (C : Ct) (L : AtLoop) (s0 : ByteArray) (k : List D → Prop) : gPS C L s0 k =
 (((Says C 22 [(D.val (Value.string (s0))), (D.val (Value.string ({ data := #[32] })))] [D.nil]) ∧
 False) ∨
 (∃ n1 : Nat,
 (∃ cs1 : List Go.Value,
 ((Says C 22 [(D.val (Value.string (s0))), (D.val (Value.string ({ data := #[32] })))] [(D.sl (n1) 1 (cs1))]) ∧
 (bcase (decide (0 < (↑n1 : Int)))
 (∃ s1 : ByteArray,
 ((At (cs1) 0 1 [(Value.string (s1))]) ∧
 (bcase (decide (1 ≤ (↑n1 : Int)))
 (bcase (decide (n1 ≤ n1))
 (bcase (AObj.isOpen (AObj.sym cs1 Bool.true 1) 0 n1)
 (((bcase (decide (1 ≤ (↑n1 : Int)))
 (bcase (decide (n1 ≤ n1))
 (bcase (AObj.isOpen (AObj.sym cs1 Bool.true 1) 0 n1)
 (Qv (Value.slice (some (Addr.mk 1001 1 none)) (n1 - 1) (n1 - 1)))
 False)
 False)
 False) ∧
 ((Qv (Sl 1001 (n1) (n1))) ∧
 ((∃ s2 : ByteArray,
 ((At (cs1) 0 1 [(Value.string (s2))]) ∧
 ((Value.string (s2)) = (Value.string (s1))))) ∧
 ((bcase (decide (0 < (↑n1 : Int)))
 (Qv (Pt 1001 0))
 False) ∧
 ((Qv (Sl 1001 (n1) (n1))) ∧
 True))))) ∧
 (((bcase (decide (1 ≤ (↑n1 : Int)))
 (bcase (decide (n1 ≤ n1))
 (bcase (AObj.isOpen (AObj.sym cs1 Bool.true 1) 0 n1)
 (Qv (Value.slice (some (Addr.mk 1001 1 none)) (n1 - 1) (n1 - 1)))
 False)
 False)
 False) ∧
 ((Qv (Sl 1001 (n1) (n1))) ∧
 True)) ∧
 (True ∧
 (bcase (ByteArray.toList s1 == ByteArray.toList { data := #[] })
 (k [(D.agg [(D.val (Value.string ({ data := #[] }))), D.nil]), (D.val (vI 7))])
 (bcase (decide (1 + (n1 - 1) * 1 ≤ List.length cs1))
 (((Says C 23 [(D.sl (n1 - 1) 1 (List.take ((n1 - 1) * 1) (List.drop 1 cs1)))] [(D.val (Value.bool true))]) ∧
 (((Says C 24 [(D.val (Value.string (s1)))] [(D.val (Value.bool true))]) ∧
 (bcase (decide ((↑(n1 - 1) : Int) > 6))
 (k [(D.agg [(D.val (Value.string ({ data := #[] }))), D.nil]), (D.val (vI 8))])
 (L 1 [(Prod.mk 2 (Pt 1000 0)), (Prod.mk 7 (Pt 1001 0)), (Prod.mk 38 (Value.slice (some (Addr.mk 1002 1 none)) (n1 - 1) (n1 - 1))), (Prod.mk 39 (vI ((↑(n1 - 1) : Int)))), (Prod.mk 40 (vI 0))] [(Prod.mk 1000 (AObj.cells [(Value.string ({ data := #[] })), (Value.slice none 0 0)] 25 false 2)), (Prod.mk 1001 (AObj.cells [(Value.string (s1)), (Value.slice none 0 0)] 25 false 2)), (Prod.mk 1002 (AObj.sym (cs1) true 1))]))) ∨
 ((Says C 24 [(D.val (Value.string (s1)))] [(D.val (Value.bool false))]) ∧
 (k [(D.agg [(D.val (Value.string ({ data := #[] }))), D.nil]), (D.val (vI 4))])))) ∨
 ((Says C 23 [(D.sl (n1 - 1) 1 (List.take ((n1 - 1) * 1) (List.drop 1 cs1)))] [(D.val (Value.bool false))]) ∧
 (k [(D.agg [(D.val (Value.string ({ data := #[] }))), D.nil]), (D.val (vI 7))])))
 False)))))
 False)
 False)
 False)))
 False))))) := by kernel_rfl
abbrev zPS1 (o0 : Nat) (n1 : Nat) (x2 : Int) (x3 : Int) (s4 : ByteArray) (s5 : ByteArray) (l6 : List Value) : Slots × Blocks := ([(2, (Value.pointer (some ⟨1000, 0, none⟩))), (7, (Value.pointer (some ⟨1001, 0, none⟩))), (38, (Value.slice (some ⟨1002, o0, none⟩) n1 n1)), (39, (Value.int .i64 x2)), (40, (Value.int .i64 x3))], [(1000, (AObj.cells [(Value.string s4), (Value.slice none 0 0)] 25 false 2)), (1001, (AObj.cells [(Value.string s5), (Value.slice none 0 0)] 25 false 2)), (1002, (AObj.sym l6 true 1))])
def rPS1 (C : Ct) (L : AtLoop) (o0 : Nat) (n1 : Nat) (x2 : Int) (x3 : Int) (s4 : ByteArray) (s5 : ByteArray) (l6 : List Value) (B : Bx) (X : Xx) (k : List D → Prop) : Prop := wpRound Tryz.prog (hX C) L 5 1 [(2, (Value.pointer (some ⟨1000, 0, none⟩))), (7, (Value.pointer (some ⟨1001, 0, none⟩))), (38, (Value.slice (some ⟨1002, o0, none⟩) n1 n1)), (39, (Value.int .i64 x2)), (40, (Value.int .i64 x3))] [(1000, (AObj.cells [(Value.string s4), (Value.slice none 0 0)] 25 false 2)), (1001, (AObj.cells [(Value.string s5), (Value.slice none 0 0)] 25 false 2)), (1002, (AObj.sym l6 true 1))] B X (dataK k)
theorem rPS1_text (C : Ct) (L : AtLoop) (o0 : Nat) (n1 : Nat) (x2 : Int) (x3 : Int) (s4 : ByteArray) (s5 : ByteArray) (l6 : List Go.Value) (B : Bx) (X : Xx) (k : List D → Prop) : rPS1 C L o0 n1 x2 x3 s4 s5 l6 B X k =
 (bcase (decide (x3 < x2))
 (bcase (decide (0 ≤ x3))
 (bcase (decide (x3 < (↑n1 : Int)))
 (∃ s1 : ByteArray,
 ((At (l6) (o0 + Int.toNat x3 * 1) 1 [(Value.string (s1))]) ∧
 (∃ n2 : Int,
 ((Says C 25 [(D.val (Value.string (s1)))] [(D.val (vI n2))]) ∧
 (∃ n3 : Int,
 ((Says C 26 [(D.val (vI n2))] [(D.val (vI n3))]) ∧
 (bcase (n3 != 0)
 (k [(D.agg [(D.val (Value.string ({ data := #[] }))), D.nil]), (D.val (vI n3))])
 (B [(Prod.mk 2 (Pt 1000 0)), (Prod.mk 7 (Pt 1001 0)), (Prod.mk 38 (Value.slice (some (Addr.mk 1002 (o0) none)) (n1) (n1))), (Prod.mk 39 (vI x2)), (Prod.mk 40 (vI (IntKind.wrap .i64 (x3 + 1))))] [(Prod.mk 1000 (AObj.cells [(Value.string (s4)), (Value.slice none 0 0)] 25 false 2)), (Prod.mk 1001 (AObj.cells [(Value.string (s5)), (Sl 1003 1 1)] 25 false 2)), (Prod.mk 1002 (AObj.sym (l6) true 1)), (Prod.mk 1003 (AObj.sym [(vI n2)] true 1))]))))))))
 False)
 False)
 (X 1 [(Prod.mk 2 (Pt 1000 0)), (Prod.mk 7 (Pt 1001 0))] [(Prod.mk 1000 (AObj.cells [(Value.string (s4)), (Value.slice none 0 0)] 25 false 2)), (Prod.mk 1001 (AObj.cells [(Value.string (s5)), (Value.slice none 0 0)] 25 false 2))])) := by kernel_rfl
abbrev zPS2 (o0 : Nat) (n1 : Nat) (x2 : Int) (x3 : Int) (s4 : ByteArray) (s5 : ByteArray) (n6 : Nat) (l7 : List Value) (l8 : List Value) : Slots × Blocks := ([(2, (Value.pointer (some ⟨1000, 0, none⟩))), (7, (Value.pointer (some ⟨1001, 0, none⟩))), (38, (Value.slice (some ⟨1002, o0, none⟩) n1 n1)), (39, (Value.int .i64 x2)), (40, (Value.int .i64 x3))], [(1000, (AObj.cells [(Value.string s4), (Value.slice none 0 0)] 25 false 2)), (1001, (AObj.cells [(Value.string s5), (Value.slice (some ⟨1003, 0, none⟩) n6 n6)] 25 false 2)), (1002, (AObj.sym l7 true 1)), (1003, (AObj.sym l8 true 1))])
def rPS2 (C : Ct) (L : AtLoop) (o0 : Nat) (n1 : Nat) (x2 : Int) (x3 : Int) (s4 : ByteArray) (s5 : ByteArray) (n6 : Nat) (l7 : List Value) (l8 : List Value) (B : Bx) (X : Xx) (k : List D → Prop) : Prop := wpRound Tryz.prog (hX C) L 5 1 [(2, (Value.pointer (some ⟨1000, 0, none⟩))), (7, (Value.pointer (some ⟨1001, 0, none⟩))), (38, (Value.slice (some ⟨1002, o0, none⟩) n1 n1)), (39, (Value.int .i64 x2)), (40, (Value.int .i64 x3))] [(1000, (AObj.cells [(Value.string s4), (Value.slice none 0 0)] 25 false 2)), (1001, (AObj.cells [(Value.string s5), (Value.slice (some ⟨1003, 0, none⟩) n6 n6)] 25 false 2)), (1002, (AObj.sym l7 true 1)), (1003, (AObj.sym l8 true 1))] B X (dataK k)
theorem rPS2_text (C : Ct) (L : AtLoop) (o0 : Nat) (n1 : Nat) (x2 : Int) (x3 : Int) (s4 : ByteArray) (s5 : ByteArray) (n6 : Nat) (l7 : List Go.Value) (l8 : List Go.Value) (B : Bx) (X : Xx) (k : List D → Prop) : rPS2 C L o0 n1 x2 x3 s4 s5 n6 l7 l8 B X k =
 (bcase (decide (x3 < x2))
 (bcase (decide (0 ≤ x3))
 (bcase (decide (x3 < (↑n1 : Int)))
 (∃ s1 : ByteArray,
 ((At (l7) (o0 + Int.toNat x3 * 1) 1 [(Value.string (s1))]) ∧
 (∃ n2 : Int,
 ((Says C 25 [(D.val (Value.string (s1)))] [(D.val (vI n2))]) ∧
 (∃ n3 : Int,
 ((Says C 26 [(D.val (vI n2))] [(D.val (vI n3))]) ∧
 (bcase (n3 != 0)
 (k [(D.agg [(D.val (Value.string ({ data := #[] }))), D.nil]), (D.val (vI n3))])
 (bcase (decide (n6 < n6 + 1))
 (bcase (decide ((2 * (n6 + 1) + 768) * 8 ≤ 281474976710656))
 (bcase (decide (n6 + 1 ≤ 1099511627776))
 (bcase (decide (0 + n6 * 1 ≤ List.length l8))
 (bcase (decide (0 + n6 * 1 = List.length l8))
 (B [(Prod.mk 2 (Pt 1000 0)), (Prod.mk 7 (Pt 1001 0)), (Prod.mk 38 (Value.slice (some (Addr.mk 1002 (o0) none)) (n1) (n1))), (Prod.mk 39 (vI x2)), (Prod.mk 40 (vI (IntKind.wrap .i64 (x3 + 1))))] [(Prod.mk 1000 (AObj.cells [(Value.string (s4)), (Value.slice none 0 0)] 25 false 2)), (Prod.mk 1001 (AObj.cells [(Value.string (s5)), (Sl 1003 (n6 + 1) (n6 + 1))] 25 false 2)), (Prod.mk 1002 (AObj.sym (l7) true 1)), (Prod.mk 1003 (AObj.sym ((List.take (n6 * 1) (List.drop 0 l8)) ++ [(vI n2)]) true 1))])
 False)
 False)
 False)
 False)
 False))))))))
 False)
 False)
 (X 1 [(Prod.mk 2 (Pt 1000 0)), (Prod.mk 7 (Pt 1001 0))] [(Prod.mk 1000 (AObj.cells [(Value.string (s4)), (Value.slice none 0 0)] 25 false 2)), (Prod.mk 1001 (AObj.cells [(Value.string (s5)), (Sl 1002 (n6) (n6))] 25 false 2)), (Prod.mk 1002 (AObj.sym (l8) true 1))])) := by kernel_rfl
def nPS3 (C : Ct) (L : AtLoop) (s0 : ByteArray) (s1 : ByteArray) (k : List D → Prop) : Prop := wpNext Tryz.prog (hX C) L 5 1 .normal [(2, (Value.pointer (some ⟨1000, 0, none⟩))), (7, (Value.pointer (some ⟨1001, 0, none⟩)))] [(1000, (AObj.cells [(Value.string s0), (Value.slice none 0 0)] 25 false 2)), (1001, (AObj.cells [(Value.string s1), (Value.slice none 0 0)] 25 false 2))] (dataK k)
theorem nPS3_text (C : Ct) (L : AtLoop) (s0 : ByteArray) (s1 : ByteArray) (k : List D → Prop) : nPS3 C L s0 s1 k =
 (k [(D.agg [(D.val (Value.string (s1))), D.nil]), (D.val (vI 0))]) := by kernel_rfl
def nPS4 (C : Ct) (L : AtLoop) (s0 : ByteArray) (s1 : ByteArray) (n2 : Nat) (l3 : List Value) (k : List D → Prop) : Prop := wpNext Tryz.prog (hX C) L 5 1 .normal [(2, (Value.pointer (some ⟨1000, 0, none⟩))), (7, (Value.pointer (some ⟨1001, 0, none⟩)))] [(1000, (AObj.cells [(Value.string s0), (Value.slice none 0 0)] 25 false 2)), (1001, (AObj.cells [(Value.string s1), (Value.slice (some ⟨1002, 0, none⟩) n2 n2)] 25 false 2)), (1002, (AObj.sym l3 true 1))] (dataK k)
theorem nPS4_text (C : Ct) (L : AtLoop) (s0 : ByteArray) (s1 : ByteArray) (n2 : Nat) (l3 : List Go.Value) (k : List D → Prop) : nPS4 C L s0 s1 n2 l3 k =
 (((Qv (n2)) ∧
 ((List.length l3) = (n2 * 1))) ∧
 (k [(D.agg [(D.val (Value.string (s1))), (D.sl (n2) 1 (l3))]), (D.val (vI 0))])) := by kernel_rfl
def gpd (C : Ct) (L : AtLoop) (n0 : Nat) (c0 : Nat) (l0 : List Value) (k : List D → Prop) : Prop := wpFn Tryz.prog (hX C) L 0 32 #[.slice (some ⟨500, 0, none⟩) n0 c0] (heapOf [(500, .sym l0 false 1)]) (dataK k)
theorem gpd_text (C : Ct) (L : AtLoop) (n0 : Nat) (c0 : Nat) (l0 : List Go.Value) (k : List D → Prop) : gpd C L n0 c0 l0 k =
 (L 0 [(Prod.mk 0 (Sl 500 (n0) (c0))), (Prod.mk 4 (Value.slice none 0 0)), (Prod.mk 5 (vI 0))] [(Prod.mk 500 (AObj.sym (l0) false 1))]) := by kernel_rfl
abbrev zpd1 (n0 : Nat) (c1 : Nat) (x2 : Int) (l3 : List Value) : Slots × Blocks := ([(0, (Value.slice (some ⟨500, 0, none⟩) n0 c1)), (4, (Value.slice none 0 0)), (5, (Value.int .i64 x2))], [(500, (AObj.sym l3 false 1))])
def rpd1 (C : Ct) (L : AtLoop) (n0 : Nat) (c1 : Nat) (x2 : Int) (l3 : List Value) (B : Bx) (X : Xx) (k : List D → Prop) : Prop := wpRound Tryz.prog (hX C) L 32 0 [(0, (Value.slice (some ⟨500, 0, none⟩) n0 c1)), (4, (Value.slice none 0 0)), (5, (Value.int .i64 x2))] [(500, (AObj.sym l3 false 1))] B X (dataK k)
theorem rpd1_text (C : Ct) (L : AtLoop) (n0 : Nat) (c1 : Nat) (x2 : Int) (l3 : List Go.Value) (B : Bx) (X : Xx) (k : List D → Prop) : rpd1 C L n0 c1 x2 l3 B X k =
 (bcase (decide (x2 < (↑n0 : Int)))
 (bcase (decide (0 ≤ x2))
 (bcase (decide (x2 < (↑n0 : Int)))
 (∃ s1 : ByteArray,
 ((At (l3) (0 + Int.toNat x2 * 1) 1 [(Value.string (s1))]) ∧
 (∃ n1 : Int,
 (((Says C 63 [(D.val (Value.string (s1))), (D.val (vI 13))] [(D.val (vI n1)), (D.val (Value.bool true))]) ∧
 (bcase (decide (n1 < 0))
 (k [D.nil, (D.val (Value.bool false))])
 (B [(Prod.mk 0 (Sl 500 (n0) (c1))), (Prod.mk 4 (Sl 1000 1 1)), (Prod.mk 5 (vI (IntKind.wrap .i64 (x2 + 1))))] [(Prod.mk 500 (AObj.sym (l3) false 1)), (Prod.mk 1000 (AObj.sym [(vI n1)] true 1))]))) ∨
 ((Says C 63 [(D.val (Value.string (s1))), (D.val (vI 13))] [(D.val (vI n1)), (D.val (Value.bool false))]) ∧
 (k [D.nil, (D.val (Value.bool false))]))))))
 False)
 False)
 (X 0 [(Prod.mk 4 (Value.slice none 0 0))] [])) := by kernel_rfl
abbrev zpd2 (n0 : Nat) (c1 : Nat) (n2 : Nat) (x3 : Int) (l4 : List Value) (l5 : List Value) : Slots × Blocks := ([(0, (Value.slice (some ⟨500, 0, none⟩) n0 c1)), (4, (Value.slice (some ⟨1000, 0, none⟩) n2 n2)), (5, (Value.int .i64 x3))], [(500, (AObj.sym l4 false 1)), (1000, (AObj.sym l5 true 1))])
def rpd2 (C : Ct) (L : AtLoop) (n0 : Nat) (c1 : Nat) (n2 : Nat) (x3 : Int) (l4 : List Value) (l5 : List Value) (B : Bx) (X : Xx) (k : List D → Prop) : Prop := wpRound Tryz.prog (hX C) L 32 0 [(0, (Value.slice (some ⟨500, 0, none⟩) n0 c1)), (4, (Value.slice (some ⟨1000, 0, none⟩) n2 n2)), (5, (Value.int .i64 x3))] [(500, (AObj.sym l4 false 1)), (1000, (AObj.sym l5 true 1))] B X (dataK k)
theorem rpd2_text (C : Ct) (L : AtLoop) (n0 : Nat) (c1 : Nat) (n2 : Nat) (x3 : Int) (l4 : List Go.Value) (l5 : List Go.Value) (B : Bx) (X : Xx) (k : List D → Prop) : rpd2 C L n0 c1 n2 x3 l4 l5 B X k =
 (bcase (decide (x3 < (↑n0 : Int)))
 (bcase (decide (0 ≤ x3))
 (bcase (decide (x3 < (↑n0 : Int)))
 (∃ s1 : ByteArray,
 ((At (l4) (0 + Int.toNat x3 * 1) 1 [(Value.string (s1))]) ∧
 (∃ n1 : Int,
 (((Says C 63 [(D.val (Value.string (s1))), (D.val (vI 13))] [(D.val (vI n1)), (D.val (Value.bool true))]) ∧
 (bcase (decide (n1 < 0))
 (k [D.nil, (D.val (Value.bool false))])
 (bcase (decide (n2 < n2 + 1))
 (bcase (decide ((2 * (n2 + 1) + 768) * 8 ≤ 281474976710656))
 (bcase (decide (n2 + 1 ≤ 1099511627776))
 (bcase (decide (0 + n2 * 1 ≤ List.length l5))
 (bcase (decide (0 + n2 * 1 = List.length l5))
 (B [(Prod.mk 0 (Sl 500 (n0) (c1))), (Prod.mk 4 (Sl 1000 (n2 + 1) (n2 + 1))), (Prod.mk 5 (vI (IntKind.wrap .i64 (x3 + 1))))] [(Prod.mk 500 (AObj.sym (l4) false 1)), (Prod.mk 1000 (AObj.sym ((List.take (n2 * 1) (List.drop 0 l5)) ++ [(vI n1)]) true 1))])
 False)
 False)
 False)
 False)
 False))) ∨
 ((Says C 63 [(D.val (Value.string (s1))), (D.val (vI 13))] [(D.val (vI n1)), (D.val (Value.bool false))]) ∧
 (k [D.nil, (D.val (Value.bool false))]))))))
 False)
 False)
 (X 0 [(Prod.mk 4 (Sl 1000 (n2) (n2)))] [(Prod.mk 1000 (AObj.sym (l5) true 1))])) := by kernel_rfl
def npd3 (C : Ct) (L : AtLoop) (k : List D → Prop) : Prop := wpNext Tryz.prog (hX C) L 32 0 .normal [(4, (Value.slice none 0 0))] [] (dataK k)
theorem npd3_text (C : Ct) (L : AtLoop) (k : List D → Prop) : npd3 C L k =
 (k [D.nil, (D.val (Value.bool true))]) := by kernel_rfl
def npd4 (C : Ct) (L : AtLoop) (n0 : Nat) (l1 : List Value) (k : List D → Prop) : Prop := wpNext Tryz.prog (hX C) L 32 0 .normal [(4, (Value.slice (some ⟨1000, 0, none⟩) n0 n0))] [(1000, (AObj.sym l1 true 1))] (dataK k)
theorem npd4_text (C : Ct) (L : AtLoop) (n0 : Nat) (l1 : List Go.Value) (k : List D → Prop) : npd4 C L n0 l1 k =
 (((Qv (n0)) ∧
 ((List.length l1) = (n0 * 1))) ∧
 (k [(D.sl (n0) 1 (l1)), (D.val (Value.bool true))])) := by kernel_rfl
def grPS (C : Ct) (L : AtLoop) (s0 : ByteArray) (k : List D → Prop) : Prop := wpFn Tryz.prog (hX C) L 0 7 #[.string s0] (heapOf []) (dataK k)
theorem grPS_text (C : Ct) (L : AtLoop) (s0 : ByteArray) (k : List D → Prop) : grPS C L s0 k =
 (((Says C 31 [(D.val (Value.string (s0))), (D.val (Value.int IntKind.u8 (32 : Int)))] [D.nil]) ∧
 False) ∨
 (∃ n1 : Nat,
 (∃ cs1 : List Go.Value,
 ((Says C 31 [(D.val (Value.string (s0))), (D.val (Value.int IntKind.u8 (32 : Int)))] [(D.sl (n1) 1 (cs1))]) ∧
 (bcase (decide (1 ≤ (↑n1 : Int)))
 (bcase (decide (n1 ≤ n1))
 (bcase (AObj.isOpen (AObj.sym cs1 Bool.true 1) 0 n1)
 (bcase (decide (1 + (n1 - 1) * 1 ≤ List.length cs1))
 ((((Says C 32 [(D.sl (n1 - 1) 1 (List.take ((n1 - 1) * 1) (List.drop 1 cs1)))] [D.nil, (D.val (Value.bool true))]) ∧
 (bcase (decide (0 < (↑n1 : Int)))
 (∃ s1 : ByteArray,
 ((At (cs1) 0 1 [(Value.string (s1))]) ∧
 (bcase (ByteArray.toList s1 == ByteArray.toList { data := #[] })
 (k [(D.agg [(D.val (Value.string ({ data := #[] }))), D.nil]), (D.val (vI 7))])
 (bcase (decide (0 < (↑n1 : Int)))
 (∃ s2 : ByteArray,
 ((At (cs1) 0 1 [(Value.string (s2))]) ∧
 (((Says C 33 [(D.val (Value.string (s2)))] [(D.val (Value.bool true))]) ∧
 (L 0 [(Prod.mk 2 (Pt 1000 0)), (Prod.mk 4 (Pt 1001 0)), (Prod.mk 5 (Sl 1002 (n1) (n1))), (Prod.mk 6 (Value.slice none 0 0)), (Prod.mk 8 (vI 0))] [(Prod.mk 1000 (AObj.cells [(Value.string ({ data := #[] })), (Value.slice none 0 0)] 25 false 2)), (Prod.mk 1001 (AObj.cells [(Value.string ({ data := #[] })), (Value.slice none 0 0)] 25 false 2)), (Prod.mk 1002 (AObj.sym (cs1) true 1))])) ∨
 ((Says C 33 [(D.val (Value.string (s2)))] [(D.val (Value.bool false))]) ∧
 (k [(D.agg [(D.val (Value.string ({ data := #[] }))), D.nil]), (D.val (vI 4))])))))
 False))))
 False)) ∨
 ((Says C 32 [(D.sl (n1 - 1) 1 (List.take ((n1 - 1) * 1) (List.drop 1 cs1)))] [D.nil, (D.val (Value.bool false))]) ∧
 (k [(D.agg [(D.val (Value.string ({ data := #[] }))), D.nil]), (D.val (vI 7))]))) ∨
 (∃ n2 : Nat,
 (∃ cs2 : List Go.Value,
 (((Says C 32 [(D.sl (n1 - 1) 1 (List.take ((n1 - 1) * 1) (List.drop 1 cs1)))] [(D.sl (n2) 1 (cs2)), (D.val (Value.bool true))]) ∧
 (bcase (decide (0 < (↑n1 : Int)))
 (∃ s1 : ByteArray,
 ((At (cs1) 0 1 [(Value.string (s1))]) ∧
 (bcase (ByteArray.toList s1 == ByteArray.toList { data := #[] })
 (k [(D.agg [(D.val (Value.string ({ data := #[] }))), D.nil]), (D.val (vI 7))])
 (bcase (decide (0 < (↑n1 : Int)))
 (∃ s2 : ByteArray,
 ((At (cs1) 0 1 [(Value.string (s2))]) ∧
 (((Says C 33 [(D.val (Value.string (s2)))] [(D.val (Value.bool true))]) ∧
 (bcase (decide ((↑n2 : Int) > 6))
 (k [(D.agg [(D.val (Value.string ({ data := #[] }))), D.nil]), (D.val (vI 8))])
 (L 0 [(Prod.mk 2 (Pt 1000 0)), (Prod.mk 4 (Pt 1001 0)), (Prod.mk 5 (Sl 1002 (n1) (n1))), (Prod.mk 6 (Sl 1003 (n2) (n2))), (Prod.mk 8 (vI 0))] [(Prod.mk 1000 (AObj.cells [(Value.string ({ data := #[] })), (Value.slice none 0 0)] 25 false 2)), (Prod.mk 1001 (AObj.cells [(Value.string ({ data := #[] })), (Value.slice none 0 0)] 25 false 2)), (Prod.mk 1002 (AObj.sym (cs1) true 1)), (Prod.mk 1003 (AObj.sym (cs2) true 1))]))) ∨
 ((Says C 33 [(D.val (Value.string (s2)))] [(D.val (Value.bool false))]) ∧
 (k [(D.agg [(D.val (Value.string ({ data := #[] }))), D.nil]), (D.val (vI 4))])))))
 False))))
 False)) ∨
 ((Says C 32 [(D.sl (n1 - 1) 1 (List.take ((n1 - 1) * 1) (List.drop 1 cs1)))] [(D.sl (n2) 1 (cs2)), (D.val (Value.bool false))]) ∧
 (k [(D.agg [(D.val (Value.string ({ data := #[] }))), D.nil]), (D.val (vI 7))]))))))
 False)
 False)
 False)
 False))))) := by kernel_rfl
abbrev zrPS1 (n0 : Nat) (x1 : Int) (s2 : ByteArray) (s3 : ByteArray) (l4 : List Value) : Slots × Blocks := ([(2, (Value.pointer (some ⟨1000, 0, none⟩))), (4, (Value.pointer (some ⟨1001, 0, none⟩))), (5, (Value.slice (some ⟨1002, 0, none⟩) n0 n0)), (6, (Value.slice none 0 0)), (8, (Value.int .i64 x1))], [(1000, (AObj.cells [(Value.string s2), (Value.slice none 0 0)] 25 false 2)), (1001, (AObj.cells [(Value.string s3), (Value.slice none 0 0)] 25 false 2)), (1002, (AObj.sym l4 true 1))])
def rrPS1 (C : Ct) (L : AtLoop) (n0 : Nat) (x1 : Int) (s2 : ByteArray) (s3 : ByteArray) (l4 : List Value) (B : Bx) (X : Xx) (k : List D → Prop) : Prop := wpRound Tryz.prog (hX C) L 7 0 [(2, (Value.pointer (some ⟨1000, 0, none⟩))), (4, (Value.pointer (some ⟨1001, 0, none⟩))), (5, (Value.slice (some ⟨1002, 0, none⟩) n0 n0)), (6, (Value.slice none 0 0)), (8, (Value.int .i64 x1))] [(1000, (AObj.cells [(Value.string s2), (Value.slice none 0 0)] 25 false 2)), (1001, (AObj.cells [(Value.string s3), (Value.slice none 0 0)] 25 false 2)), (1002, (AObj.sym l4 true 1))] B X (dataK k)
theorem rrPS1_text (C : Ct) (L : AtLoop) (n0 : Nat) (x1 : Int) (s2 : ByteArray) (s3 : ByteArray) (l4 : List Go.Value) (B : Bx) (X : Xx) (k : List D → Prop) : rrPS1 C L n0 x1 s2 s3 l4 B X k =
 (bcase (decide (x1 < (↑0 : Int)))
 False
 (X 0 [(Prod.mk 2 (Pt 1000 0)), (Prod.mk 5 (Sl 1001 (n0) (n0))), (Prod.mk 6 (Value.slice none 0 0))] [(Prod.mk 1000 (AObj.cells [(Value.string (s2)), (Value.slice none 0 0)] 25 false 2)), (Prod.mk 1001 (AObj.sym (l4) true 1))])) := by kernel_rfl
abbrev zrPS2 (n0 : Nat) (n1 : Nat) (x2 : Int) (s3 : ByteArray) (s4 : ByteArray) (l5 : List Value) (l6 : List Value) : Slots × Blocks := ([(2, (Value.pointer (some ⟨1000, 0, none⟩))), (4, (Value.pointer (some ⟨1001, 0, none⟩))), (5, (Value.slice (some ⟨1002, 0, none⟩) n0 n0)), (6, (Value.slice (some ⟨1003, 0, none⟩) n1 n1)), (8, (Value.int .i64 x2))], [(1000, (AObj.cells [(Value.string s3), (Value.slice none 0 0)] 25 false 2)), (1001, (AObj.cells [(Value.string s4), (Value.slice none 0 0)] 25 false 2)), (1002, (AObj.sym l5 true 1)), (1003, (AObj.sym l6 true 1))])
def rrPS2 (C : Ct) (L : AtLoop) (n0 : Nat) (n1 : Nat) (x2 : Int) (s3 : ByteArray) (s4 : ByteArray) (l5 : List Value) (l6 : List Value) (B : Bx) (X : Xx) (k : List D → Prop) : Prop := wpRound Tryz.prog (hX C) L 7 0 [(2, (Value.pointer (some ⟨1000, 0, none⟩))), (4, (Value.pointer (some ⟨1001, 0, none⟩))), (5, (Value.slice (some ⟨1002, 0, none⟩) n0 n0)), (6, (Value.slice (some ⟨1003, 0, none⟩) n1 n1)), (8, (Value.int .i64 x2))] [(1000, (AObj.cells [(Value.string s3), (Value.slice none 0 0)] 25 false 2)), (1001, (AObj.cells [(Value.string s4), (Value.slice none 0 0)] 25 false 2)), (1002, (AObj.sym l5 true 1)), (1003, (AObj.sym l6 true 1))] B X (dataK k)
theorem rrPS2_text (C : Ct) (L : AtLoop) (n0 : Nat) (n1 : Nat) (x2 : Int) (s3 : ByteArray) (s4 : ByteArray) (l5 : List Go.Value) (l6 : List Go.Value) (B : Bx) (X : Xx) (k : List D → Prop) : rrPS2 C L n0 n1 x2 s3 s4 l5 l6 B X k =
 (bcase (decide (x2 < (↑n1 : Int)))
 (bcase (decide (0 ≤ x2))
 (bcase (decide (x2 < (↑n1 : Int)))
 (∃ n2 : Int,
 ((At (l6) (0 + Int.toNat x2 * 1) 1 [(vI n2)]) ∧
 (((Says C 34 [(D.val (vI n2))] [(D.val (Value.bool true))]) ∧
 (B [(Prod.mk 2 (Pt 1000 0)), (Prod.mk 4 (Pt 1001 0)), (Prod.mk 5 (Sl 1002 (n0) (n0))), (Prod.mk 6 (Sl 1003 (n1) (n1))), (Prod.mk 8 (vI (IntKind.wrap .i64 (x2 + 1))))] [(Prod.mk 1000 (AObj.cells [(Value.string (s3)), (Value.slice none 0 0)] 25 false 2)), (Prod.mk 1001 (AObj.cells [(Value.string (s4)), (Value.slice none 0 0)] 25 false 2)), (Prod.mk 1002 (AObj.sym (l5) true 1)), (Prod.mk 1003 (AObj.sym (l6) true 1))])) ∨
 ((Says C 34 [(D.val (vI n2))] [(D.val (Value.bool false))]) ∧
 (k [(D.agg [(D.val (Value.string (s4))), D.nil]), (D.val (vI 2))])))))
 False)
 False)
 (X 0 [(Prod.mk 2 (Pt 1000 0)), (Prod.mk 5 (Sl 1001 (n0) (n0))), (Prod.mk 6 (Sl 1002 (n1) (n1)))] [(Prod.mk 1000 (AObj.cells [(Value.string (s3)), (Value.slice none 0 0)] 25 false 2)), (Prod.mk 1001 (AObj.sym (l5) true 1)), (Prod.mk 1002 (AObj.sym (l6) true 1))])) := by kernel_rfl
def nrPS3 (C : Ct) (L : AtLoop) (n0 : Nat) (s1 : ByteArray) (l2 : List Value) (k : List D → Prop) : Prop := wpNext Tryz.prog (hX C) L 7 0 .normal [(2, (Value.pointer (some ⟨1000, 0, none⟩))), (5, (Value.slice (some ⟨1001, 0, none⟩) n0 n0)), (6, (Value.slice none 0 0))] [(1000, (AObj.cells [(Value.string s1), (Value.slice none 0 0)] 25 false 2)), (1001, (AObj.sym l2 true 1))] (dataK k)
theorem nrPS3_text (C : Ct) (L : AtLoop) (n0 : Nat) (s1 : ByteArray) (l2 : List Go.Value) (k : List D → Prop) : nrPS3 C L n0 s1 l2 k =
 (bcase (decide (0 < (↑n0 : Int)))
 (∃ s2 : ByteArray,
 ((At (l2) 0 1 [(Value.string (s2))]) ∧
 (k [(D.agg [(D.val (Value.string (s2))), D.nil]), (D.val (vI 0))])))
 False) := by kernel_rfl
def nrPS4 (C : Ct) (L : AtLoop) (n0 : Nat) (n1 : Nat) (s2 : ByteArray) (l3 : List Value) (l4 : List Value) (k : List D → Prop) : Prop := wpNext Tryz.prog (hX C) L 7 0 .normal [(2, (Value.pointer (some ⟨1000, 0, none⟩))), (5, (Value.slice (some ⟨1001, 0, none⟩) n0 n0)), (6, (Value.slice (some ⟨1002, 0, none⟩) n1 n1))] [(1000, (AObj.cells [(Value.string s2), (Value.slice none 0 0)] 25 false 2)), (1001, (AObj.sym l3 true 1)), (1002, (AObj.sym l4 true 1))] (dataK k)
theorem nrPS4_text (C : Ct) (L : AtLoop) (n0 : Nat) (n1 : Nat) (s2 : ByteArray) (l3 : List Go.Value) (l4 : List Go.Value) (k : List D → Prop) : nrPS4 C L n0 n1 s2 l3 l4 k =
 (bcase (decide (0 < (↑n0 : Int)))
 (∃ s1 : ByteArray,
 ((At (l3) 0 1 [(Value.string (s1))]) ∧
 (((Qv (n1)) ∧
 ((List.length l4) = (n1 * 1))) ∧
 (k [(D.agg [(D.val (Value.string (s1))), (D.sl (n1) 1 (l4))]), (D.val (vI 0))]))))
 False) := by kernel_rfl
def giT (C : Ct) (L : AtLoop) (x0 : Int) (k : List D → Prop) : Prop := wpFn Tryz.prog (hX C) L 0 34 #[.int .i64 x0] (heapOf []) (dataK k)
theorem giT_text (C : Ct) (L : AtLoop) (x0 : Int) (k : List D → Prop) : giT C L x0 k =
 (((Says C 64 [(D.val (vI x0)), (D.val (vI 1)), (D.val (vI 1000))] [(D.val (Value.bool true))]) ∧
 (k [(D.val (Value.bool true))])) ∨
 ((Says C 64 [(D.val (vI x0)), (D.val (vI 1)), (D.val (vI 1000))] [(D.val (Value.bool false))]) ∧
 (k [(D.val (Value.bool false))]))) := by kernel_rfl
def gCCn (C : Ct) (L : AtLoop) (k : List D → Prop) : Prop := wpFn Tryz.prog (hP C) L 0 61 #[.slice none 0 0] (heapOf []) (dataK k)
theorem gCCn_text (C : Ct) (L : AtLoop) (k : List D → Prop) : gCCn C L k =
 (k [(D.val (vI 10))]) := by kernel_rfl
def gKRn (C : Ct) (L : AtLoop) (x0 : Int) (x1 : Int) (x2 : Int) (x3 : Int) (x4 : Int) (x5 : Int) (x7 : Int) (x8 : Int) (x9 : Int) (x10 : Int) (k : List D → Prop) : Prop := wpFn Tryz.prog (hP C) L 0 30 #[.agg #[.int .i64 x0, .int .i64 x1, .int .i64 x2, .int .i64 x3, .int .i64 x4, .int .i64 x5, .slice none 0 0, .int .i64 x7, .int .i64 x8, .int .i64 x9, .int .i64 x10]] (heapOf []) (dataK k)
theorem gKRn_text (C : Ct) (L : AtLoop) (x0 : Int) (x1 : Int) (x2 : Int) (x3 : Int) (x4 : Int) (x5 : Int) (x7 : Int) (x8 : Int) (x9 : Int) (x10 : Int) (k : List D → Prop) : gKRn C L x0 x1 x2 x3 x4 x5 x7 x8 x9 x10 k =
 (((Qv (Value.slice none 0 0)) ∧
 ((Qv (Pt 1000 6)) ∧
 (((Qv (Sl 1006 4 4)) ∧
 (Qv (some (AObj.cells [(vI x2), (vI x1), (vI x3), (vI x4), (vI x7), (vI x8), (vI x9), (vI x10)] 30 false 2)))) ∧
 ((Qv (Value.agg [(vI x9), (vI x10)].toArray)) ∧
 ((Qv (Pt 1000 9)) ∧
 ((Qv (Value.agg [(vI x7), (vI x8)].toArray)) ∧
 ((Qv (Pt 1000 7)) ∧
 ((Qv (Value.agg [(vI x3), (vI x4)].toArray)) ∧
 ((Qv (Pt 1000 3)) ∧
 ((Qv (Value.agg [(vI x2), (vI x1)].toArray)) ∧
 ((Qv (vI x1)) ∧
 ((Qv (Pt 1000 1)) ∧
 ((Qv (vI x2)) ∧
 ((Qv (Pt 1000 2)) ∧
 (((Qv (Sl 1005 2 2)) ∧
 (Qv (some (AObj.cells [(vI x9), (vI x10)] 3 false 1)))) ∧
 ((Qv (vI x10)) ∧
 ((Qv (Pt 1000 10)) ∧
 ((Qv (Pt 1000 9)) ∧
 ((Qv (vI x9)) ∧
 ((Qv (Pt 1000 9)) ∧
 ((Qv (Pt 1000 9)) ∧
 (((Qv (Sl 1004 2 2)) ∧
 (Qv (some (AObj.cells [(vI x7), (vI x8)] 3 false 1)))) ∧
 ((Qv (vI x8)) ∧
 ((Qv (Pt 1000 8)) ∧
 ((Qv (Pt 1000 7)) ∧
 ((Qv (vI x7)) ∧
 ((Qv (Pt 1000 7)) ∧
 ((Qv (Pt 1000 7)) ∧
 (((Qv (Sl 1003 3 3)) ∧
 (Qv (some (AObj.cells [(vI x3), (vI x4), (vI x5)] 3 false 1)))) ∧
 ((Qv (vI x5)) ∧
 ((Qv (Pt 1000 5)) ∧
 ((Qv (vI x4)) ∧
 ((Qv (Pt 1000 4)) ∧
 ((Qv (Pt 1000 3)) ∧
 ((Qv (vI x3)) ∧
 ((Qv (Pt 1000 3)) ∧
 ((Qv (Pt 1000 3)) ∧
 (((Qv (Sl 1002 2 2)) ∧
 (Qv (some (AObj.cells [(vI x1), (vI x2)] 3 false 1)))) ∧
 ((Qv (vI x2)) ∧
 ((Qv (Pt 1000 2)) ∧
 ((Qv (vI x1)) ∧
 ((Qv (Pt 1000 1)) ∧
 (((Qv (Sl 1001 1 1)) ∧
 (Qv (some (AObj.cells [(vI x0)] 3 false 1)))) ∧
 ((Qv (vI x0)) ∧
 ((Qv (Pt 1000 0)) ∧
 True))))))))))))))))))))))))))))))))))))))))))))) ∧
 (∃ n1 : Int,
 ((Says C 48 [(D.val (vI 1)), (D.val (vI 2500)), (D.sl 1 1 [(vI x0)])] [(D.val (vI n1))]) ∧
 (((Qv (Value.slice none 0 0)) ∧
 ((Qv (Pt 1000 6)) ∧
 (((Qv (Sl 1006 4 4)) ∧
 (Qv (some (AObj.cells [(vI x2), (vI x1), (vI x3), (vI x4), (vI x7), (vI x8), (vI x9), (vI x10)] 30 false 2)))) ∧
 ((Qv (Value.agg [(vI x9), (vI x10)].toArray)) ∧
 ((Qv (Pt 1000 9)) ∧
 ((Qv (Value.agg [(vI x7), (vI x8)].toArray)) ∧
 ((Qv (Pt 1000 7)) ∧
 ((Qv (Value.agg [(vI x3), (vI x4)].toArray)) ∧
 ((Qv (Pt 1000 3)) ∧
 ((Qv (Value.agg [(vI x2), (vI x1)].toArray)) ∧
 ((Qv (vI x1)) ∧
 ((Qv (Pt 1000 1)) ∧
 ((Qv (vI x2)) ∧
 ((Qv (Pt 1000 2)) ∧
 (((Qv (Sl 1005 2 2)) ∧
 (Qv (some (AObj.cells [(vI x9), (vI x10)] 3 false 1)))) ∧
 ((Qv (vI x10)) ∧
 ((Qv (Pt 1000 10)) ∧
 ((Qv (Pt 1000 9)) ∧
 ((Qv (vI x9)) ∧
 ((Qv (Pt 1000 9)) ∧
 ((Qv (Pt 1000 9)) ∧
 (((Qv (Sl 1004 2 2)) ∧
 (Qv (some (AObj.cells [(vI x7), (vI x8)] 3 false 1)))) ∧
 ((Qv (vI x8)) ∧
 ((Qv (Pt 1000 8)) ∧
 ((Qv (Pt 1000 7)) ∧
 ((Qv (vI x7)) ∧
 ((Qv (Pt 1000 7)) ∧
 ((Qv (Pt 1000 7)) ∧
 (((Qv (Sl 1003 3 3)) ∧
 (Qv (some (AObj.cells [(vI x3), (vI x4), (vI x5)] 3 false 1)))) ∧
 ((Qv (vI x5)) ∧
 ((Qv (Pt 1000 5)) ∧
 ((Qv (vI x4)) ∧
 ((Qv (Pt 1000 4)) ∧
 ((Qv (Pt 1000 3)) ∧
 ((Qv (vI x3)) ∧
 ((Qv (Pt 1000 3)) ∧
 ((Qv (Pt 1000 3)) ∧
 (((Qv (Sl 1002 2 2)) ∧
 (Qv (some (AObj.cells [(vI x1), (vI x2)] 3 false 1)))) ∧
 ((Qv (vI x2)) ∧
 ((Qv (Pt 1000 2)) ∧
 ((Qv (vI x1)) ∧
 ((Qv (Pt 1000 1)) ∧
 ((Qv (vI x0)) ∧
 ((Qv (Pt 1000 0)) ∧
 True)))))))))))))))))))))))))))))))))))))))))))) ∧
 (∃ n2 : Int,
 ((Says C 48 [(D.val (vI 1)), (D.val (vI 1000)), (D.sl 2 1 [(vI x1), (vI x2)])] [(D.val (vI n2))]) ∧
 (((Qv (Value.slice none 0 0)) ∧
 ((Qv (Pt 1000 6)) ∧
 (((Qv (Sl 1006 4 4)) ∧
 (Qv (some (AObj.cells [(vI x2), (vI x1), (vI x3), (vI x4), (vI x7), (vI x8), (vI x9), (vI x10)] 30 false 2)))) ∧
 ((Qv (Value.agg [(vI x9), (vI x10)].toArray)) ∧
 ((Qv (Pt 1000 9)) ∧
 ((Qv (Value.agg [(vI x7), (vI x8)].toArray)) ∧
 ((Qv (Pt 1000 7)) ∧
 ((Qv (Value.agg [(vI x3), (vI x4)].toArray)) ∧
 ((Qv (Pt 1000 3)) ∧
 ((Qv (Value.agg [(vI x2), (vI x1)].toArray)) ∧
 ((Qv (vI x1)) ∧
 ((Qv (Pt 1000 1)) ∧
 ((Qv (vI x2)) ∧
 ((Qv (Pt 1000 2)) ∧
 (((Qv (Sl 1005 2 2)) ∧
 (Qv (some (AObj.cells [(vI x9), (vI x10)] 3 false 1)))) ∧
 ((Qv (vI x10)) ∧
 ((Qv (Pt 1000 10)) ∧
 ((Qv (Pt 1000 9)) ∧
 ((Qv (vI x9)) ∧
 ((Qv (Pt 1000 9)) ∧
 ((Qv (Pt 1000 9)) ∧
 (((Qv (Sl 1004 2 2)) ∧
 (Qv (some (AObj.cells [(vI x7), (vI x8)] 3 false 1)))) ∧
 ((Qv (vI x8)) ∧
 ((Qv (Pt 1000 8)) ∧
 ((Qv (Pt 1000 7)) ∧
 ((Qv (vI x7)) ∧
 ((Qv (Pt 1000 7)) ∧
 ((Qv (Pt 1000 7)) ∧
 (((Qv (Sl 1003 3 3)) ∧
 (Qv (some (AObj.cells [(vI x3), (vI x4), (vI x5)] 3 false 1)))) ∧
 ((Qv (vI x5)) ∧
 ((Qv (Pt 1000 5)) ∧
 ((Qv (vI x4)) ∧
 ((Qv (Pt 1000 4)) ∧
 ((Qv (Pt 1000 3)) ∧
 ((Qv (vI x3)) ∧
 ((Qv (Pt 1000 3)) ∧
 ((Qv (Pt 1000 3)) ∧
 ((Qv (vI x2)) ∧
 ((Qv (Pt 1000 2)) ∧
 ((Qv (vI x1)) ∧
 ((Qv (Pt 1000 1)) ∧
 ((Qv (vI x0)) ∧
 ((Qv (Pt 1000 0)) ∧
 True))))))))))))))))))))))))))))))))))))))))))) ∧
 (∃ n3 : Int,
 ((Says C 48 [(D.val (vI 0)), (D.val (vI 20000)), (D.sl 3 1 [(vI x3), (vI x4), (vI x5)])] [(D.val (vI n3))]) ∧
 (((Qv (Value.slice none 0 0)) ∧
 ((Qv (Pt 1000 6)) ∧
 (((Qv (Sl 1006 4 4)) ∧
 (Qv (some (AObj.cells [(vI x2), (vI x1), (vI x3), (vI x4), (vI x7), (vI x8), (vI x9), (vI x10)] 30 false 2)))) ∧
 ((Qv (Value.agg [(vI x9), (vI x10)].toArray)) ∧
 ((Qv (Pt 1000 9)) ∧
 ((Qv (Value.agg [(vI x7), (vI x8)].toArray)) ∧
 ((Qv (Pt 1000 7)) ∧
 ((Qv (Value.agg [(vI x3), (vI x4)].toArray)) ∧
 ((Qv (Pt 1000 3)) ∧
 ((Qv (Value.agg [(vI x2), (vI x1)].toArray)) ∧
 ((Qv (vI x1)) ∧
 ((Qv (Pt 1000 1)) ∧
 ((Qv (vI x2)) ∧
 ((Qv (Pt 1000 2)) ∧
 (((Qv (Sl 1005 2 2)) ∧
 (Qv (some (AObj.cells [(vI x9), (vI x10)] 3 false 1)))) ∧
 ((Qv (vI x10)) ∧
 ((Qv (Pt 1000 10)) ∧
 ((Qv (Pt 1000 9)) ∧
 ((Qv (vI x9)) ∧
 ((Qv (Pt 1000 9)) ∧
 ((Qv (Pt 1000 9)) ∧
 (((Qv (Sl 1004 2 2)) ∧
 (Qv (some (AObj.cells [(vI x7), (vI x8)] 3 false 1)))) ∧
 ((Qv (vI x8)) ∧
 ((Qv (Pt 1000 8)) ∧
 ((Qv (Pt 1000 7)) ∧
 ((Qv (vI x7)) ∧
 ((Qv (Pt 1000 7)) ∧
 ((Qv (Pt 1000 7)) ∧
 ((Qv (vI x5)) ∧
 ((Qv (Pt 1000 5)) ∧
 ((Qv (vI x4)) ∧
 ((Qv (Pt 1000 4)) ∧
 ((Qv (Pt 1000 3)) ∧
 ((Qv (vI x3)) ∧
 ((Qv (Pt 1000 3)) ∧
 ((Qv (Pt 1000 3)) ∧
 ((Qv (vI x2)) ∧
 ((Qv (Pt 1000 2)) ∧
 ((Qv (vI x1)) ∧
 ((Qv (Pt 1000 1)) ∧
 ((Qv (vI x0)) ∧
 ((Qv (Pt 1000 0)) ∧
 True)))))))))))))))))))))))))))))))))))))))))) ∧
 (∃ n4 : Int,
 ((Says C 48 [(D.val (vI 1)), (D.val (vI 100)), (D.sl 2 1 [(vI x7), (vI x8)])] [(D.val (vI n4))]) ∧
 (((Qv (Value.slice none 0 0)) ∧
 ((Qv (Pt 1000 6)) ∧
 (((Qv (Sl 1006 4 4)) ∧
 (Qv (some (AObj.cells [(vI x2), (vI x1), (vI x3), (vI x4), (vI x7), (vI x8), (vI x9), (vI x10)] 30 false 2)))) ∧
 ((Qv (Value.agg [(vI x9), (vI x10)].toArray)) ∧
 ((Qv (Pt 1000 9)) ∧
 ((Qv (Value.agg [(vI x7), (vI x8)].toArray)) ∧
 ((Qv (Pt 1000 7)) ∧
 ((Qv (Value.agg [(vI x3), (vI x4)].toArray)) ∧
 ((Qv (Pt 1000 3)) ∧
 ((Qv (Value.agg [(vI x2), (vI x1)].toArray)) ∧
 ((Qv (vI x1)) ∧
 ((Qv (Pt 1000 1)) ∧
 ((Qv (vI x2)) ∧
 ((Qv (Pt 1000 2)) ∧
 (((Qv (Sl 1005 2 2)) ∧
 (Qv (some (AObj.cells [(vI x9), (vI x10)] 3 false 1)))) ∧
 ((Qv (vI x10)) ∧
 ((Qv (Pt 1000 10)) ∧
 ((Qv (Pt 1000 9)) ∧
 ((Qv (vI x9)) ∧
 ((Qv (Pt 1000 9)) ∧
 ((Qv (Pt 1000 9)) ∧
 ((Qv (vI x8)) ∧
 ((Qv (Pt 1000 8)) ∧
 ((Qv (Pt 1000 7)) ∧
 ((Qv (vI x7)) ∧
 ((Qv (Pt 1000 7)) ∧
 ((Qv (Pt 1000 7)) ∧
 ((Qv (vI x5)) ∧
 ((Qv (Pt 1000 5)) ∧
 ((Qv (vI x4)) ∧
 ((Qv (Pt 1000 4)) ∧
 ((Qv (Pt 1000 3)) ∧
 ((Qv (vI x3)) ∧
 ((Qv (Pt 1000 3)) ∧
 ((Qv (Pt 1000 3)) ∧
 ((Qv (vI x2)) ∧
 ((Qv (Pt 1000 2)) ∧
 ((Qv (vI x1)) ∧
 ((Qv (Pt 1000 1)) ∧
 ((Qv (vI x0)) ∧
 ((Qv (Pt 1000 0)) ∧
 True))))))))))))))))))))))))))))))))))))))))) ∧
 (∃ n5 : Int,
 ((Says C 48 [(D.val (vI 0)), (D.val (vI 100)), (D.sl 2 1 [(vI x9), (vI x10)])] [(D.val (vI n5))]) ∧
 (((Qv (Value.slice none 0 0)) ∧
 ((Qv (Pt 1000 6)) ∧
 (((Qv (Sl 1006 4 4)) ∧
 (Qv (some (AObj.cells [(vI x2), (vI x1), (vI x3), (vI x4), (vI x7), (vI x8), (vI x9), (vI x10)] 30 false 2)))) ∧
 ((Qv (Value.agg [(vI x9), (vI x10)].toArray)) ∧
 ((Qv (Pt 1000 9)) ∧
 ((Qv (Value.agg [(vI x7), (vI x8)].toArray)) ∧
 ((Qv (Pt 1000 7)) ∧
 ((Qv (Value.agg [(vI x3), (vI x4)].toArray)) ∧
 ((Qv (Pt 1000 3)) ∧
 ((Qv (Value.agg [(vI x2), (vI x1)].toArray)) ∧
 ((Qv (vI x1)) ∧
 ((Qv (Pt 1000 1)) ∧
 ((Qv (vI x2)) ∧
 ((Qv (Pt 1000 2)) ∧
 ((Qv (vI x10)) ∧
 ((Qv (Pt 1000 10)) ∧
 ((Qv (Pt 1000 9)) ∧
 ((Qv (vI x9)) ∧
 ((Qv (Pt 1000 9)) ∧
 ((Qv (Pt 1000 9)) ∧
 ((Qv (vI x8)) ∧
 ((Qv (Pt 1000 8)) ∧
 ((Qv (Pt 1000 7)) ∧
 ((Qv (vI x7)) ∧
 ((Qv (Pt 1000 7)) ∧
 ((Qv (Pt 1000 7)) ∧
 ((Qv (vI x5)) ∧
 ((Qv (Pt 1000 5)) ∧
 ((Qv (vI x4)) ∧
 ((Qv (Pt 1000 4)) ∧
 ((Qv (Pt 1000 3)) ∧
 ((Qv (vI x3)) ∧
 ((Qv (Pt 1000 3)) ∧
 ((Qv (Pt 1000 3)) ∧
 ((Qv (vI x2)) ∧
 ((Qv (Pt 1000 2)) ∧
 ((Qv (vI x1)) ∧
 ((Qv (Pt 1000 1)) ∧
 ((Qv (vI x0)) ∧
 ((Qv (Pt 1000 0)) ∧
 True)))))))))))))))))))))))))))))))))))))))) ∧
 (∃ n6 : Int,
 ((Says C 60 [(D.sl 4 2 [(vI x2), (vI x1), (vI x3), (vI x4), (vI x7), (vI x8), (vI x9), (vI x10)])] [(D.val (vI n6))]) ∧
 (((Qv (Value.slice none 0 0)) ∧
 ((Qv (Pt 1000 6)) ∧
 ((Qv (Value.agg [(vI x9), (vI x10)].toArray)) ∧
 ((Qv (Pt 1000 9)) ∧
 ((Qv (Value.agg [(vI x7), (vI x8)].toArray)) ∧
 ((Qv (Pt 1000 7)) ∧
 ((Qv (Value.agg [(vI x3), (vI x4)].toArray)) ∧
 ((Qv (Pt 1000 3)) ∧
 ((Qv (Value.agg [(vI x2), (vI x1)].toArray)) ∧
 ((Qv (vI x1)) ∧
 ((Qv (Pt 1000 1)) ∧
 ((Qv (vI x2)) ∧
 ((Qv (Pt 1000 2)) ∧
 ((Qv (vI x10)) ∧
 ((Qv (Pt 1000 10)) ∧
 ((Qv (Pt 1000 9)) ∧
 ((Qv (vI x9)) ∧
 ((Qv (Pt 1000 9)) ∧
 ((Qv (Pt 1000 9)) ∧
 ((Qv (vI x8)) ∧
 ((Qv (Pt 1000 8)) ∧
 ((Qv (Pt 1000 7)) ∧
 ((Qv (vI x7)) ∧
 ((Qv (Pt 1000 7)) ∧
 ((Qv (Pt 1000 7)) ∧
 ((Qv (vI x5)) ∧
 ((Qv (Pt 1000 5)) ∧
 ((Qv (vI x4)) ∧
 ((Qv (Pt 1000 4)) ∧
 ((Qv (Pt 1000 3)) ∧
 ((Qv (vI x3)) ∧
 ((Qv (Pt 1000 3)) ∧
 ((Qv (Pt 1000 3)) ∧
 ((Qv (vI x2)) ∧
 ((Qv (Pt 1000 2)) ∧
 ((Qv (vI x1)) ∧
 ((Qv (Pt 1000 1)) ∧
 ((Qv (vI x0)) ∧
 ((Qv (Pt 1000 0)) ∧
 True))))))))))))))))))))))))))))))))))))))) ∧
 (∃ n7 : Int,
 ((Says C 61 [D.nil] [(D.val (vI n7))]) ∧
 ((((Qv (Sl 1007 7 7)) ∧
 (Qv (some (AObj.cells [(vI n1), (vI n2), (vI n3), (vI n4), (vI n5), (vI n6), (vI n7)] 26 false 1)))) ∧
 ((Qv (Pt 1000 6)) ∧
 ((Qv (Value.agg [(vI x9), (vI x10)].toArray)) ∧
 ((Qv (Pt 1000 9)) ∧
 ((Qv (Value.agg [(vI x7), (vI x8)].toArray)) ∧
 ((Qv (Pt 1000 7)) ∧
 ((Qv (Value.agg [(vI x3), (vI x4)].toArray)) ∧
 ((Qv (Pt 1000 3)) ∧
 ((Qv (Value.agg [(vI x2), (vI x1)].toArray)) ∧
 ((Qv (vI x1)) ∧
 ((Qv (Pt 1000 1)) ∧
 ((Qv (vI x2)) ∧
 ((Qv (Pt 1000 2)) ∧
 ((Qv (vI x10)) ∧
 ((Qv (Pt 1000 10)) ∧
 ((Qv (Pt 1000 9)) ∧
 ((Qv (vI x9)) ∧
 ((Qv (Pt 1000 9)) ∧
 ((Qv (Pt 1000 9)) ∧
 ((Qv (vI x8)) ∧
 ((Qv (Pt 1000 8)) ∧
 ((Qv (Pt 1000 7)) ∧
 ((Qv (vI x7)) ∧
 ((Qv (Pt 1000 7)) ∧
 ((Qv (Pt 1000 7)) ∧
 ((Qv (vI x5)) ∧
 ((Qv (Pt 1000 5)) ∧
 ((Qv (vI x4)) ∧
 ((Qv (Pt 1000 4)) ∧
 ((Qv (Pt 1000 3)) ∧
 ((Qv (vI x3)) ∧
 ((Qv (Pt 1000 3)) ∧
 ((Qv (Pt 1000 3)) ∧
 ((Qv (vI x2)) ∧
 ((Qv (Pt 1000 2)) ∧
 ((Qv (vI x1)) ∧
 ((Qv (Pt 1000 1)) ∧
 ((Qv (vI x0)) ∧
 ((Qv (Pt 1000 0)) ∧
 True))))))))))))))))))))))))))))))))))))))) ∧
 (∃ n8 : Int,
 ((Says C 47 [(D.sl 7 1 [(vI n1), (vI n2), (vI n3), (vI n4), (vI n5), (vI n6), (vI n7)])] [(D.val (vI n8))]) ∧
 (((Qv (Pt 1000 6)) ∧
 ((Qv (Value.agg [(vI x9), (vI x10)].toArray)) ∧
 ((Qv (Pt 1000 9)) ∧
 ((Qv (Value.agg [(vI x7), (vI x8)].toArray)) ∧
 ((Qv (Pt 1000 7)) ∧
 ((Qv (Value.agg [(vI x3), (vI x4)].toArray)) ∧
 ((Qv (Pt 1000 3)) ∧
 ((Qv (Value.agg [(vI x2), (vI x1)].toArray)) ∧
 ((Qv (vI x1)) ∧
 ((Qv (Pt 1000 1)) ∧
 ((Qv (vI x2)) ∧
 ((Qv (Pt 1000 2)) ∧
 ((Qv (vI x10)) ∧
 ((Qv (Pt 1000 10)) ∧
 ((Qv (Pt 1000 9)) ∧
 ((Qv (vI x9)) ∧
 ((Qv (Pt 1000 9)) ∧
 ((Qv (Pt 1000 9)) ∧
 ((Qv (vI x8)) ∧
 ((Qv (Pt 1000 8)) ∧
 ((Qv (Pt 1000 7)) ∧
 ((Qv (vI x7)) ∧
 ((Qv (Pt 1000 7)) ∧
 ((Qv (Pt 1000 7)) ∧
 ((Qv (vI x5)) ∧
 ((Qv (Pt 1000 5)) ∧
 ((Qv (vI x4)) ∧
 ((Qv (Pt 1000 4)) ∧
 ((Qv (Pt 1000 3)) ∧
 ((Qv (vI x3)) ∧
 ((Qv (Pt 1000 3)) ∧
 ((Qv (Pt 1000 3)) ∧
 ((Qv (vI x2)) ∧
 ((Qv (Pt 1000 2)) ∧
 ((Qv (vI x1)) ∧
 ((Qv (Pt 1000 1)) ∧
 ((Qv (vI x0)) ∧
 ((Qv (Pt 1000 0)) ∧
 True)))))))))))))))))))))))))))))))))))))) ∧
 (True ∧
 (bcase (n8 != 0)
 (k [(D.val (vI 0)), (D.val (vI n8))])
 (L 0 [(Prod.mk 66 (Value.slice none 0 0)), (Prod.mk 67 (vI 0)), (Prod.mk 68 (vI 0))] [])))))))))))))))))))))))))))) := by kernel_rfl
end Go.Proofs.G5m
