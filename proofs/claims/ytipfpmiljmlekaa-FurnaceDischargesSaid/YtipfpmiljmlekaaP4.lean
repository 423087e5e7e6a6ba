/- Texts of the proof, put together: AbsSame, AbsFrame, AbsState, AbsX, AbsPairs, AbsLimD, AbsShort, GjHT, AbsTab, AbsNum, AbsLow, G2H, G2I, GjEH1, AbsGood, GjEHK0. -/
import Derived.Test.YtipfpmiljmlekaaP3
import Derived.Test.YtipfpmiljmlekaaProg
import Derived.Lib.LaidTab
import Derived.Lib.ItoaNum
import Derived.Test.YtipfpmiljmlekaaRows
import Derived.Handed
import Derived.JoinedCond
/- A call that gives back what it was handed: it holds. -/
namespace Go.Abs
open Go.RowKit
variable {P : Program} {H : Heap}
theorem layC_out : ∀ (ds : List D) {H : Heap} {k : List Value → Heap → Prop}, layC ds H k → ∃ vs H', LaidC H ds vs H' ∧ k vs H'
  | [], H, k, h => ⟨_, _, .nil H, h⟩
  | .nil :: r, H, k, h => by
    obtain ⟨vs, H', h1, h2⟩ := layC_out r h
    exact ⟨_, _, .nilS h1, h2⟩
  | .sl n es cs :: r, H, k, h => by
    obtain ⟨vs, H', h1, h2⟩ := layC_out r h
    exact ⟨_, _, .sl n es cs h1, h2⟩
  | .val v :: r, H, k, h => by
    unfold layC at h
    split at h
    · cases h
    · rename_i hv
      obtain ⟨vs, H', h1, h2⟩ := layC_out r h
      exact ⟨_, _, .val _ (fun cs e => hv cs e) h1, h2⟩
  | .agg _ :: _, H, k, h => by cases h
theorem layV_out : ∀ (ds : List D) {H : Heap} {k : List Value → Heap → Prop}, layV ds H k → ∃ vs H', LaidV H ds vs H' ∧ k vs H'
  | [], H, k, h => ⟨_, _, .nil H, h⟩
  | d :: r, H, k, h => by
    unfold layV at h
    split at h
    · rename_i e; cases e
    · rename_i e; cases e
      obtain ⟨vs, H1, h1, h⟩ := layC_out _ h
      obtain ⟨us, H2, h2, h3⟩ := layV_out _ h
      exact ⟨_, _, .agg h1 h2, h3⟩
    · rename_i e; cases e
      obtain ⟨vs, H1, h1, h⟩ := layC_out _ h
      split at h
      · obtain ⟨us, H2, h2, h3⟩ := layV_out _ h
        exact ⟨_, _, .one h1 h2, h3⟩
      · cases h
theorem wpFix_call {C : FuncId → List D → List D → Prop} (hC : ∀ f ds rs, C f ds rs → Con P f ds rs) {f : FuncId} {fix : List D → Option (List D)} {args : Array Value} {k : Value → Heap → Prop} (hk : wpFix C f fix args H k) : CallH P f args H k := by
  intro w0 ρ w args' n g ha
  obtain ⟨ds, hr, hk⟩ := readVals_out g _ ha hk
  split at hk
  · rename_i rs _
    obtain ⟨hs, hk⟩ := hk
    obtain ⟨vs, H', hl, hk⟩ := layV_out rs hk
    refine callsIn_wide.2 ((hC f ds rs hs.out w args' g.good hr).mono ?_)
    rintro e w' ⟨⟨vs', u, rfl, hg⟩, hb⟩
    obtain ⟨ρ', g', l', e', _, _⟩ := laidV_sound hl (g.grow hb) (g.growB hb) g.below.size (fun i m hm => .inl (g.own i m hm).1) hg
    exact ⟨_, H', ρ', _, hk, rfl, tupleOf_R l', g', e'⟩
  · exact hk.elim
end Go.Abs

/- A call that is met by what it does to the blocks that it reaches: it is sound. -/
namespace Go.Abs
open Go.RowKit
variable {P : Program} {ρ : Ren} {w0 : Start P} {w : World} {H : Heap}

/-- A call, by the blocks that its arguments reach. -/
def CallS (P : Program) (f : FuncId) (args : List Value) (bs : Blocks) (K : Value → Blocks → Prop) : Prop :=
  ∀ (w0 : Start P) (ρ : Ren) (w : World) (args' : Array Value) (n : Nat), Gam w0 ρ (heapOf bs) w → LR ρ args args'.toList →
    CallsIn Fence.wide n P f args' w fun e w' => ∃ v bs' ρ' v', K v bs' ∧ e = .returned v' ∧ VR ρ' v v' ∧ Gam w0 ρ' (heapOf bs') w'

/-! ### Renaming, once more (numbers change anyhow; the globals stay) -/
structure MuS (μ : Mu) : Prop where
  snd : (μ.map (·.2)).Nodup
  glb : ∀ i j, (i, j) ∈ μ → i < abase → j = i
variable {μ : Mu}
theorem mapV_S (ok : MuS μ) : ∀ (n : Nat) (v v' : Value), VR ρ v v' → VR (μ.ren ρ) (mapV μ n v) v'
  | 0, v, v', _ => .unknown _ _
  | n + 1, v, v', h => by
    have ih := mapV_S ok n
    cases h with
    | bool b => exact .bool b
    | int k n => exact .int k n
    | float k n => exact .float k n
    | complex k n m => exact .complex k n m
    | string s => exact .string s
    | nilFunc => exact .nilFunc
    | nilIface => exact .nilIface
    | nilPtr => exact .nilPtr
    | nilSlice l c => exact .nilSlice l c
    | nilMap => exact .nilMap
    | unknown r v => unfold mapV; exact .unknown _ _
    | glob g k hg =>
      simp only [mapV]
      cases hm : μ.find g with
      | none => exact .unknown _ _
      | some j =>
        have hj : j = g := ok.glb _ _ (Mu.find_mem hm) hg
        subst hj
        exact .glob _ k hg
    | ptr i k m hm =>
      simp only [mapV]
      cases hf : μ.find i with
      | none => exact .unknown _ _
      | some j => exact .ptr j k m (by rw [Mu.ren_of ok.snd (Mu.find_mem hf)]; exact hm)
    | map i m hm =>
      simp only [mapV]
      cases hf : μ.find i with
      | none => exact .unknown _ _
      | some j => exact .map j m (by rw [Mu.ren_of ok.snd (Mu.find_mem hf)]; exact hm)
    | slice i k len cap m hm ho hl =>
      simp only [mapV]
      cases hf : μ.find i with
      | none => exact .unknown _ _
      | some j => exact .slice j k len cap m (by rw [Mu.ren_of ok.snd (Mu.find_mem hf)]; exact hm) ho hl
    | opened i k len cap capC m hm ho hc hs hl =>
      simp only [mapV]
      cases hf : μ.find i with
      | none => exact .unknown _ _
      | some j => exact .opened j k len cap capC m (by rw [Mu.ren_of ok.snd (Mu.find_mem hf)]; exact hm) ho hc hs hl
    | empty i k off m hm ho hz =>
      simp only [mapV]
      cases hf : μ.find i with
      | none => exact .unknown _ _
      | some j => exact .empty j k off m (by rw [Mu.ren_of ok.snd (Mu.find_mem hf)]; exact hm) ho hz
    | func f a b a' b' ha hb ra rb =>
      simp only [mapV]
      refine VR.func' ?_ ?_
      · simpa using LR.map_left ih (LR.of_arr ha ra)
      · simpa using LR.map_left ih (LR.of_arr hb rb)
    | yield l m hm =>
      simp only [mapV]
      cases hf : μ.find l with
      | none => exact .unknown _ _
      | some j => exact .yield j m (by rw [Mu.ren_of ok.snd (Mu.find_mem hf)]; exact hm)
    | iface t v v' hv => exact .iface t _ _ (ih _ _ hv)
    | agg a a' ha ra =>
      simp only [mapV]
      refine VR.agg' ?_
      simpa using LR.map_left ih (LR.of_arr ha ra)
    | tuple a a' ha ra =>
      simp only [mapV]
      refine VR.tuple' ?_
      simpa using LR.map_left ih (LR.of_arr ha ra)
theorem mapO_S (ok : MuS μ) {m : Meta} {o o2 : AObj} (h : mapO μ o = some o2) (r : ObjR ρ w m o) : ObjR (μ.ren ρ) w m o2 ∧ o2.alive = o.alive := by
  cases o with
  | cells cs ty opn es =>
    simp only [mapO, Option.some.injEq] at h
    subst h
    obtain ⟨a, b, c, d, e, f, g, i⟩ := r
    exact ⟨⟨by simpa using a, b, c, d, e, f, g, by simpa using LR.map_left (mapV_S ok 8) i⟩, rfl⟩
  | sym cs opn es =>
    simp only [mapO, Option.some.injEq] at h
    subst h
    obtain ⟨⟨a, b, c, d, e, z, f, g, i⟩, j⟩ := r
    exact ⟨⟨⟨a, b, c, d, e, z, f, g, i.plain_any (fun v hv => cellP_plain (j v hv))⟩, j⟩, rfl⟩
  | map es c =>
    simp only [mapO] at h
    split at h
    · simp only [Option.some.injEq] at h
      subst h
      obtain ⟨es', h1, h2⟩ := r
      exact ⟨⟨es', h1, ER.map_val (mapV_S ok 8) h2⟩, rfl⟩
    · cases h
  | deferred => simp only [mapO, Option.some.injEq] at h; subst h; exact ⟨r, rfl⟩
  | taken => simp only [mapO, Option.some.injEq] at h; subst h; exact ⟨r, rfl⟩
  | yld _ _ => simp only [mapO, Option.some.injEq] at h; subst h; exact ⟨r, rfl⟩
  | dead _ _ _ => cases h
  | loop _ => cases h
  | siter _ _ => cases h
theorem LR.map_S (ok : MuS μ) {l l' : List Value} (h : LR ρ l l') : LR (μ.ren ρ) (l.map (mapV μ 8)) l' := LR.map_left (mapV_S ok 8) h

/-! ### What is reached has its place -/
def Placed (ρ : Ren) (i : Nat) : Prop := i < abase ∨ ∃ m, ρ i = some m
theorem LR.placed {f : Value → List Nat} (hf : ∀ v v', VR ρ v v' → ∀ i ∈ f v, Placed ρ i) : ∀ {l l' : List Value}, LR ρ l l' → ∀ i ∈ l.flatMap f, Placed ρ i
  | _, _, .nil, i, h => by cases h
  | _, _, .cons h t, i, hi => by
    rw [List.flatMap_cons] at hi
    rcases List.mem_append.1 hi with h1 | h1
    · exact hf _ _ h i h1
    · exact LR.placed hf t i h1
theorem blocksV_placed : ∀ (n : Nat) (v v' : Value), VR ρ v v' → ∀ i ∈ blocksV n v, Placed ρ i
  | 0, _, _, _, i, h => by simp [blocksV] at h
  | n + 1, v, v', hv, i, h => by
    have ih : ∀ (v v' : Value), VR ρ v v' → ∀ i ∈ blocksV n v, Placed ρ i := blocksV_placed n
    cases hv with
    | glob g k hg => simp only [blocksV, List.mem_singleton] at h; subst h; exact .inl hg
    | ptr j k m hm => simp only [blocksV, List.mem_singleton] at h; subst h; exact .inr ⟨m, hm⟩
    | map j m hm => simp only [blocksV, List.mem_singleton] at h; subst h; exact .inr ⟨m, hm⟩
    | slice j k len cap m hm ho => simp only [blocksV, List.mem_singleton] at h; subst h; exact .inr ⟨m, hm⟩
    | opened j k len cap capC m hm ho hc hs => simp only [blocksV, List.mem_singleton] at h; subst h; exact .inr ⟨m, hm⟩
    | empty j k off m hm ho hz => simp only [blocksV, List.mem_singleton] at h; subst h; exact .inr ⟨m, hm⟩
    | func f a b a' b' ha hb ra rb =>
      simp only [blocksV] at h
      rcases List.mem_append.1 h with h | h
      · exact LR.placed ih (LR.of_arr ha ra) i h
      · exact LR.placed ih (LR.of_arr hb rb) i h
    | yield l m hm => simp only [blocksV, List.mem_singleton] at h; subst h; exact .inr ⟨m, hm⟩
    | iface t v v' hv => exact ih _ _ hv i (by simpa [blocksV] using h)
    | agg a a' ha ra => exact LR.placed ih (LR.of_arr ha ra) i (by simpa [blocksV] using h)
    | tuple a a' ha ra => exact LR.placed ih (LR.of_arr ha ra) i (by simpa [blocksV] using h)
    | _ => simp [blocksV] at h
theorem ER.placed : ∀ {l l' : List MapEntry}, ER ρ l l' → ∀ i ∈ l.flatMap (fun e => blocksV 8 e.val), Placed ρ i
  | _, _, .nil, i, h => by cases h
  | _, _, .cons k kk v b t, i, hi => by
    rw [List.flatMap_cons] at hi
    rcases List.mem_append.1 hi with h1 | h1
    · exact blocksV_placed 8 _ _ v i h1
    · exact ER.placed t i h1
theorem blocksO_placed {m : Meta} {o : AObj} (r : ObjR ρ w m o) : ∀ i ∈ blocksO o, Placed ρ i := by
  intro i h
  cases o with
  | cells cs ty opn es =>
    obtain ⟨_, _, _, _, _, _, _, hl⟩ := r
    exact LR.placed (blocksV_placed 8) hl i (by simpa [blocksO] using h)
  | map es c =>
    obtain ⟨es', _, h2⟩ := r
    exact ER.placed h2 i (by simpa [blocksO] using h)
  | _ => simp [blocksO] at h
theorem reachC_placed (g : Gam w0 ρ H w) : ∀ (f : Nat) (work : List Nat) (μ : Mu) (ro mu : Nat), (∀ i ∈ work, Placed ρ i) → (∀ p ∈ μ, Placed ρ p.1) → ∀ p ∈ reachC H f work μ ro mu, Placed ρ p.1
  | 0, _, μ, _, _, _, h => by simpa [reachC] using h
  | f + 1, [], μ, _, _, _, h => by simpa [reachC] using h
  | f + 1, i :: work, μ, ro, mu, hw, h => by
    have hw2 : ∀ j ∈ work, Placed ρ j := fun j hj => hw j (List.mem_cons_of_mem _ hj)
    have hi := hw i (List.mem_cons_self ..)
    unfold reachC
    split
    · exact reachC_placed g f work μ ro mu hw2 h
    · split
      · exact reachC_placed g f work μ ro mu hw2 h
      · rename_i o ho
        have hpl : ∀ j ∈ work ++ blocksO o, Placed ρ j := by
          intro j hj
          rcases List.mem_append.1 hj with hj | hj
          · exact hw2 j hj
          · have hm : ∃ m, ρ i = some m := by
              rcases hi with hlt | hm
              · exact g.gmap i (.inl hlt) (by rw [ho]; simp)
              · exact hm
            obtain ⟨m, hm⟩ := hm
            exact blocksO_placed (g.obj i m o hm ho) j hj
        have hadd : ∀ q, ∀ p ∈ μ ++ [(i, q)], Placed ρ p.1 := by
          intro q p hp
          rcases List.mem_append.1 hp with hp | hp
          · exact h p hp
          · rw [List.mem_singleton.1 hp]; exact hi
        split
        · exact reachC_placed g f _ _ _ _ hpl (hadd _)
        · split
          · exact reachC_placed g f _ _ _ _ hpl (hadd _)
          · exact reachC_placed g f _ _ _ _ hpl (hadd _)

/-! ### The call's own view -/
structure CallOK (μ : Mu) (H : Heap) : Prop where
  fst : (μ.map (·.1)).Nodup
  snd : (μ.map (·.2)).Nodup
  lo : ∀ i j, (i, j) ∈ μ → abase ≤ i ∧ hbase ≤ j ∧ j < gbase
  yn : ∀ i j, (i, j) ∈ μ → (i = ynum ↔ j = ynum)
  mb : ∀ i j, (i, j) ∈ μ → mbase ≤ j → mbase ≤ i
  live : ∀ i j, (i, j) ∈ μ → ∃ o o2, H.get i = some o ∧ mapO μ o = some o2 ∧ o.alive = true
theorem mapO_alive {o o2 : AObj} (h : mapO μ o = some o2) (ht : o2 ≠ .taken) : o.alive = true := by
  cases o with
  | taken => simp only [mapO, Option.some.injEq] at h; exact absurd h.symm ht
  | dead _ _ _ => cases h
  | _ => rfl
theorem callGood_ok (h : callGood μ H = true) : CallOK μ H := by
  simp only [callGood, Bool.and_eq_true] at h
  have hall := fun p hp => List.all_eq_true.1 h.2 p hp
  have each : ∀ i j, (i, j) ∈ μ → abase ≤ i ∧ (hbase ≤ j ∧ j < gbase) ∧ ((i = ynum ↔ j = ynum) ∧ (mbase ≤ i ↔ mbase ≤ j)) ∧ ∃ o o2, H.get i = some o ∧ mapO μ o = some o2 ∧ o.alive = true := by
    intro i j hij
    have := hall _ hij
    simp only [Bool.and_eq_true, decide_eq_true_eq] at this
    obtain ⟨⟨⟨⟨h1, h1b⟩, h1c⟩, h2⟩, h3⟩ := this
    have hyn : i = ynum ↔ j = ynum := by
      have := h1c
      by_cases e1 : i = ynum <;> by_cases e2 : j = ynum <;> simp_all
    have h4 : (hbase ≤ j ∧ j < gbase) ∧ (mbase ≤ i ↔ mbase ≤ j) := by
      split at h2
      · rename_i hlt
        simp only [Bool.and_eq_true, decide_eq_true_eq] at h2
        refine ⟨⟨h1b, ?_⟩, by omega⟩
        have : mbase ≤ gbase := by decide
        omega
      · rename_i hge
        simp only [Bool.and_eq_true, decide_eq_true_eq] at h2
        exact ⟨⟨h1b, h2.2⟩, by omega⟩
    refine ⟨h1, h4.1, ⟨hyn, h4.2⟩, ?_⟩
    cases hg : H.get i with
    | none => simp [hg] at h3
    | some o =>
      simp only [hg] at h3
      cases hm : mapO μ o with
      | none => simp [hm] at h3
      | some o2 =>
        refine ⟨o, o2, rfl, hm, mapO_alive hm (fun e => ?_)⟩
        subst e
        simp [hm] at h3
  exact ⟨nodupB_spec h.1.1, nodupB_spec h.1.2, fun i j hij => ⟨(each i j hij).1, (each i j hij).2.1⟩, fun i j hij => (each i j hij).2.2.1.1, fun i j hij => (each i j hij).2.2.1.2.2, fun i j hij => (each i j hij).2.2.2⟩
theorem CallOK.toS (ok : CallOK μ H) : MuS μ := ⟨ok.snd, fun i j hij hlt => by have := (ok.lo i j hij).1; omega⟩
/-- Where a call begins that is met by what it does: the blocks that it is handed have their places, and it may be handed on what the rounds stand at. -/
structure StartC (w0 : Start P) (ρ : Ren) (μ : Mu) (H : Heap) (w : World) (s : Start P) : Prop where
  hw : s.w = w
  hp : s.pin = μ.ren ρ
  hm : ∀ k, ¬ s.mine k
  ok : ItOK s
  fr : ∀ k, s.free k → (ynum, ynum) ∈ μ ∧ ∃ own rest m F, H.get ynum = some (.yld own rest) ∧ ρ ynum = some m ∧ w0.it own rest F m.b w ∧ (∀ j n, ρ j = some n → H.live j → j ≠ ynum → ¬ F n.b) ∧ F k
  it : ∀ {own rest F l w'}, s.it own rest F l w' → w0.it own rest F l w' ∧ ∃ F0 : Nat → Prop, (∀ j n, ρ j = some n → H.live j → j ≠ ynum → ¬ F0 n.b) ∧ ∀ k, F k → k < w.heap.size → F0 k
  yl : ∀ own rest, (ynum, ynum) ∈ μ → H.get ynum = some (.yld own rest) → ∃ m F, ρ ynum = some m ∧ s.it own rest F m.b w ∧ ∀ j n, ρ j = some n → H.live j → j ≠ ynum → ¬ F n.b
theorem startC (g : Gam w0 ρ H w) (ok : CallOK μ H) : ∃ s, StartC w0 ρ μ H w s := by
  by_cases hy : (ynum, ynum) ∈ μ ∧ ∃ own rest, H.get ynum = some (.yld own rest)
  · obtain ⟨hmu, own, rest, hget⟩ := hy
    obtain ⟨m, F, hm, hit, hd⟩ := g.yld own rest hget
    let s : Start P := { w := w, pin := μ.ren ρ, free := F, it := fun own rest F' l w' => w0.it own rest F' l w' ∧ w.heap.size ≤ w'.heap.size ∧ ∀ k, F' k → k < w.heap.size → F k }
    have hown : ∀ k, s.own k → k < w0.w.heap.size → w0.own k := by
      rintro k (⟨i, m', h1, h2, h3, h4⟩ | h) hk
      · obtain ⟨i0, hi0, hr0⟩ := Mu.ren_some h3
        have hmb := (ok.mb _ _ hi0) h1
        rcases Nat.lt_or_ge i0 gbase with hl | hl
        · exact .inl ⟨i0, m', hmb, hl, g.pins i0 m' (Nat.le_trans (by decide) hmb) hl hr0, h4⟩
        · rcases (g.own i0 m' hr0).2 hl with h | h
          · omega
          · exact .inr (h4 ▸ h)
      · exact h.elim
    refine ⟨s, rfl, rfl, fun _ h => h, ⟨?_, ?_, ?_, ?_⟩, ?_, ?_, ?_⟩
    · intro own rest F' l w' h; exact g.itok.bound h.1
    · intro own rest F' l w' h k hk hlt; exact h.2.2 k hk hlt
    · intro own rest F' l w1 w2 h h1 h2 h3 hs hk
      refine ⟨g.itok.stable h.1 h1 h2 h3 hs (fun k hk1 hc => hk k hk1 ?_), Nat.le_trans h.2.1 hs, h.2.2⟩
      rcases hc with ⟨c1, c2⟩ | hc
      · exact .inl ⟨Nat.lt_of_lt_of_le c1 g.below.size, fun ho => c2 (ho.elim (fun ho => .inl (hown k ho c1)) (fun ho => .inr (g.itok.free hit k ho c1)))⟩
      · exact .inr hc
    · intro row rest F' l w1 h args' ha
      obtain ⟨L, hL, hsz, hr⟩ := g.itok.round h.1 args' ha
      refine ⟨L, hL, hsz, fun rC n => (hr rC n).mono ?_⟩
      rintro e w2 ⟨b, F2, rfl, q1, q2, q3, q4, q5, q6, q7⟩
      refine ⟨b, F2, rfl, ⟨q1, Nat.le_trans h.2.1 q5, fun k hk hlt => ?_⟩, q2, q3, q4, q5, q6, q7⟩
      rcases q7 k hk with h7 | h7
      · exact h.2.2 k h7 hlt
      · have := h.2.1; omega
    · intro k hk; exact ⟨hmu, own, rest, m, F, hget, hm, hit, hd, hk⟩
    · intro own' rest' F' l w' h; exact ⟨h.1, F, hd, h.2.2⟩
    · intro own' rest' _ h
      rw [hget] at h
      cases h
      exact ⟨m, F, hm, ⟨hit, Nat.le_refl _, fun k hk _ => hk⟩, hd⟩
  · refine ⟨.of P w (μ.ren ρ), rfl, rfl, fun _ h => h, Start.quiet.ok (quiet_of _ _), fun _ h => h.elim, fun h => h.elim, fun own rest h1 h => absurd ⟨h1, own, rest, h⟩ hy⟩

theorem isYld_of {o : AObj} {own : Bool} {rest : Option (List (List D))} {μ : Mu} (h : mapO μ o = some (.yld own rest)) : o = .yld own rest := by
  cases o <;> simp only [mapO] at h <;> first
    | cases h
    | skip
  · split at h <;> cases h
  · rfl
theorem callGam (g : Gam w0 ρ H w) (ok : CallOK μ H) (hp : ∀ p ∈ μ, Placed ρ p.1) {s : Start P} (hs : StartC w0 ρ μ H w s) : Gam s (μ.ren ρ) (heapOf (gcB H μ μ)) w := by
  have hsnd : ∀ {i i' j : Nat}, (i, j) ∈ μ → (i', j) ∈ μ → i = i' := fun h1 h2 => by have := nodup_inj ok.snd h1 h2 rfl; cases this; rfl
  have hfst : ∀ {i j j' : Nat}, (i, j) ∈ μ → (i, j') ∈ μ → j = j' := fun h1 h2 => by have := nodup_inj ok.fst h1 h2 rfl; cases this; rfl
  have hget : ∀ {j : Nat} {o : AObj}, (heapOf (gcB H μ μ)).get j = some o → ∃ i o', (i, j) ∈ μ ∧ H.get i = some o' ∧ mapO μ o' = some o := fun h => gcB_mem (heapOf_get h)
  have obj : ∀ i m o, μ.ren ρ i = some m → (heapOf (gcB H μ μ)).get i = some o → ObjR (μ.ren ρ) w m o ∧ ∃ i0 o0, (i0, i) ∈ μ ∧ ρ i0 = some m ∧ H.get i0 = some o0 ∧ o.alive = o0.alive := by
    intro i m o hm ho
    obtain ⟨i0, hi0, hr0⟩ := Mu.ren_some hm
    obtain ⟨i1, o1, hi1, hg1, hmo⟩ := hget ho
    obtain rfl := hsnd hi0 hi1
    obtain ⟨r1, r2⟩ := mapO_S ok.toS hmo (g.obj _ m _ hr0 hg1)
    exact ⟨r1, i0, o1, hi0, hr0, hg1, r2⟩
  refine ⟨Nat.le_add_right _ _, ?_, ?_, ?_, ?_, ?_, fun i m o hm ho => (obj i m o hm ho).1, ?_, fun i m _ _ h => by rw [hs.hp]; exact h, ?_, hs.ok, ?_⟩
  · intro i hi
    cases hr : μ.ren ρ i with
    | none => rfl
    | some m =>
      obtain ⟨i0, hi0, _⟩ := Mu.ren_some hr
      have := (ok.lo _ _ hi0).2.2
      have h5 : gbase ≤ i := Nat.le_trans (Nat.le_add_right _ _) hi
      omega
  · have := Kept.refl s
    rwa [hs.hw] at this
  · intro j m hm
    obtain ⟨i, hi, hr⟩ := Mu.ren_some hm
    have h1 := (g.own i m hr).1
    have := (ok.lo _ _ hi).2.2
    exact ⟨h1, fun h => by omega⟩
  · intro j m hm hj
    obtain ⟨i, hi, hr⟩ := Mu.ren_some hm
    have := (ok.lo _ _ hi).2.1
    unfold hbase at this; unfold abase at hj
    omega
  · rintro i j mi mj hgi ⟨oi, gi, ai⟩ ⟨oj, gj, aj⟩ ei ej hb
    obtain ⟨_, i0, oi0, hi0, ri0, gi0, hai⟩ := obj i mi oi ei gi
    obtain ⟨_, j0, oj0, hj0, rj0, gj0, haj⟩ := obj j mj oj ej gj
    have := g.inj i0 j0 mi mj ((ok.mb _ _ hi0) hgi) ⟨oi0, gi0, by rw [← hai]; exact ai⟩ ⟨oj0, gj0, by rw [← haj]; exact aj⟩ ri0 rj0 hb
    subst this
    exact hfst hi0 hj0
  · intro j hj hn
    cases ho : (heapOf (gcB H μ μ)).get j with
    | none => exact absurd ho hn
    | some o =>
      obtain ⟨i, o', hi, hg, _⟩ := hget ho
      rcases hp _ hi with h | ⟨m, hm⟩
      · have := (ok.lo _ _ hi).1; simp only at h; omega
      · exact ⟨m, by rw [Mu.ren_of ok.snd hi]; exact hm⟩
  · intro q hq
    obtain ⟨v1, v2⟩ := g.vars q hq
    have h6 := VarKind.ok_some v1
    have h7 : q.1 < w0.w.heap.size := by
      rcases Nat.lt_or_ge q.1 w0.w.heap.size with h | h
      · exact h
      · rw [Array.getElem?_eq_none h] at h6; cases h6
    refine ⟨by rw [hs.hw]; exact g.good q hq, ?_⟩
    rintro ((⟨j, m, h1, h2, h3, h4⟩ | h) | h)
    · rw [hs.hp] at h3
      obtain ⟨i, hij, hr⟩ := Mu.ren_some h3
      have hmi : mbase ≤ i := (ok.mb _ _ hij) h1
      rcases Nat.lt_or_ge i gbase with hl | hl
      · exact v2 (.inl (.inl ⟨i, m, hmi, hl, g.pins i m (Nat.le_trans (by decide) hmi) hl hr, h4⟩))
      · rcases (g.own i m hr).2 hl with h5 | h5
        · omega
        · exact v2 (.inl (.inr (h4 ▸ h5)))
    · exact hs.hm _ h
    · obtain ⟨_, own, rest, m, F, _, _, hit, _, hF⟩ := hs.fr _ h
      exact v2 (.inr (g.itok.free hit _ hF h7))
  · intro own rest hgt
    obtain ⟨i, o', hi, hg, hmo⟩ := hget hgt
    have ho' := isYld_of hmo
    subst ho'
    obtain rfl := (ok.yn _ _ hi).2 rfl
    obtain ⟨m, F, h1, h2, h3⟩ := hs.yl own rest hi hg
    refine ⟨m, F, by rw [Mu.ren_of ok.snd hi]; exact h1, h2, fun j n hj hl hne hF => ?_⟩
    obtain ⟨oj, gj, aj⟩ := hl
    obtain ⟨_, j0, oj0, hj0, rj0, gj0, haj⟩ := obj j n oj hj gj
    exact h3 j0 n rj0 ⟨oj0, gj0, by rw [← haj]; exact aj⟩ (fun e => hne ((ok.yn _ _ hj0).1 e)) hF

/-! ### Back at the caller -/
theorem numFrom_mem : ∀ {l : List Nat} {n j q : Nat}, (j, q) ∈ numFrom l n → j ∈ l ∧ n ≤ q ∧ q < n + l.length
  | [], _, _, _, h => by cases h
  | i :: r, n, j, q, h => by
    unfold numFrom at h
    rcases List.mem_cons.1 h with h | h
    · cases h; exact ⟨List.mem_cons_self .., Nat.le_refl _, by simp⟩
    · obtain ⟨h1, h2, h3⟩ := numFrom_mem h
      exact ⟨List.mem_cons_of_mem _ h1, by omega, by simp only [List.length_cons]; omega⟩
theorem numFrom_snd : ∀ (l : List Nat) (n : Nat), ((numFrom l n).map (·.2)).Nodup
  | [], _ => List.nodup_nil
  | i :: r, n => by
    unfold numFrom
    simp only [List.map_cons, List.nodup_cons]
    refine ⟨fun h => ?_, numFrom_snd r (n + 1)⟩
    obtain ⟨p, hp, e⟩ := List.mem_map.1 h
    obtain ⟨j, q⟩ := p
    have := (numFrom_mem hp).2.1
    simp only at e
    omega
theorem numFrom_fst : ∀ (l : List Nat) (n : Nat), (numFrom l n).map (·.1) = l
  | [], _ => rfl
  | i :: r, n => by unfold numFrom; simp only [List.map_cons, numFrom_fst r]
variable {β : Mu} {bs : Blocks}
theorem mergeP_next : ∀ (l : Mu) (H : Heap), (mergeP β bs l H).next = H.next
  | [], _ => rfl
  | p :: r, H => by
    unfold mergeP
    rw [mergeP_next r]
    split <;> rfl
theorem mergeP_out {i : Nat} : ∀ (l : Mu) (H : Heap), (∀ j, (i, j) ∈ l → ¬ mbase ≤ j) → (mergeP β bs l H).get i = H.get i
  | [], _, _ => rfl
  | p :: r, H, h => by
    unfold mergeP
    rw [mergeP_out r _ (fun j hj => h j (List.mem_cons_of_mem _ hj))]
    split
    · rename_i hm
      rw [Heap.get_set, if_neg (fun e => h p.2 (by rw [e]; exact List.mem_cons_self ..) hm)]
    · rfl
theorem mergeP_in {i j : Nat} : ∀ (l : Mu) (H : Heap), (l.map (·.1)).Nodup → (i, j) ∈ l → mbase ≤ j → (mergeP β bs l H).get i = some (objAt β bs j)
  | [], _, _, h, _ => by cases h
  | p :: r, H, hn, h, hj => by
    simp only [List.map_cons, List.nodup_cons] at hn
    unfold mergeP
    rcases List.mem_cons.1 h with h | h
    · subst h
      rw [mergeP_out r _ (fun q hq => absurd (List.mem_map.2 ⟨_, hq, rfl⟩) hn.1), if_pos hj, Heap.get_set, if_pos rfl]
    · exact mergeP_in r _ hn.2 h hj
theorem mergeN_next : ∀ (l : List Nat) (H : Heap), (mergeN β bs l H).next = H.next + l.length
  | [], _ => rfl
  | j :: r, H => by unfold mergeN; rw [mergeN_next r]; simp only [Heap.next_new, List.length_cons]; omega
theorem mergeN_old {i : Nat} : ∀ (l : List Nat) (H : Heap), i < H.next → (mergeN β bs l H).get i = H.get i
  | [], _, _ => rfl
  | j :: r, H, h => by
    unfold mergeN
    rw [mergeN_old r _ (by simp only [Heap.next_new]; omega), Heap.get_new, if_neg (by omega)]
theorem mergeN_new {i j : Nat} : ∀ (l : List Nat) (H : Heap), (j, i) ∈ numFrom l H.next → (mergeN β bs l H).get i = some (objAt β bs j)
  | [], _, h => by cases h
  | q :: r, H, h => by
    unfold numFrom at h
    unfold mergeN
    rcases List.mem_cons.1 h with h | h
    · cases h
      rw [mergeN_old r _ (by simp only [Heap.next_new]; omega), Heap.get_new, if_pos rfl]
    · exact mergeN_new r (H.new (objAt β bs q)) (by simpa only [Heap.next_new] using h)

theorem mergeGam {ρ' : Ren} {w' : World} (g : Gam w0 ρ H w) (ok : CallOK μ H) (hp : ∀ p ∈ μ, Placed ρ p.1) {s : Start P} (hs : StartC w0 ρ μ H w s) (g' : Gam s ρ' (heapOf bs) w') (hnd : ((newsOf bs).map (·.1)).Nodup) :
    ∃ ρm, Gam w0 ρm (merged μ bs H) w' ∧ Ext ρ ρm H (merged μ bs H) ∧ ∀ v v', VR ρ' v v' → VR ρm (mapV (backMu μ H.next bs) 8 v) v' := by
  let news := (newsOf bs).map (·.1)
  let β := backMu μ H.next bs
  have place : ∀ {i j : Nat}, (i, j) ∈ μ → ∃ m, ρ i = some m := by
    intro i j hij
    rcases hp _ hij with h | h
    · have := (ok.lo _ _ hij).1; simp only at h; omega
    · exact h
  have ilt : ∀ {i j : Nat}, (i, j) ∈ μ → i < H.next := fun hij => let ⟨m, hm⟩ := place hij; g.lt hm
  have newge : ∀ j ∈ news, gbase ≤ j := by
    intro j hj
    obtain ⟨p, hp, rfl⟩ := List.mem_map.1 hj
    simpa using (List.mem_filter.1 hp).2
  have βmem : ∀ {j i : Nat}, (j, i) ∈ β → ((i, j) ∈ μ) ∨ (j, i) ∈ numFrom news H.next := by
    intro j i h
    rcases List.mem_append.1 h with h | h
    · obtain ⟨p, hp, e⟩ := List.mem_map.1 h
      cases e; exact .inl hp
    · exact .inr h
  have βS : MuS β := by
    refine ⟨?_, fun j i h hj => ?_⟩
    · show ((μ.map (fun p => (p.2, p.1)) ++ numFrom news H.next).map (·.2)).Nodup
      rw [List.map_append, List.map_map]
      refine List.nodup_append.2 ⟨ok.fst, numFrom_snd _ _, ?_⟩
      intro a ha b hb e
      subst e
      obtain ⟨p, hp1, rfl⟩ := List.mem_map.1 ha
      obtain ⟨q, hq, e⟩ := List.mem_map.1 hb
      obtain ⟨j, i⟩ := q
      have h1 := (numFrom_mem hq).2.1
      have h2 : p.1 < H.next := ilt (j := p.2) hp1
      simp only [Function.comp] at e
      omega
    · rcases βmem h with h | h
      · have := (ok.lo _ _ h).2.1; unfold hbase at this; unfold abase at hj; omega
      · have := newge j (numFrom_mem h).1
        unfold gbase at this; unfold abase at hj; omega
  let ρm : Ren := fun i => if i < H.next then ρ i else β.ren ρ' i
  have ρlt : ∀ {i : Nat}, i < H.next → ρm i = ρ i := fun h => if_pos h
  have ρge : ∀ {i : Nat}, ¬ i < H.next → ρm i = β.ren ρ' i := fun h => if_neg h
  -- what was handed lies where it lay
  have pinned : ∀ {i j : Nat} {m : Meta}, (i, j) ∈ μ → ρ' j = some m → ρ i = some m := by
    intro i j m hij hj
    have h1 := ok.lo _ _ hij
    have := g'.pins j m h1.2.1 h1.2.2 hj
    rw [hs.hp] at this
    rwa [Mu.ren_of ok.snd hij] at this
  have hle : (β.ren ρ').le ρm := by
    intro i m hm
    obtain ⟨j, hj, hr⟩ := Mu.ren_some hm
    rcases βmem hj with h | h
    · rw [ρlt (ilt h)]; exact pinned h hr
    · rw [ρge (by have := (numFrom_mem h).2.1; omega)]; exact hm
  have objR : ∀ {j : Nat} {m : Meta}, ρ' j = some m → ObjR ρm w' m (objAt β bs j) := by
    intro j m hj
    unfold objAt
    cases hg : (heapOf bs).get j with
    | none => trivial
    | some o =>
      simp only [Option.bind_some]
      cases hm : mapO β o with
      | none => trivial
      | some o2 => exact (mapO_S βS hm (g'.obj j m o hj hg)).1.mono hle (fun _ => rfl)
  have objA : ∀ {j : Nat}, (objAt β bs j).alive = true → (heapOf bs).live j := by
    intro j h
    unfold objAt at h
    cases hg : (heapOf bs).get j with
    | none => rw [hg] at h; cases h
    | some o =>
      rw [hg] at h
      simp only [Option.bind_some] at h
      cases hm : mapO β o with
      | none => rw [hm] at h; cases h
      | some o2 =>
        rw [hm] at h
        refine ⟨o, hg, ?_⟩
        by_cases hj : ∃ m, ρ' j = some m
        · obtain ⟨m, hj⟩ := hj
          rw [← (mapO_S βS hm (g'.obj j m o hj hg)).2]; exact h
        · refine mapO_alive hm (fun e => ?_)
          subst e; cases h
  have hnx : (merged μ bs H).next = H.next + news.length := by
    show (mergeN β bs news (mergeP β bs μ H)).next = _
    rw [mergeN_next, mergeP_next]
  have getOut : ∀ {i : Nat}, i < H.next → (∀ j, (i, j) ∈ μ → ¬ mbase ≤ j) → (merged μ bs H).get i = H.get i := by
    intro i hi h
    show (mergeN β bs news (mergeP β bs μ H)).get i = _
    rw [mergeN_old _ _ (by rw [mergeP_next]; exact hi), mergeP_out _ _ h]
  have getIn : ∀ {i j : Nat}, (i, j) ∈ μ → mbase ≤ j → (merged μ bs H).get i = some (objAt β bs j) := by
    intro i j hij hj
    show (mergeN β bs news (mergeP β bs μ H)).get i = _
    rw [mergeN_old _ _ (by rw [mergeP_next]; exact ilt hij), mergeP_in _ _ ok.fst hij hj]
  have getNew : ∀ {i j : Nat}, (j, i) ∈ numFrom news H.next → (merged μ bs H).get i = some (objAt β bs j) := by
    intro i j h
    exact mergeN_new _ _ (by rw [mergeP_next]; exact h)
  have newOf : ∀ {i : Nat} {m : Meta}, ¬ i < H.next → ρm i = some m → ∃ j, (j, i) ∈ numFrom news H.next ∧ ρ' j = some m ∧ gbase ≤ j := by
    intro i m hi hm
    rw [ρge hi] at hm
    obtain ⟨j, hj, hr⟩ := Mu.ren_some hm
    rcases βmem hj with h | h
    · exact absurd (ilt h) hi
    · exact ⟨j, h, hr, newge j (numFrom_mem h).1⟩
  -- what may have been written
  have mayOf : ∀ {k : Nat}, s.own k → ∃ i j m, (i, j) ∈ μ ∧ mbase ≤ i ∧ mbase ≤ j ∧ ρ i = some m ∧ m.b = k ∧ H.live i := by
    rintro k (⟨j, m, h1, h2, h3, h4⟩ | h)
    · rw [hs.hp] at h3
      obtain ⟨i, hij, hr⟩ := Mu.ren_some h3
      obtain ⟨o, _, ho, _, ha⟩ := ok.live _ _ hij
      exact ⟨i, j, m, hij, (ok.mb _ _ hij) h1, h1, hr, h4, o, ho, ha⟩
    · exact (hs.hm _ h).elim
  have ownOf : ∀ {k : Nat}, s.own k → k < w0.w.heap.size → w0.own k := by
    intro k h hk
    obtain ⟨i, j, m, hij, hi, hj, hr, rfl, _⟩ := mayOf h
    rcases Nat.lt_or_ge i gbase with hl | hl
    · exact .inl ⟨i, m, hi, hl, g.pins i m (Nat.le_trans (by decide) hi) hl hr, rfl⟩
    · rcases (g.own i m hr).2 hl with h5 | h5
      · omega
      · exact .inr h5
  have liveOld : ∀ {i : Nat}, i < H.next → (merged μ bs H).live i → H.live i ∧ ∀ j, (i, j) ∈ μ → mbase ≤ j → (heapOf bs).live j := by
    rintro i hi ⟨o, ho, ha⟩
    by_cases h : ∃ j, (i, j) ∈ μ ∧ mbase ≤ j
    · obtain ⟨j, hij, hj⟩ := h
      obtain ⟨o1, _, h1, _, h2⟩ := ok.live _ _ hij
      refine ⟨⟨o1, h1, h2⟩, fun j' hij' hj' => ?_⟩
      rw [getIn hij' hj'] at ho
      cases ho
      exact objA ha
    · rw [getOut hi (fun j hij hj => h ⟨j, hij, hj⟩)] at ho
      exact ⟨⟨o, ho, ha⟩, fun j hij hj => absurd ⟨j, hij, hj⟩ h⟩
  have hk' := g'.below
  have hsz : w.heap.size ≤ w'.heap.size := by have := hk'.size; rwa [hs.hw] at this
  have hko : w'.os = w.os := by have := hk'.os; rwa [hs.hw] at this
  have hkt : w'.tape = w.tape := by have := hk'.tape; rwa [hs.hw] at this
  have hkp : w'.output = w.output := by have := hk'.output; rwa [hs.hw] at this
  have hkb : ∀ k, k < w.heap.size → ¬ s.may k → w'.heap[k]? = w.heap[k]? := by have := hk'.block; rwa [hs.hw] at this
  have newb : ∀ {q : Nat} {mq : Meta}, ρ' q = some mq → gbase ≤ q → w.heap.size ≤ mq.b := fun h1 h2 => by
    have := ((g'.own _ _ h1).2 h2).resolve_right (hs.hm _)
    rwa [hs.hw] at this
  refine ⟨ρm, ⟨by rw [hnx]; exact Nat.le_trans g.gb (Nat.le_add_right _ _), ?_, ?_, ?_, ?_, ?_, ?_, ?_, ?_, g.vars, g.itok, ?_⟩, ⟨?_, by rw [hnx]; exact Nat.le_add_right _ _, ?_⟩, fun v v' hv => (mapV_S βS 8 v v' hv).mono hle⟩
  · -- fresh
    intro i hi
    rw [hnx] at hi
    cases hr : ρm i with
    | none => rfl
    | some m =>
      obtain ⟨j, hj, _⟩ := newOf (by omega) hr
      have := (numFrom_mem hj).2.2
      omega
  · -- below
    refine ⟨hko.trans g.below.os, hkt.trans g.below.tape, hkp.trans g.below.output, Nat.le_trans g.below.size hsz, fun k hk hm => ?_⟩
    refine (hkb k (Nat.lt_of_lt_of_le hk g.below.size) (fun hmay => ?_)).trans (g.below.block k hk hm)
    rcases hmay with hmay | hmay
    · exact hm (.inl (ownOf hmay hk))
    · obtain ⟨_, own, rest, m, F, _, _, hit, _, hF⟩ := hs.fr _ hmay
      exact hm (.inr (g.itok.free hit _ hF hk))
  · -- own
    intro i m hm
    by_cases hi : i < H.next
    · rw [ρlt hi] at hm
      have := g.own i m hm
      exact ⟨by omega, this.2⟩
    · obtain ⟨j, hj, hr, hge⟩ := newOf hi hm
      have := g'.own j m hr
      have h1 := newb hr hge
      have h2 := g.below.size
      exact ⟨this.1, fun _ => .inl (by omega)⟩
  · -- glob
    intro i m hm hi
    rw [ρlt (by have := g.gb; unfold gbase at this; unfold abase at hi; omega)] at hm
    exact g.glob i m hm hi
  · -- inj
    intro i j mi mj hgi hi hj ei ej hb
    by_cases h1 : i < H.next
    · rw [ρlt h1] at ei
      by_cases h2 : j < H.next
      · rw [ρlt h2] at ej
        exact g.inj i j mi mj hgi (liveOld h1 hi).1 (liveOld h2 hj).1 ei ej hb
      · obtain ⟨q, hq, hr, hge⟩ := newOf h2 ej
        have a1 := (g.own i mi ei).1
        have a2 := newb hr hge
        omega
    · obtain ⟨p, hp1, hr1, hge1⟩ := newOf h1 ei
      by_cases h2 : j < H.next
      · rw [ρlt h2] at ej
        have a1 := (g.own j mj ej).1
        have a2 := newb hr1 hge1
        omega
      · obtain ⟨q, hq, hr2, hge2⟩ := newOf h2 ej
        obtain ⟨oi, hoi, hai⟩ := hi
        obtain ⟨oj, hoj, haj⟩ := hj
        rw [getNew hp1] at hoi
        rw [getNew hq] at hoj
        cases hoi
        cases hoj
        have := g'.inj p q mi mj (mb_of hge1) (objA hai) (objA haj) hr1 hr2 hb
        subst this
        have hnf : ((numFrom news H.next).map (·.1)).Nodup := by rw [numFrom_fst]; exact hnd
        have := nodup_inj hnf hp1 hq rfl
        cases this
        rfl
  · -- objects
    intro i m o hm ho
    by_cases hi : i < H.next
    · rw [ρlt hi] at hm
      by_cases h : ∃ j, (i, j) ∈ μ ∧ mbase ≤ j
      · obtain ⟨j, hij, hj⟩ := h
        rw [getIn hij hj] at ho
        cases ho
        cases hg : (heapOf bs).get j with
        | none => unfold objAt; rw [hg]; trivial
        | some ob =>
          obtain ⟨m', hm'⟩ := g'.gmap j (.inr ⟨hj, (ok.lo _ _ hij).2.2⟩) (by rw [hg]; simp)
          have := pinned hij hm'
          rw [hm] at this
          cases this
          exact objR hm'
      · have hout : ∀ j, (i, j) ∈ μ → ¬ mbase ≤ j := fun j hij hj => h ⟨j, hij, hj⟩
        rw [getOut hi hout] at ho
        by_cases hyo : ∃ own rest, o = .yld own rest
        · obtain ⟨own, rest, rfl⟩ := hyo; trivial
        refine (g.obj i m o hm ho).mono (fun q n hq => by rw [ρlt (g.lt hq)]; exact hq) (fun hal => ?_)
        refine hkb m.b (g.own i m hm).1 (fun hmay => ?_)
        rcases hmay with hmay | hmay
        · obtain ⟨i2, j2, m2, hij2, hi2, hj2, hr2, hb2, hl2⟩ := mayOf hmay
          have := g.inj i2 i m2 m hi2 hl2 ⟨o, ho, hal⟩ hr2 hm hb2
          subst this
          exact hout _ hij2 hj2
        · obtain ⟨_, own, rest, my, F, hgy, hmy, hit, hd, hF⟩ := hs.fr _ hmay
          exact hd i m hm ⟨o, ho, hal⟩ (fun e => by subst e; rw [hgy] at ho; cases ho; exact hyo ⟨own, rest, rfl⟩) hF
    · obtain ⟨j, hj, hr, _⟩ := newOf hi hm
      rw [getNew hj] at ho
      cases ho
      exact objR hr
  · -- gmap
    intro i hi hn
    have hlt : i < H.next := by
      have := g.gb
      rcases hi with h | h
      · unfold gbase at this; unfold abase at h; omega
      · omega
    rw [ρlt hlt]
    by_cases h : ∃ j, (i, j) ∈ μ ∧ mbase ≤ j
    · obtain ⟨j, hij, _⟩ := h
      exact place hij
    · rw [getOut hlt (fun j hij hj => h ⟨j, hij, hj⟩)] at hn
      exact g.gmap i hi hn
  · -- pins
    intro i m ha hi hm
    rw [ρlt (by have := g.gb; omega)] at hm
    exact g.pins i m ha hi hm
  · -- the rounds
    intro own rest hget
    have hylt : ynum < H.next := Nat.lt_of_lt_of_le (by decide) g.gb
    by_cases hy : (ynum, ynum) ∈ μ
    · rw [getIn hy (by decide)] at hget
      simp only [Option.some.injEq] at hget
      have hob : (heapOf bs).get ynum = some (.yld own rest) := by
        unfold objAt at hget
        cases hg : (heapOf bs).get ynum with
        | none => rw [hg] at hget; cases hget
        | some o =>
          rw [hg] at hget
          simp only [Option.bind_some] at hget
          cases hm : mapO β o with
          | none => have hm' : mapO (backMu μ H.next bs) o = none := hm; rw [hm'] at hget; cases hget
          | some o2 =>
            have hm' : mapO (backMu μ H.next bs) o = some o2 := hm
            rw [hm'] at hget
            simp only [Option.getD_some] at hget
            subst hget
            rw [isYld_of hm]
      obtain ⟨m, F, h1, h2, h3⟩ := g'.yld own rest hob
      have hρy := pinned hy h1
      obtain ⟨h4, F0, hd0, hsub⟩ := hs.it h2
      refine ⟨m, F, by rw [ρlt hylt]; exact hρy, h4, fun j n hj hl hne hF => ?_⟩
      by_cases hlt : j < H.next
      · have hj0 := hj
        rw [ρlt hlt] at hj0
        by_cases hq : ∃ q, (j, q) ∈ μ ∧ mbase ≤ q
        · obtain ⟨q, hjq, hmq⟩ := hq
          have hlq := (liveOld hlt hl).2 q hjq hmq
          obtain ⟨oq, goq, _⟩ := hlq
          obtain ⟨mq, hmq2⟩ := g'.gmap q (.inr ⟨hmq, (ok.lo _ _ hjq).2.2⟩) (by rw [goq]; simp)
          have := pinned hjq hmq2
          rw [hj0] at this
          cases this
          exact h3 q n hmq2 ((liveOld hlt hl).2 q hjq hmq) (fun e => hne ((ok.yn _ _ hjq).2 e)) hF
        · exact hd0 j n hj0 (liveOld hlt hl).1 hne (hsub _ hF (g.own j n hj0).1)
      · obtain ⟨q, hq, hr, hge⟩ := newOf hlt hj
        obtain ⟨o, ho, ha⟩ := hl
        rw [getNew hq] at ho
        cases ho
        exact h3 q n hr (objA ha) (fun e => by subst e; exact absurd hge (by decide)) hF
    · have hny : ∀ j, (ynum, j) ∈ μ → ¬ mbase ≤ j := fun j hj => absurd ((ok.yn _ _ hj).1 rfl ▸ hj) hy
      have hget2 := hget
      rw [getOut hylt hny] at hget2
      refine (g.yld_step (H' := merged μ bs H) (fun own rest h => by rwa [getOut hylt hny] at h) (fun m hm => by rw [ρlt hylt]; exact hm) hko hkt hkp hsz (fun k hk => ?_) (fun j n hj hl hne => ?_)) own rest hget
      · by_cases hmay : s.own k
        · obtain ⟨i, j, m, hij, hi, hj, hr, hb, hl⟩ := mayOf hmay
          exact .inr ⟨i, m, hr, hl, fun e => by subst e; exact hny _ hij hj, hi, hb⟩
        · exact .inl (hkb k hk (fun h => h.elim hmay (fun h => absurd (hs.fr _ h).1 hy)))
      · by_cases hlt : j < H.next
        · rw [ρlt hlt] at hj
          exact .inl ⟨j, n, hj, (liveOld hlt hl).1, hne, rfl⟩
        · obtain ⟨q, hq, hr, hge⟩ := newOf hlt hj
          exact .inr (newb hr hge)
  · -- le
    intro i m hm
    rw [ρlt (g.lt hm)]; exact hm
  · -- keep
    intro i hi hn
    refine ⟨by rw [ρlt hi]; exact hn, getOut hi (fun j hij _ => ?_)⟩
    obtain ⟨m, hm⟩ := place hij
    rw [hn] at hm; cases hm

theorem wpState_call {sp : SpecS} {f : FuncId} (hs : ∀ args bs K, sp args bs K → CallS P f args bs K) {args : Array Value} {k : Value → Heap → Prop} (hk : wpState sp args H k) : CallH P f args H k := by
  intro w0 ρ w args' n g ha
  unfold wpState at hk
  obtain ⟨hgood, hk⟩ := bcase_out hk
  have ok := callGood_ok hgood
  have hp : ∀ p ∈ callMu args.toList H, Placed ρ p.1 := reachC_placed g _ _ _ _ _ (LR.placed (blocksV_placed 8) ha) (fun p hp => by cases hp)
  obtain ⟨s, hsC⟩ := startC g ok
  have gC := callGam g ok hp hsC
  refine (hs _ _ _ hk s _ w args' n gC (LR.map_S ok.toS ha)).mono ?_
  rintro e w' ⟨v, bs, ρ', v', hK, rfl, hv, g'⟩
  obtain ⟨hnd, hK⟩ := bcase_out hK
  obtain ⟨ρm, gm, ext, hvr⟩ := mergeGam g ok hp hsC g' (nodupB_spec hnd)
  exact ⟨_, _, ρm, v', hK, rfl, hvr _ _ hv, gm, ext⟩
end Go.Abs

/- State contracts: a function whose body has been walked. -/
namespace Go.Abs
open Go.RowKit
variable {P : Program} {ρ : Ren} {w0 : Start P} {w : World} {H : Heap} {h : Handler} {L : AtLoop}

theorem stateK_out (g : Gam w0 ρ H w) {v v' : Value} (hv : VR ρ v v') {K : Value → Blocks → Prop} (hk : stateK K v H) : ∃ v2 bs ρ2, K v2 bs ∧ VR ρ2 v2 v' ∧ Gam w0 ρ2 (heapOf bs) w := by
  unfold stateK at hk
  obtain ⟨hgood, hk⟩ := bcase_out hk
  let A : AAct := ⟨.leaf, 0, []⟩
  have hall : gcAll (endMu v H) [] A (gcB H (endMu v H) (endMu v H)) = true := by simp [gcAll, gcDef, hgood, A]
  let a : Act := ⟨#[], []⟩
  have ra : ActR ρ A a := ⟨rfl, fun t => by
    have e1 : A.slot t = undef := rfl
    have e2 : a.tmps.getD t undef = undef := rfl
    rw [e1, e2]; exact VR.undef _, ⟨rfl, fun j D e => by simp [A] at e⟩⟩
  obtain ⟨g2, _⟩ := gc_sub g ra (keep := []) hall
  exact ⟨_, _, _, hk, mapV_VR (gcGood_ok hgood) 8 _ _ hv, g2⟩

/-- A loop of a function, whatever its end is. -/
structure LoopGoodF (P : Program) (h : Handler) (L : AtLoop) (f : FuncId) (c : Code) (lv : Lv) (id : Nat) (F : Value → Heap → Prop) (X : Type) (st : X → Slots × Blocks) (inv : X → Prop) (m : X → Nat) : Prop where
  head : ∀ s b, L id s b → ∃ x, inv x ∧ st x = (s, b)
  flat : ((findLoop c lv id).map fun r => loopIds r.1) = some []
  round : ∀ x, inv x → wpRound P h L f id (st x).1 (st x).2 (fun s b => ∃ y, inv y ∧ m y < m x ∧ st y = (s, b))
    (fun i s b => if i = id then wpNext P h L f id .normal s b F else wpNext P h L f id (.exit i) s b F) F

theorem loopsOK_good (hh : HandlerOK P h) (hmix : P.follows .mixedOrders = true) {f : FuncId} {fn : Func} {c : Code} (hf : P.funcs[f]? = some fn) (hc : fn.body = some c) {F : Value → Heap → Prop} {ids : List Nat} (hids : loopIds c = ids) (hn : nodupB ids = true)
    (hl : ∀ id ∈ ids, ∃ X st inv m, LoopGoodF P h L f c (fnLv fn) id F X st inv m) : loopsOK P h L (fnSize fn) c (fnLv fn) (fnK P fn F) := by
  subst hids
  refine loopsOK_of c hn ?_
  intro id body l' hfl hr s bl hs
  obtain ⟨X, st, inv, m, hg⟩ := hl id (findLoop_ids c _ id hfl)
  obtain ⟨x, hx, he⟩ := hg.head s bl hs
  have e1 : (st x).1 = s := congrArg Prod.fst he
  have e2 : (st x).2 = bl := congrArg Prod.snd he
  have hin : loopIds body = [] := by have := hg.flat; rw [hfl] at this; simpa using this
  rw [stmt_loop hr hin]
  have := loop_rule (P := P) (h := h) (L := L) (sz := fnSize fn) hh hmix st inv m (id := id) (body := body) (l' := l') (k := fun e A H => wpAfter P h L c (fnLv fn) id e A H (fnK P fn F)) (R := fnK P fn F) hin
    (fun x hx => by
      have := hg.round x hx
      unfold wpRound at this
      simp only [hf, hc, hfl] at this
      have e : ∀ i s b, (if i = id then wpNext P h L f id .normal s b F else wpNext P h L f id (.exit i) s b F) = (if i = id then wpAfter P h L c (fnLv fn) id .normal (actOf (fnSize fn) s) (heapOf b) (fnK P fn F) else wpAfter P h L c (fnLv fn) id (.exit i) (actOf (fnSize fn) s) (heapOf b) (fnK P fn F)) := by
        intro i s b
        simp only [wpNext, hf, hc]
      simpa only [e] using this)
    (fun e A H he hR => by subst he; exact wpAfter_ret c (by rw [hfl]; rfl) hR)
    (fun e A H h1 h2 hR => by cases e <;> first | exact h1 rfl | exact h2 rfl | exact hR)
    x hx
  rw [e1, e2] at this
  exact this

/-- A FUNCTION IS PROVED, by what it does to the blocks that it reaches. -/
theorem callS_ofG (hh : HandlerOK P h) (hmix : P.follows .mixedOrders = true) {f : FuncId} {fn : Func} {c : Code} (hf : P.funcs[f]? = some fn) (hc : fn.body = some c) {args : List Value} {bs : Blocks} {K : Value → Blocks → Prop} (hsz2 : max args.toArray.size fn.ntmps = fnSize fn) {ids : List Nat} (hids : loopIds c = ids) (hn : nodupB ids = true)
    (hk : wpFn P h L 0 f args.toArray (heapOf bs) (stateK K))
    (hl : ∀ id ∈ ids, ∃ X st inv m, LoopGoodF P h L f c (fnLv fn) id (stateK K) X st inv m) : CallS P f args bs K := by
  intro w0 ρ w args' n g ha
  refine (wpFn_run (u := 0) (b := false) hh hmix (fun _ => rfl) hf hc hk (fun _ => by rw [hsz2]; exact loopsOK_good hh hmix hf hc hids hn hl) g n (by simpa using ha)).mono ?_
  rintro e w' ⟨v, H', ρ', v', hkv, rfl, hv, g', _⟩
  obtain ⟨v2, bs', ρ2, h1, h2, h3⟩ := stateK_out g' hv hkv
  exact ⟨v2, bs', ρ2, v', h1, rfl, h2, h3⟩
end Go.Abs

/- Handlers by a table hold if each entry does. -/
namespace Go.Abs
open Go.RowKit
variable {P : Program}
theorem saidH_ok {C : FuncId → List D → List D → Prop} (hC : ∀ f ds rs, C f ds rs → Con P f ds rs) : HandlerOK P (saidH P C) := by
  intro g args ats H k hk
  unfold saidH at hk
  split at hk
  · exact wpSaid_call hC hk
  · exact hk.elim
theorem fixH_ok {C : FuncId → List D → List D → Prop} (hC : ∀ f ds rs, C f ds rs → Con P f ds rs) {fix : List D → Option (List D)} : HandlerOK P (fixH C fix) := fun _ _ _ _ _ hk => wpFix_call hC hk
/-- (a state contract speaks of one function) -/
def PreOK (P : Program) (pre : FuncId → Option Handler) : Prop := ∀ g h, pre g = some h → ∀ args ats H k, h g args ats H k → CallH P g args H k
theorem handlerX_ok (hmix : P.follows .mixedOrders = true) {pre : FuncId → Option Handler} (hp : PreOK P pre) {u : Nat} (hu : u ≠ 0) : ∀ n, HandlerOK P (handlerX P pre u n)
  | 0 => fun _ _ _ _ _ h => h.elim
  | n + 1 => fun g args ats H k hk => by
    simp only [handlerX] at hk
    split at hk
    · rename_i h he
      exact hp g h he args ats H k hk
    · exact wpFn_call (handlerX_ok hmix hp hu n) hmix hu hk
theorem limC_of {g : FuncId} {lo hi e : Int} {n es : Nat} {cs : List Value} (h : e = limE lo hi cs) : limC g [.val (.int .i64 lo), .val (.int .i64 hi), .sl n es cs] [.val (.int .i64 e)] := h
theorem limC_out {g : FuncId} {lo hi e : Int} {n es : Nat} {cs : List Value} (h : Says limC g [.val (.int .i64 lo), .val (.int .i64 hi), .sl n es cs] [.val (.int .i64 e)]) : e = limE lo hi cs := h.out
theorem falseH_ok : HandlerOK P (fun _ _ _ _ _ => False) := fun _ _ _ _ _ h => h.elim
/-- A function whose loops are walked round by round. -/
theorem callS_walk {h : Handler} (hh : HandlerOK P h) (hmix : P.follows .mixedOrders = true) {u : Nat} (hu : u ≠ 0) {f : FuncId} {fn : Func} {c : Code} (hf : P.funcs[f]? = some fn) (hc : fn.body = some c) {args : List Value} {bs : Blocks} {K : Value → Blocks → Prop}
    (hk : wpFn P h (fun _ _ _ => False) u f args.toArray (heapOf bs) (stateK K)) : CallS P f args bs K := by
  intro w0 ρ w args' n g ha
  refine (wpFn_run (u := u) (b := false) hh hmix (fun h0 => absurd h0 hu) hf hc hk (fun h0 => absurd h0 hu) g n (by simpa using ha)).mono ?_
  rintro e w' ⟨v, H', ρ', v', hkv, rfl, hv, g', _⟩
  obtain ⟨v2, bs', ρ2, h1, h2, h3⟩ := stateK_out g' hv hkv
  exact ⟨v2, bs', ρ2, v', h1, rfl, h2, h3⟩
theorem callS_mono {f : FuncId} {args : List Value} {bs : Blocks} {K K' : Value → Blocks → Prop} (h : CallS P f args bs K) (hk : ∀ v b, K v b → K' v b) : CallS P f args bs K' := by
  intro w0 ρ w args' n g ha
  refine (h w0 ρ w args' n g ha).mono ?_
  rintro e w' ⟨v2, bs', ρ2, v', h1, h2, h3, h4⟩
  exact ⟨v2, bs', ρ2, v', hk _ _ h1, h2, h3, h4⟩
abbrev limBs (ti : TypeId) (cs : List Value) (lo hi : Int) : Blocks := [(900, .cells cs ti false 1), (901, .cells [.int .i64 lo] ti false 1), (902, .cells [.int .i64 hi] ti false 1)]
abbrev limArgs (n cap : Nat) : List Value := [.slice (some ⟨900, 0, none⟩) n cap, .pointer (some ⟨901, 0, none⟩), .pointer (some ⟨902, 0, none⟩)]
/-- What is left to show of the function that limit returns. -/
def limGoal (P : Program) (f : FuncId) (ti : TypeId) (n : Nat) (cs : List Value) (cap : Nat) (lo hi : Int) (K : Value → Blocks → Prop) : Prop :=
  wpFn P (fun _ _ _ _ _ => False) (fun _ _ _ => False) 6 f (limArgs n cap).toArray (heapOf (limBs ti cs lo hi)) (stateK K)
structure LimGood (P : Program) (f : FuncId) (ti : TypeId) : Prop where
  mix : P.follows .mixedOrders = true
  fn : ∃ fn c, P.funcs[f]? = some fn ∧ fn.body = some c
  one : ∀ cap lo hi x, limGoal P f ti 1 [.int .i64 x] cap lo hi (fun v b => v = .int .i64 (limE lo hi [.int .i64 x]) ∧ b = limBs ti [.int .i64 x] lo hi)
  two : ∀ cap lo hi x y, limGoal P f ti 2 [.int .i64 x, .int .i64 y] cap lo hi (fun v b => v = .int .i64 (limE lo hi [.int .i64 x, .int .i64 y]) ∧ b = limBs ti [.int .i64 x, .int .i64 y] lo hi)
  three : ∀ cap lo hi x y z, limGoal P f ti 3 [.int .i64 x, .int .i64 y, .int .i64 z] cap lo hi (fun v b => v = .int .i64 (limE lo hi [.int .i64 x, .int .i64 y, .int .i64 z]) ∧ b = limBs ti [.int .i64 x, .int .i64 y, .int .i64 z] lo hi)
  four : ∀ cap lo hi x y z u, limGoal P f ti 4 [.int .i64 x, .int .i64 y, .int .i64 z, .int .i64 u] cap lo hi (fun v b => v = .int .i64 (limE lo hi [.int .i64 x, .int .i64 y, .int .i64 z, .int .i64 u]) ∧ b = limBs ti [.int .i64 x, .int .i64 y, .int .i64 z, .int .i64 u] lo hi)
theorem lim_ok {f : FuncId} {ti : TypeId} (g : LimGood P f ti) {args : List Value} {bs : Blocks} {K : Value → Blocks → Prop} (hk : limAll ti args bs K) : CallS P f args bs K := by
  obtain ⟨fn, c, hf, hc⟩ := g.fn
  have run : ∀ {n : Nat} {cs : List Value} {cap : Nat} {lo hi : Int}, limGoal P f ti n cs cap lo hi (fun v b => v = .int .i64 (limE lo hi cs) ∧ b = limBs ti cs lo hi) → limOut lo hi cs (limBs ti cs lo hi) K → CallS P f (limArgs n cap) (limBs ti cs lo hi) K := by
    intro n cs cap lo hi h1 h2
    refine callS_mono (callS_walk falseH_ok g.mix (by decide) hf hc h1) ?_
    rintro v b ⟨rfl, rfl⟩
    obtain ⟨e, he, hK⟩ := h2
    rw [← limC_out he]; exact hK
  unfold limAll at hk
  split at hk
  · unfold limSpec at hk
    split at hk
    · rename_i e2
      split at hk
      · rename_i hc
        simp only [Bool.and_eq_true, beq_iff_eq] at hc
        obtain ⟨⟨⟨⟨⟨⟨⟨⟨⟨⟨⟨⟨⟨⟨⟨⟨rfl, rfl⟩, rfl⟩, rfl⟩, rfl⟩, rfl⟩, rfl⟩, rfl⟩, rfl⟩, rfl⟩, rfl⟩, rfl⟩, rfl⟩, rfl⟩, rfl⟩, hm⟩, hl⟩ := hc
        rw [e2]
        split at hk
        · subst hm; exact run (g.one _ _ _ _) hk
        · subst hm; exact run (g.two _ _ _ _ _) hk
        · subst hm; exact run (g.three _ _ _ _ _ _) hk
        · subst hm; exact run (g.four _ _ _ _ _ _ _) hk
        · exact hk.elim
      · exact hk.elim
    · exact hk.elim
  · exact hk.elim
end Go.Abs

/- Pairs of whole numbers as cells. -/
namespace Go.Abs
theorem bc_t {p : Prop} [Decidable p] {x y : Prop} (h : p) : bcase (decide p) x y = x := by rw [decide_eq_true h]; rfl
/-- pairs of whole numbers as cells -/
def vp : List (Int × Int) → List Value
  | [] => []
  | p :: r => .int .i64 p.1 :: .int .i64 p.2 :: vp r
@[simp] theorem vp_length : ∀ l : List (Int × Int), (vp l).length = l.length * 2
  | [] => rfl
  | p :: r => by simp only [vp, List.length_cons, vp_length r]; omega
theorem vp_drop : ∀ (l : List (Int × Int)) (i : Nat), (vp l).drop (i * 2) = vp (l.drop i)
  | l, 0 => by simp
  | [], i + 1 => by simp [vp]
  | p :: r, i + 1 => by
    rw [Nat.add_mul]
    simp only [vp, Nat.one_mul, List.drop_succ_cons]
    exact vp_drop r i
theorem vp_two (l : List (Int × Int)) (i : Nat) (h : i < l.length) : At (vp l) (0 + i * 2) 2 [.int .i64 l[i].1, .int .i64 l[i].2] := by
  refine ⟨by rw [vp_length]; omega, ?_⟩
  rw [Nat.zero_add, vp_drop, List.drop_eq_getElem_cons h]
  rfl
theorem vp_one (l : List (Int × Int)) (i : Nat) (h : i < l.length) : At (vp l) (0 + i * 2) 1 [.int .i64 l[i].1] := by
  refine ⟨by rw [vp_length]; omega, ?_⟩
  rw [Nat.zero_add, vp_drop, List.drop_eq_getElem_cons h]
  rfl
theorem vp_snd (l : List (Int × Int)) (i : Nat) (h : i < l.length) : At (vp l) (0 + i * 2 + 1) 1 [.int .i64 l[i].2] := by
  refine ⟨by rw [vp_length]; omega, ?_⟩
  rw [Nat.zero_add, ← List.drop_drop, vp_drop, List.drop_eq_getElem_cons h]
  rfl
theorem vp_whole (l : List (Int × Int)) : List.take (l.length * 2) (List.drop 0 (vp l)) = vp l := by simp [List.take_of_length_le]
theorem load2 {ps : List Value} {k : Nat} {a b : Int} (h : At ps k 2 [.int .i64 a, .int .i64 b]) : (∃ n5 : Int, ∃ n6 : Int, At ps k 2 [.int .i64 n5, .int .i64 n6] ∧ (Value.agg [.int .i64 n5, .int .i64 n6].toArray = Value.agg [.int .i64 a, .int .i64 b].toArray)) = True :=
  eq_true ⟨a, b, h, rfl⟩
theorem bc_n {a b : Int} {x y : Prop} (h : a ≠ b) : bcase (a != b) x y = x := by rw [show (a != b) = true by simpa using h]; rfl
/-- what is loaded is what is there -/
theorem at1 {l : List Value} {k : Nat} {a : Int} (h : At l k 1 [.int .i64 a]) {Q : Int → Prop} : (∃ n : Int, At l k 1 [.int .i64 n] ∧ Q n) = Q a := by
  apply propext
  constructor
  · rintro ⟨n, hn, hq⟩
    have e := hn.eq.symm.trans h.eq
    simp only [List.cons.injEq, Value.int.injEq, true_and, and_true] at e
    rw [← e]; exact hq
  · intro hq; exact ⟨a, h, hq⟩
theorem vp_sndA (l : List (Int × Int)) (i : Nat) (h : i < l.length) (b : Nat) : At (vp l) (Addr.off ⟨b, 0 + i * 2, none⟩ + 1) 1 [.int .i64 l[i].2] := vp_snd l i h
abbrev dI (n : Int) : D := .val (.int .i64 n)
/-- the first number that is not naught -/
def fst0 : List Int → Int
  | [] => 0
  | p :: r => if p = 0 then fst0 r else p
theorem fst0_two (a b : Int) : fst0 [a, b] = if a = 0 then b else a := by
  simp only [fst0]
  split
  · split
    · omega
    · rfl
  · rfl
end Go.Abs

/- The closure that limit(lo, hi) returns, handed a list of numbers of any length. -/
namespace Go.Abs
def limL (ti : TypeId) : SpecS := fun args bs K =>
  match args, bs with
  | [.slice (some ⟨i, 0, none⟩) m _, .pointer (some ⟨a, 0, none⟩), .pointer (some ⟨b, 0, none⟩)], [(i', .sym cs opn es), (a', .cells [.int .i64 lo] t2 o2 es2), (b', .cells [.int .i64 hi] t3 o3 es3)] =>
    if (i == 500 && i' == 500 && a == 900 && a' == 900 && b == 901 && b' == 901 && t2 == ti && t3 == ti && opn == false && o2 == false && o3 == false && es == 1 && es2 == 1 && es3 == 1) = true then
      ∃ l : List Int, cs = l.map (Value.int .i64) ∧ m = l.length ∧ l.length < 1000000000 ∧ ∃ e : Int, Says limC 0 [.val (.int .i64 lo), .val (.int .i64 hi), .sl m 1 cs] [.val (.int .i64 e)] ∧ K (.int .i64 e) [(900, .cells [.int .i64 lo] t2 o2 es2), (901, .cells [.int .i64 hi] t3 o3 es3)]
    else False
  | _, _ => limAll ti args bs K
/-- A slab conducts: numbers that are changed in place by their neighbours. -/
def mixAt (mix : Int) (l : List Int) (i : Nat) : Int := (mix * (l.getD (i - 1) 0 + l.getD (min (i + 1) (l.length - 1)) 0) + (100 - 2 * mix) * l.getD i 0) / 100
def mixL (mix : Int) (l : List Int) : List Int := (List.range l.length).map (mixAt mix l)
/-- numbers that are no temperatures far off -/
structure GoodNums (l : List Int) : Prop where
  all : ∀ z ∈ l, 0 ≤ z ∧ z ≤ 100000
def condP : SpecS := fun args bs K =>
  match args, bs with
  | [.agg cells], [(i', .sym _ o1 e1), (j', .sym cs o2 e2)] =>
    match cells.toList with
    | [.slice (some ⟨i, 0, none⟩) _ _, .int .i64 mix, .int .i64 _, .int .i64 _, .slice (some ⟨j, 0, none⟩) m _, .int .i64 _] =>
      if (i == 500 && i' == 500 && j == 900 && j' == 900 && o1 == false && o2 == true && e1 == 2 && e2 == 1) = true then
        ∃ l : List Int, cs = l.map (Value.int .i64) ∧ m = l.length ∧ 2 ≤ l.length ∧ l.length ≤ 1000 ∧ 0 ≤ mix ∧ mix ≤ 50 ∧ GoodNums l ∧ K (.tuple #[]) [(900, .sym ((mixL mix l).map (Value.int .i64)) true 1)]
      else False
    | _ => False
  | _, _ => False
def copyRul : List D → Option (List D)
  | [.agg [.nil, m, a, b]] => some [.agg [.sl 0 2 [], m, a, b]]
  | [.agg [.sl n es cs, m, a, b]] => some [.agg [.sl n es cs, m, a, b]]
  | _ => none
def copySla : List D → Option (List D)
  | [.agg [.nil, b]] => some [.agg [.sl 0 1 [], b]]
  | [.agg [.sl n es cs, b]] => some [.agg [.sl n es cs, b]]
  | _ => none
def copyNum : List D → Option (List D)
  | [.nil] => some [.sl 0 1 []]
  | [.sl n es cs] => some [.sl n es cs]
  | _ => none
end Go.Abs

/- Short names for what stands often in printed texts. -/
namespace Go.Abs
abbrev Pt (b o : Nat) : Value := .pointer (some ⟨b, o, none⟩)
abbrev Sl (b n c : Nat) : Value := .slice (some ⟨b, 0, none⟩) n c
abbrev Qv {α : Type} (x : α) : Prop := x = x
end Go.Abs

/- What is left to show of each function, written out; the kernel reckons it. -/
namespace Go.Proofs.G5j
open Go Go.Abs Go.Proofs
set_option maxRecDepth 100000
set_option linter.unusedVariables false
abbrev Ct := FuncId → List D → List D → Prop
abbrev Bx := Slots → Blocks → Prop
abbrev Xx := Nat → Slots → Blocks → Prop
abbrev vI (n : Int) : Value := .int .i64 n
abbrev P1 (b o : Nat) : Value := .pointer (some ⟨b, o, none⟩)
def lm1 (cap : Nat) (lo hi x : Int) (K : Value → Blocks → Prop) : Prop := wpFn Try.prog (fun _ _ _ _ _ => False) (fun _ _ _ => False) 6 71 #[.slice (some ⟨900, 0, none⟩) 1 cap, .pointer (some ⟨901, 0, none⟩), .pointer (some ⟨902, 0, none⟩)] (heapOf [(900, .cells [.int .i64 x] 3 false 1), (901, .cells [.int .i64 lo] 3 false 1), (902, .cells [.int .i64 hi] 3 false 1)]) (stateK K)
theorem lm1_text (cap : Nat) (lo : Int) (hi : Int) (x : Int) (K : Go.Value → Blocks → Prop) : lm1 cap lo hi x K =
 (bcase (decide (x < lo))
 (K (vI 2) [(Prod.mk 900 (AObj.cells [(vI x)] 3 false 1)), (Prod.mk 901 (AObj.cells [(vI lo)] 3 false 1)), (Prod.mk 902 (AObj.cells [(vI hi)] 3 false 1))])
 (bcase (decide (x > hi))
 (K (vI 2) [(Prod.mk 900 (AObj.cells [(vI x)] 3 false 1)), (Prod.mk 901 (AObj.cells [(vI lo)] 3 false 1)), (Prod.mk 902 (AObj.cells [(vI hi)] 3 false 1))])
 (K (vI 0) [(Prod.mk 900 (AObj.cells [(vI x)] 3 false 1)), (Prod.mk 901 (AObj.cells [(vI lo)] 3 false 1)), (Prod.mk 902 (AObj.cells [(vI hi)] 3 false 1))]))) := by kernel_rfl
def lm2 (cap : Nat) (lo hi x y : Int) (K : Value → Blocks → Prop) : Prop := wpFn Try.prog (fun _ _ _ _ _ => False) (fun _ _ _ => False) 6 71 #[.slice (some ⟨900, 0, none⟩) 2 cap, .pointer (some ⟨901, 0, none⟩), .pointer (some ⟨902, 0, none⟩)] (heapOf [(900, .cells [.int .i64 x, .int .i64 y] 3 false 1), (901, .cells [.int .i64 lo] 3 false 1), (902, .cells [.int .i64 hi] 3 false 1)]) (stateK K)
theorem lm2_text (cap : Nat) (lo : Int) (hi : Int) (x : Int) (y : Int) (K : Go.Value → Blocks → Prop) : lm2 cap lo hi x y K =
 (bcase (decide (x < lo))
 (K (vI 2) [(Prod.mk 900 (AObj.cells [(vI x), (vI y)] 3 false 1)), (Prod.mk 901 (AObj.cells [(vI lo)] 3 false 1)), (Prod.mk 902 (AObj.cells [(vI hi)] 3 false 1))])
 (bcase (decide (x > hi))
 (K (vI 2) [(Prod.mk 900 (AObj.cells [(vI x), (vI y)] 3 false 1)), (Prod.mk 901 (AObj.cells [(vI lo)] 3 false 1)), (Prod.mk 902 (AObj.cells [(vI hi)] 3 false 1))])
 (bcase (decide (y < lo))
 (K (vI 2) [(Prod.mk 900 (AObj.cells [(vI x), (vI y)] 3 false 1)), (Prod.mk 901 (AObj.cells [(vI lo)] 3 false 1)), (Prod.mk 902 (AObj.cells [(vI hi)] 3 false 1))])
 (bcase (decide (y > hi))
 (K (vI 2) [(Prod.mk 900 (AObj.cells [(vI x), (vI y)] 3 false 1)), (Prod.mk 901 (AObj.cells [(vI lo)] 3 false 1)), (Prod.mk 902 (AObj.cells [(vI hi)] 3 false 1))])
 (K (vI 0) [(Prod.mk 900 (AObj.cells [(vI x), (vI y)] 3 false 1)), (Prod.mk 901 (AObj.cells [(vI lo)] 3 false 1)), (Prod.mk 902 (AObj.cells [(vI hi)] 3 false 1))]))))) := by kernel_rfl
def lm3 (cap : Nat) (lo hi x y z : Int) (K : Value → Blocks → Prop) : Prop := wpFn Try.prog (fun _ _ _ _ _ => False) (fun _ _ _ => False) 6 71 #[.slice (some ⟨900, 0, none⟩) 3 cap, .pointer (some ⟨901, 0, none⟩), .pointer (some ⟨902, 0, none⟩)] (heapOf [(900, .cells [.int .i64 x, .int .i64 y, .int .i64 z] 3 false 1), (901, .cells [.int .i64 lo] 3 false 1), (902, .cells [.int .i64 hi] 3 false 1)]) (stateK K)
theorem lm3_text (cap : Nat) (lo : Int) (hi : Int) (x : Int) (y : Int) (z : Int) (K : Go.Value → Blocks → Prop) : lm3 cap lo hi x y z K =
 (bcase (decide (x < lo))
 (K (vI 2) [(Prod.mk 900 (AObj.cells [(vI x), (vI y), (vI z)] 3 false 1)), (Prod.mk 901 (AObj.cells [(vI lo)] 3 false 1)), (Prod.mk 902 (AObj.cells [(vI hi)] 3 false 1))])
 (bcase (decide (x > hi))
 (K (vI 2) [(Prod.mk 900 (AObj.cells [(vI x), (vI y), (vI z)] 3 false 1)), (Prod.mk 901 (AObj.cells [(vI lo)] 3 false 1)), (Prod.mk 902 (AObj.cells [(vI hi)] 3 false 1))])
 (bcase (decide (y < lo))
 (K (vI 2) [(Prod.mk 900 (AObj.cells [(vI x), (vI y), (vI z)] 3 false 1)), (Prod.mk 901 (AObj.cells [(vI lo)] 3 false 1)), (Prod.mk 902 (AObj.cells [(vI hi)] 3 false 1))])
 (bcase (decide (y > hi))
 (K (vI 2) [(Prod.mk 900 (AObj.cells [(vI x), (vI y), (vI z)] 3 false 1)), (Prod.mk 901 (AObj.cells [(vI lo)] 3 false 1)), (Prod.mk 902 (AObj.cells [(vI hi)] 3 false 1))])
 (bcase (decide (z < lo))
 (K (vI 2) [(Prod.mk 900 (AObj.cells [(vI x), (vI y), (vI z)] 3 false 1)), (Prod.mk 901 (AObj.cells [(vI lo)] 3 false 1)), (Prod.mk 902 (AObj.cells [(vI hi)] 3 false 1))])
 (bcase (decide (z > hi))
 (K (vI 2) [(Prod.mk 900 (AObj.cells [(vI x), (vI y), (vI z)] 3 false 1)), (Prod.mk 901 (AObj.cells [(vI lo)] 3 false 1)), (Prod.mk 902 (AObj.cells [(vI hi)] 3 false 1))])
 (K (vI 0) [(Prod.mk 900 (AObj.cells [(vI x), (vI y), (vI z)] 3 false 1)), (Prod.mk 901 (AObj.cells [(vI lo)] 3 false 1)), (Prod.mk 902 (AObj.cells [(vI hi)] 3 false 1))]))))))) := by kernel_rfl
def lm4 (cap : Nat) (lo hi x y z u : Int) (K : Value → Blocks → Prop) : Prop := wpFn Try.prog (fun _ _ _ _ _ => False) (fun _ _ _ => False) 6 71 #[.slice (some ⟨900, 0, none⟩) 4 cap, .pointer (some ⟨901, 0, none⟩), .pointer (some ⟨902, 0, none⟩)] (heapOf [(900, .cells [.int .i64 x, .int .i64 y, .int .i64 z, .int .i64 u] 3 false 1), (901, .cells [.int .i64 lo] 3 false 1), (902, .cells [.int .i64 hi] 3 false 1)]) (stateK K)
theorem lm4_text (cap : Nat) (lo : Int) (hi : Int) (x : Int) (y : Int) (z : Int) (u : Int) (K : Go.Value → Blocks → Prop) : lm4 cap lo hi x y z u K =
 (bcase (decide (x < lo))
 (K (vI 2) [(Prod.mk 900 (AObj.cells [(vI x), (vI y), (vI z), (vI u)] 3 false 1)), (Prod.mk 901 (AObj.cells [(vI lo)] 3 false 1)), (Prod.mk 902 (AObj.cells [(vI hi)] 3 false 1))])
 (bcase (decide (x > hi))
 (K (vI 2) [(Prod.mk 900 (AObj.cells [(vI x), (vI y), (vI z), (vI u)] 3 false 1)), (Prod.mk 901 (AObj.cells [(vI lo)] 3 false 1)), (Prod.mk 902 (AObj.cells [(vI hi)] 3 false 1))])
 (bcase (decide (y < lo))
 (K (vI 2) [(Prod.mk 900 (AObj.cells [(vI x), (vI y), (vI z), (vI u)] 3 false 1)), (Prod.mk 901 (AObj.cells [(vI lo)] 3 false 1)), (Prod.mk 902 (AObj.cells [(vI hi)] 3 false 1))])
 (bcase (decide (y > hi))
 (K (vI 2) [(Prod.mk 900 (AObj.cells [(vI x), (vI y), (vI z), (vI u)] 3 false 1)), (Prod.mk 901 (AObj.cells [(vI lo)] 3 false 1)), (Prod.mk 902 (AObj.cells [(vI hi)] 3 false 1))])
 (bcase (decide (z < lo))
 (K (vI 2) [(Prod.mk 900 (AObj.cells [(vI x), (vI y), (vI z), (vI u)] 3 false 1)), (Prod.mk 901 (AObj.cells [(vI lo)] 3 false 1)), (Prod.mk 902 (AObj.cells [(vI hi)] 3 false 1))])
 (bcase (decide (z > hi))
 (K (vI 2) [(Prod.mk 900 (AObj.cells [(vI x), (vI y), (vI z), (vI u)] 3 false 1)), (Prod.mk 901 (AObj.cells [(vI lo)] 3 false 1)), (Prod.mk 902 (AObj.cells [(vI hi)] 3 false 1))])
 (bcase (decide (u < lo))
 (K (vI 2) [(Prod.mk 900 (AObj.cells [(vI x), (vI y), (vI z), (vI u)] 3 false 1)), (Prod.mk 901 (AObj.cells [(vI lo)] 3 false 1)), (Prod.mk 902 (AObj.cells [(vI hi)] 3 false 1))])
 (bcase (decide (u > hi))
 (K (vI 2) [(Prod.mk 900 (AObj.cells [(vI x), (vI y), (vI z), (vI u)] 3 false 1)), (Prod.mk 901 (AObj.cells [(vI lo)] 3 false 1)), (Prod.mk 902 (AObj.cells [(vI hi)] 3 false 1))])
 (K (vI 0) [(Prod.mk 900 (AObj.cells [(vI x), (vI y), (vI z), (vI u)] 3 false 1)), (Prod.mk 901 (AObj.cells [(vI lo)] 3 false 1)), (Prod.mk 902 (AObj.cells [(vI hi)] 3 false 1))]))))))))) := by kernel_rfl
def preH (C : Ct) : FuncId → Option Handler := fun g => if g == 71 then some (stateH (limL 3)) else if g == 56 then some (stateH condP) else if g == 12 then some (fixH C copyRul) else if g == 9 then some (fixH C copySla) else if g == 32 then some (fixH C copyNum) else if g == 70 then some (fixH C copyNum) else if [5, 34, 36, 35, 69, 59, 79, 68, 52, 53, 57, 999999, 999999, 999999, 11, 67, 40, 51, 30, 13, 82, 999999, 999999, 76, 77, 78, 999999, 999999, 27, 16, 999999, 83, 999999, 999999, 7].contains g then some (saidH Try.prog C) else none
abbrev hH (C : Ct) : Handler := handlerX Try.prog (preH C) 12 6
abbrev hE (C : Ct) : Handler := handlerX Try.prog (fun _ => none) 12 6
def gLo (C : Ct) (L : AtLoop) (lo : Int) (hi : Int) (n0 : Nat) (c0 : Nat) (l0 : List Value) (K : Value → Blocks → Prop) : Prop := wpFn Try.prog (hE C) L 0 71 #[.slice (some ⟨500, 0, none⟩) n0 c0, .pointer (some ⟨900, 0, none⟩), .pointer (some ⟨901, 0, none⟩)] (heapOf [(500, .sym l0 false 1), (900, .cells [.int .i64 lo] 3 false 1), (901, .cells [.int .i64 hi] 3 false 1)]) (stateK K)
theorem gLo_text (C : Ct) (L : AtLoop) (lo : Int) (hi : Int) (n0 : Nat) (c0 : Nat) (l0 : List Go.Value) (K : Go.Value → Blocks → Prop) : gLo C L lo hi n0 c0 l0 K =
 (L 0 [(Prod.mk 1 (Pt 900 0)), (Prod.mk 2 (Pt 901 0)), (Prod.mk 7 (Sl 500 (n0) (c0))), (Prod.mk 8 (vI ((↑n0 : Int)))), (Prod.mk 9 (vI 0))] [(Prod.mk 900 (AObj.cells [(vI lo)] 3 false 1)), (Prod.mk 901 (AObj.cells [(vI hi)] 3 false 1)), (Prod.mk 500 (AObj.sym (l0) false 1))]) := by kernel_rfl
abbrev zLo1 (n0 : Nat) (c1 : Nat) (x2 : Int) (x3 : Int) (x4 : Int) (x5 : Int) (l6 : List Value) : Slots × Blocks := ([(1, (Value.pointer (some ⟨900, 0, none⟩))), (2, (Value.pointer (some ⟨901, 0, none⟩))), (7, (Value.slice (some ⟨500, 0, none⟩) n0 c1)), (8, (Value.int .i64 x2)), (9, (Value.int .i64 x3))], [(900, (AObj.cells [(Value.int .i64 x4)] 3 false 1)), (901, (AObj.cells [(Value.int .i64 x5)] 3 false 1)), (500, (AObj.sym l6 false 1))])
def rLo1 (C : Ct) (L : AtLoop) (n0 : Nat) (c1 : Nat) (x2 : Int) (x3 : Int) (x4 : Int) (x5 : Int) (l6 : List Value) (B : Bx) (X : Xx) (K : Value → Blocks → Prop) : Prop := wpRound Try.prog (hE C) L 71 0 [(1, (Value.pointer (some ⟨900, 0, none⟩))), (2, (Value.pointer (some ⟨901, 0, none⟩))), (7, (Value.slice (some ⟨500, 0, none⟩) n0 c1)), (8, (Value.int .i64 x2)), (9, (Value.int .i64 x3))] [(900, (AObj.cells [(Value.int .i64 x4)] 3 false 1)), (901, (AObj.cells [(Value.int .i64 x5)] 3 false 1)), (500, (AObj.sym l6 false 1))] B X (stateK K)
theorem rLo1_text (C : Ct) (L : AtLoop) (n0 : Nat) (c1 : Nat) (x2 : Int) (x3 : Int) (x4 : Int) (x5 : Int) (l6 : List Go.Value) (B : Bx) (X : Xx) (K : Go.Value → Blocks → Prop) : rLo1 C L n0 c1 x2 x3 x4 x5 l6 B X K =
 (bcase (decide (x3 < x2))
 (bcase (decide (0 ≤ x3))
 (bcase (decide (x3 < (↑n0 : Int)))
 (∃ n1 : Int,
 ((At (l6) (0 + Int.toNat x3 * 1) 1 [(vI n1)]) ∧
 (bcase (decide (n1 < x4))
 (K (vI 2) [(Prod.mk 900 (AObj.cells [(vI x4)] 3 false 1)), (Prod.mk 901 (AObj.cells [(vI x5)] 3 false 1))])
 (bcase (decide (n1 > x5))
 (K (vI 2) [(Prod.mk 900 (AObj.cells [(vI x4)] 3 false 1)), (Prod.mk 901 (AObj.cells [(vI x5)] 3 false 1))])
 (B [(Prod.mk 1 (Pt 900 0)), (Prod.mk 2 (Pt 901 0)), (Prod.mk 7 (Sl 500 (n0) (c1))), (Prod.mk 8 (vI x2)), (Prod.mk 9 (vI (IntKind.wrap .i64 (x3 + 1))))] [(Prod.mk 900 (AObj.cells [(vI x4)] 3 false 1)), (Prod.mk 901 (AObj.cells [(vI x5)] 3 false 1)), (Prod.mk 500 (AObj.sym (l6) false 1))])))))
 False)
 False)
 (X 0 [] [(Prod.mk 900 (AObj.cells [(vI x4)] 3 false 1)), (Prod.mk 901 (AObj.cells [(vI x5)] 3 false 1))])) := by kernel_rfl
def nLo2 (C : Ct) (L : AtLoop) (x0 : Int) (x1 : Int) (K : Value → Blocks → Prop) : Prop := wpNext Try.prog (hE C) L 71 0 .normal [] [(900, (AObj.cells [(Value.int .i64 x0)] 3 false 1)), (901, (AObj.cells [(Value.int .i64 x1)] 3 false 1))] (stateK K)
theorem nLo2_text (C : Ct) (L : AtLoop) (x0 : Int) (x1 : Int) (K : Go.Value → Blocks → Prop) : nLo2 C L x0 x1 K =
 (K (vI 0) [(Prod.mk 900 (AObj.cells [(vI x0)] 3 false 1)), (Prod.mk 901 (AObj.cells [(vI x1)] 3 false 1))]) := by kernel_rfl
def gCo (C : Ct) (L : AtLoop) (mi : Int) (a : Int) (b : Int) (bo : Int) (n0 : Nat) (c0 : Nat) (l0 : List Value) (n1 : Nat) (c1 : Nat) (l1 : List Value) (K : Value → Blocks → Prop) : Prop := wpFn Try.prog (hE C) L 0 56 #[.agg #[.slice (some ⟨500, 0, none⟩) n0 c0, .int .i64 mi, .int .i64 a, .int .i64 b, .slice (some ⟨900, 0, none⟩) n1 c1, .int .i64 bo]] (heapOf [(500, .sym l0 false 2), (900, .sym l1 true 1)]) (stateK K)
theorem gCo_text (C : Ct) (L : AtLoop) (mi : Int) (a : Int) (b : Int) (bo : Int) (n0 : Nat) (c0 : Nat) (l0 : List Go.Value) (n1 : Nat) (c1 : Nat) (l1 : List Go.Value) (K : Go.Value → Blocks → Prop) : gCo C L mi a b bo n0 c0 l0 n1 c1 l1 K =
 (bcase (decide (0 < (↑n1 : Int)))
 (∃ n2 : Int,
 ((At (l1) 0 1 [(vI n2)]) ∧
 (L 0 [(Prod.mk 1 (Pt 1000 0)), (Prod.mk 2 (vI n2)), (Prod.mk 13 (Sl 900 (n1) (c1))), (Prod.mk 14 (vI ((↑n1 : Int)))), (Prod.mk 15 (vI 0))] [(Prod.mk 1000 (AObj.cells [(Sl 500 (n0) (c0)), (vI mi), (vI a), (vI b), (Sl 900 (n1) (c1)), (vI bo)] 78 false 1)), (Prod.mk 900 (AObj.sym (l1) true 1)), (Prod.mk 500 (AObj.sym (l0) false 2))])))
 False) := by kernel_rfl
abbrev zCo1 (x0 : Int) (n1 : Nat) (c2 : Nat) (x3 : Int) (x4 : Int) (n5 : Nat) (c6 : Nat) (x7 : Int) (x8 : Int) (x9 : Int) (n10 : Nat) (c11 : Nat) (x12 : Int) (l13 : List Value) (l14 : List Value) : Slots × Blocks := ([(1, (Value.pointer (some ⟨1000, 0, none⟩))), (2, (Value.int .i64 x0)), (13, (Value.slice (some ⟨900, 0, none⟩) n1 c2)), (14, (Value.int .i64 x3)), (15, (Value.int .i64 x4))], [(1000, (AObj.cells [(Value.slice (some ⟨500, 0, none⟩) n5 c6), (Value.int .i64 x7), (Value.int .i64 x8), (Value.int .i64 x9), (Value.slice (some ⟨900, 0, none⟩) n10 c11), (Value.int .i64 x12)] 78 false 1)), (900, (AObj.sym l13 true 1)), (500, (AObj.sym l14 false 2))])
def rCo1 (C : Ct) (L : AtLoop) (x0 : Int) (n1 : Nat) (c2 : Nat) (x3 : Int) (x4 : Int) (n5 : Nat) (c6 : Nat) (x7 : Int) (x8 : Int) (x9 : Int) (n10 : Nat) (c11 : Nat) (x12 : Int) (l13 : List Value) (l14 : List Value) (B : Bx) (X : Xx) (K : Value → Blocks → Prop) : Prop := wpRound Try.prog (hE C) L 56 0 [(1, (Value.pointer (some ⟨1000, 0, none⟩))), (2, (Value.int .i64 x0)), (13, (Value.slice (some ⟨900, 0, none⟩) n1 c2)), (14, (Value.int .i64 x3)), (15, (Value.int .i64 x4))] [(1000, (AObj.cells [(Value.slice (some ⟨500, 0, none⟩) n5 c6), (Value.int .i64 x7), (Value.int .i64 x8), (Value.int .i64 x9), (Value.slice (some ⟨900, 0, none⟩) n10 c11), (Value.int .i64 x12)] 78 false 1)), (900, (AObj.sym l13 true 1)), (500, (AObj.sym l14 false 2))] B X (stateK K)
theorem rCo1_text (C : Ct) (L : AtLoop) (x0 : Int) (n1 : Nat) (c2 : Nat) (x3 : Int) (x4 : Int) (n5 : Nat) (c6 : Nat) (x7 : Int) (x8 : Int) (x9 : Int) (n10 : Nat) (c11 : Nat) (x12 : Int) (l13 : List Go.Value) (l14 : List Go.Value) (B : Bx) (X : Xx) (K : Go.Value → Blocks → Prop) : rCo1 C L x0 n1 c2 x3 x4 n5 c6 x7 x8 x9 n10 c11 x12 l13 l14 B X K =
 (bcase (decide (x4 < x3))
 (bcase (decide (0 ≤ x4))
 (bcase (decide (x4 < (↑n1 : Int)))
 (∃ n2 : Int,
 ((At (l13) (0 + Int.toNat x4 * 1) 1 [(vI n2)]) ∧
 (bcase (decide (0 ≤ if IntKind.wrap .i64 ((↑n10 : Int) - 1) < IntKind.wrap .i64 (x4 + 1) then IntKind.wrap .i64 ((↑n10 : Int) - 1) else IntKind.wrap .i64 (x4 + 1)))
 (bcase (decide ((if IntKind.wrap .i64 ((↑n10 : Int) - 1) < IntKind.wrap .i64 (x4 + 1) then IntKind.wrap .i64 ((↑n10 : Int) - 1) else IntKind.wrap .i64 (x4 + 1)) < (↑n10 : Int)))
 (∃ n3 : Int,
 ((At (l13) (0 + Int.toNat (if IntKind.wrap .i64 ((↑n10 : Int) - 1) < IntKind.wrap .i64 (x4 + 1) then IntKind.wrap .i64 ((↑n10 : Int) - 1) else IntKind.wrap .i64 (x4 + 1)) * 1) 1 [(vI n3)]) ∧
 (bcase (decide (0 ≤ x4))
 (bcase (decide (x4 < (↑n10 : Int)))
 (bcase (decide (0 + Int.toNat x4 * 1 + 1 ≤ List.length l13))
 (B [(Prod.mk 1 (Pt 1000 0)), (Prod.mk 2 (vI n2)), (Prod.mk 13 (Sl 900 (n1) (c2))), (Prod.mk 14 (vI x3)), (Prod.mk 15 (vI (IntKind.wrap .i64 (x4 + 1))))] [(Prod.mk 1000 (AObj.cells [(Sl 500 (n5) (c6)), (vI x7), (vI x8), (vI x9), (Sl 900 (n10) (c11)), (vI x12)] 78 false 1)), (Prod.mk 900 (AObj.sym (listSet (l13) (0 + Int.toNat x4 * 1) [(vI (IntKind.wrap .i64 (Int.tdiv (IntKind.wrap .i64 (IntKind.wrap .i64 (x7 * IntKind.wrap .i64 (x0 + n3)) + IntKind.wrap .i64 (IntKind.wrap .i64 (100 - IntKind.wrap .i64 (2 * x7)) * n2))) 100)))]) true 1)), (Prod.mk 500 (AObj.sym (l14) false 2))])
 False)
 False)
 False)))
 False)
 False)))
 False)
 False)
 (X 0 [] [(Prod.mk 900 (AObj.sym (l13) true 1))])) := by kernel_rfl
def nCo2 (C : Ct) (L : AtLoop) (l0 : List Value) (K : Value → Blocks → Prop) : Prop := wpNext Try.prog (hE C) L 56 0 .normal [] [(900, (AObj.sym l0 true 1))] (stateK K)
theorem nCo2_text (C : Ct) (L : AtLoop) (l0 : List Go.Value) (K : Go.Value → Blocks → Prop) : nCo2 C L l0 K =
 (K (Value.tuple [].toArray) [(Prod.mk 900 (AObj.sym (l0) true 1))]) := by kernel_rfl
def gFE (C : Ct) (L : AtLoop) (n0 : Nat) (c0 : Nat) (l0 : List Value) (k : List D → Prop) : Prop := wpFn Try.prog (hE C) L 0 34 #[.slice (some ⟨500, 0, none⟩) n0 c0] (heapOf [(500, .sym l0 false 1)]) (dataK k)
theorem gFE_text (C : Ct) (L : AtLoop) (n0 : Nat) (c0 : Nat) (l0 : List Go.Value) (k : List D → Prop) : gFE C L n0 c0 l0 k =
 (L 0 [(Prod.mk 5 (Sl 500 (n0) (c0))), (Prod.mk 6 (vI ((↑n0 : Int)))), (Prod.mk 7 (vI 0))] [(Prod.mk 500 (AObj.sym (l0) false 1))]) := by kernel_rfl
abbrev zFE1 (n0 : Nat) (c1 : Nat) (x2 : Int) (x3 : Int) (l4 : List Value) : Slots × Blocks := ([(5, (Value.slice (some ⟨500, 0, none⟩) n0 c1)), (6, (Value.int .i64 x2)), (7, (Value.int .i64 x3))], [(500, (AObj.sym l4 false 1))])
def rFE1 (C : Ct) (L : AtLoop) (n0 : Nat) (c1 : Nat) (x2 : Int) (x3 : Int) (l4 : List Value) (B : Bx) (X : Xx) (k : List D → Prop) : Prop := wpRound Try.prog (hE C) L 34 0 [(5, (Value.slice (some ⟨500, 0, none⟩) n0 c1)), (6, (Value.int .i64 x2)), (7, (Value.int .i64 x3))] [(500, (AObj.sym l4 false 1))] B X (dataK k)
theorem rFE1_text (C : Ct) (L : AtLoop) (n0 : Nat) (c1 : Nat) (x2 : Int) (x3 : Int) (l4 : List Go.Value) (B : Bx) (X : Xx) (k : List D → Prop) : rFE1 C L n0 c1 x2 x3 l4 B X k =
 (bcase (decide (x3 < x2))
 (bcase (decide (0 ≤ x3))
 (bcase (decide (x3 < (↑n0 : Int)))
 (∃ n1 : Int,
 ((At (l4) (0 + Int.toNat x3 * 1) 1 [(vI n1)]) ∧
 (bcase (n1 != 0)
 (k [(D.val (vI n1))])
 (B [(Prod.mk 5 (Sl 500 (n0) (c1))), (Prod.mk 6 (vI x2)), (Prod.mk 7 (vI (IntKind.wrap .i64 (x3 + 1))))] [(Prod.mk 500 (AObj.sym (l4) false 1))]))))
 False)
 False)
 (X 0 [] [])) := by kernel_rfl
def nFE2 (C : Ct) (L : AtLoop) (k : List D → Prop) : Prop := wpNext Try.prog (hE C) L 34 0 .normal [] [] (dataK k)
theorem nFE2_text (C : Ct) (L : AtLoop) (k : List D → Prop) : nFE2 C L k =
 (k [(D.val (vI 0))]) := by kernel_rfl
def gcT (C : Ct) (L : AtLoop) (n0 : Nat) (c0 : Nat) (l0 : List Value) (k : List D → Prop) : Prop := wpFn Try.prog (hH C) L 0 36 #[.slice (some ⟨500, 0, none⟩) n0 c0] (heapOf [(500, .sym l0 false 1)]) (dataK k)
theorem gcT_text (C : Ct) (L : AtLoop) (n0 : Nat) (c0 : Nat) (l0 : List Go.Value) (k : List D → Prop) : gcT C L n0 c0 l0 k =
 (∃ l1 : List Int,
 (((l0) = (List.map (vI) l1)) ∧
 (((n0) = (List.length l1)) ∧
 (((List.length l1) < 1000000000) ∧
 (∃ e1 : Int,
 ((Says limC 0 [(D.val (vI 0)), (D.val (vI 20000)), (D.sl (n0) 1 (l0))] [(D.val (vI e1))]) ∧
 (k [(D.val (vI e1))]))))))) := by kernel_rfl
def gcP (C : Ct) (L : AtLoop) (n0 : Nat) (c0 : Nat) (l0 : List Value) (k : List D → Prop) : Prop := wpFn Try.prog (hH C) L 0 35 #[.slice (some ⟨500, 0, none⟩) n0 c0] (heapOf [(500, .sym l0 false 1)]) (dataK k)
theorem gcP_text (C : Ct) (L : AtLoop) (n0 : Nat) (c0 : Nat) (l0 : List Go.Value) (k : List D → Prop) : gcP C L n0 c0 l0 k =
 (∃ l1 : List Int,
 (((l0) = (List.map (vI) l1)) ∧
 (((n0) = (List.length l1)) ∧
 (((List.length l1) < 1000000000) ∧
 (∃ e1 : Int,
 ((Says limC 0 [(D.val (vI 0)), (D.val (vI 1000)), (D.sl (n0) 1 (l0))] [(D.val (vI e1))]) ∧
 (k [(D.val (vI e1))]))))))) := by kernel_rfl
def gcE (C : Ct) (L : AtLoop) (x0 : Int) (x1 : Int) (k : List D → Prop) : Prop := wpFn Try.prog (hH C) L 0 69 #[.agg #[.int .i64 x0, .int .i64 x1]] (heapOf []) (dataK k)
theorem gcE_text (C : Ct) (L : AtLoop) (x0 : Int) (x1 : Int) (k : List D → Prop) : gcE C L x0 x1 k =
 (bcase (decide (x0 > x1))
 (k [(D.val (vI 9))])
 (k [(D.val (vI 0))])) := by kernel_rfl
def gQu (C : Ct) (L : AtLoop) (x0 : Int) (x1 : Int) (k : List D → Prop) : Prop := wpFn Try.prog (hH C) L 0 59 #[.int .i64 x0, .int .i64 x1] (heapOf []) (dataK k)
theorem gQu_text (C : Ct) (L : AtLoop) (x0 : Int) (x1 : Int) (k : List D → Prop) : gQu C L x0 x1 k =
 (bcase (x1 != 0)
 (bcase (x1 != 0)
 (bcase (decide (Int.tmod x0 x1 < 0))
 (k [(D.val (vI (IntKind.wrap .i64 (IntKind.wrap .i64 (Int.tdiv x0 x1) - 1))))])
 (k [(D.val (vI (IntKind.wrap .i64 (Int.tdiv x0 x1))))]))
 False)
 False) := by kernel_rfl
def gRs (C : Ct) (L : AtLoop) (x0 : Int) (x1 : Int) (x2 : Int) (x3 : Int) (k : List D → Prop) : Prop := wpFn Try.prog (hH C) L 0 79 #[.agg #[.int .i64 x0, .int .i64 x1], .agg #[.int .i64 x2, .int .i64 x3]] (heapOf []) (dataK k)
theorem gRs_text (C : Ct) (L : AtLoop) (x0 : Int) (x1 : Int) (x2 : Int) (x3 : Int) (k : List D → Prop) : gRs C L x0 x1 x2 x3 k =
 (bcase (decide (x2 ≤ x0))
 (k [(D.val (vI 9))])
 (bcase (decide (x3 < x1))
 (k [(D.val (vI 9))])
 (bcase (decide (IntKind.wrap .i64 (x3 - x1) > IntKind.wrap .i64 (x2 - x0)))
 (k [(D.val (vI 22))])
 (k [(D.val (vI 0))])))) := by kernel_rfl
def gCT (C : Ct) (L : AtLoop) (n0 : Nat) (c0 : Nat) (l0 : List Value) (k : List D → Prop) : Prop := wpFn Try.prog (hH C) L 0 68 #[.agg #[.slice (some ⟨500, 0, none⟩) n0 c0]] (heapOf [(500, .sym l0 false 2)]) (dataK k)
theorem gCT_text (C : Ct) (L : AtLoop) (n0 : Nat) (c0 : Nat) (l0 : List Go.Value) (k : List D → Prop) : gCT C L n0 c0 l0 k =
 (bcase ((↑n0 : Int) == 0)
 (k [(D.val (vI 0)), (D.val (vI 10))])
 (bcase (decide ((↑n0 : Int) > 10))
 (k [(D.val (vI 0)), (D.val (vI 8))])
 (L 1 [(Prod.mk 1 (Pt 1000 0)), (Prod.mk 18 (Sl 500 (n0) (c0))), (Prod.mk 19 (vI ((↑n0 : Int)))), (Prod.mk 20 (vI 0))] [(Prod.mk 1000 (AObj.cells [(Sl 500 (n0) (c0))] 24 false 1)), (Prod.mk 500 (AObj.sym (l0) false 2))]))) := by kernel_rfl
abbrev zCT1 (n0 : Nat) (c1 : Nat) (x2 : Int) (x3 : Int) (n4 : Nat) (c5 : Nat) (l6 : List Value) : Slots × Blocks := ([(1, (Value.pointer (some ⟨1000, 0, none⟩))), (18, (Value.slice (some ⟨500, 0, none⟩) n0 c1)), (19, (Value.int .i64 x2)), (20, (Value.int .i64 x3))], [(1000, (AObj.cells [(Value.slice (some ⟨500, 0, none⟩) n4 c5)] 24 false 1)), (500, (AObj.sym l6 false 2))])
def rCT1 (C : Ct) (L : AtLoop) (n0 : Nat) (c1 : Nat) (x2 : Int) (x3 : Int) (n4 : Nat) (c5 : Nat) (l6 : List Value) (B : Bx) (X : Xx) (k : List D → Prop) : Prop := wpRound Try.prog (hH C) L 68 1 [(1, (Value.pointer (some ⟨1000, 0, none⟩))), (18, (Value.slice (some ⟨500, 0, none⟩) n0 c1)), (19, (Value.int .i64 x2)), (20, (Value.int .i64 x3))] [(1000, (AObj.cells [(Value.slice (some ⟨500, 0, none⟩) n4 c5)] 24 false 1)), (500, (AObj.sym l6 false 2))] B X (dataK k)
theorem rCT1_text (C : Ct) (L : AtLoop) (n0 : Nat) (c1 : Nat) (x2 : Int) (x3 : Int) (n4 : Nat) (c5 : Nat) (l6 : List Go.Value) (B : Bx) (X : Xx) (k : List D → Prop) : rCT1 C L n0 c1 x2 x3 n4 c5 l6 B X k =
 (bcase (decide (x3 < x2))
 (bcase (decide (0 ≤ x3))
 (bcase (decide (x3 < (↑n0 : Int)))
 (∃ n1 : Int,
 (∃ n2 : Int,
 ((At (l6) (0 + Int.toNat x3 * 2) 2 [(vI n1), (vI n2)]) ∧
 ((((Qv (Sl 1003 1 1)) ∧
 (Qv (some (AObj.cells [(vI n2)] 3 false 1)))) ∧
 ((Qv (vI n2)) ∧
 ((Qv (Pt 1001 1)) ∧
 (((Qv (Sl 1002 1 1)) ∧
 (Qv (some (AObj.cells [(vI n1)] 3 false 1)))) ∧
 ((Qv (vI n1)) ∧
 ((Qv (Pt 1001 0)) ∧
 True)))))) ∧
 (∃ n3 : Int,
 ((Says C 36 [(D.sl 1 1 [(vI n1)])] [(D.val (vI n3))]) ∧
 ((((Qv (Sl 1003 1 1)) ∧
 (Qv (some (AObj.cells [(vI n2)] 3 false 1)))) ∧
 ((Qv (vI n2)) ∧
 ((Qv (Pt 1001 1)) ∧
 ((Qv (vI n1)) ∧
 ((Qv (Pt 1001 0)) ∧
 True))))) ∧
 ((((Qv (Sl 1003 1 1)) ∧
 (Qv (some (AObj.cells [(vI n2)] 3 false 1)))) ∧
 ((Qv (vI n2)) ∧
 ((Qv (Pt 1001 1)) ∧
 ((Qv (vI n1)) ∧
 ((Qv (Pt 1001 0)) ∧
 True))))) ∧
 (∃ e1 : Int,
 ((Says limC 0 [(D.val (vI 0)), (D.val (vI 20000)), (D.sl 1 1 [(vI n2)])] [(D.val (vI e1))]) ∧
 ((((Qv (Sl 1006 2 2)) ∧
 (Qv (some (AObj.cells [(vI n3), (vI e1)] 43 false 1)))) ∧
 ((Qv (vI n2)) ∧
 ((Qv (Pt 1001 1)) ∧
 ((Qv (vI n1)) ∧
 ((Qv (Pt 1001 0)) ∧
 True))))) ∧
 (∃ n5 : Int,
 ((Says C 34 [(D.sl 2 1 [(vI n3), (vI e1)])] [(D.val (vI n5))]) ∧
 (((Qv (vI n2)) ∧
 ((Qv (Pt 1001 1)) ∧
 ((Qv (vI n1)) ∧
 ((Qv (Pt 1001 0)) ∧
 True)))) ∧
 (True ∧
 (bcase (decide (x3 > 0))
 (bcase (decide (0 ≤ IntKind.wrap .i64 (x3 - 1)))
 (bcase (decide (IntKind.wrap .i64 (x3 - 1) < (↑n4 : Int)))
 (∃ n6 : Int,
 (∃ n7 : Int,
 ((At (l6) (0 + Int.toNat (IntKind.wrap .i64 (x3 - 1)) * 2) 2 [(vI n6), (vI n7)]) ∧
 (((Qv (Value.agg [(vI n1), (vI n2)].toArray)) ∧
 ((∃ n8 : Int,
 (∃ n9 : Int,
 ((At (l6) (0 + Int.toNat (IntKind.wrap .i64 (x3 - 1)) * 2) 2 [(vI n8), (vI n9)]) ∧
 ((Value.agg [(vI n8), (vI n9)].toArray) = (Value.agg [(vI n6), (vI n7)].toArray))))) ∧
 ((bcase (decide (0 ≤ IntKind.wrap .i64 (x3 - 1)))
 (bcase (decide (IntKind.wrap .i64 (x3 - 1) < (↑n4 : Int)))
 (Qv (Pt 500 (0 + Int.toNat (IntKind.wrap .i64 (x3 - 1)) * 2)))
 False)
 False) ∧
 ((Qv (vI (IntKind.wrap .i64 (x3 - 1)))) ∧
 ((Qv (vI x3)) ∧
 ((Qv (Sl 500 (n4) (c5))) ∧
 ((Qv (Pt 1000 0)) ∧
 ((Qv (vI n5)) ∧
 True)))))))) ∧
 (∃ n8 : Int,
 ((Says C 79 [(D.agg [(D.val (vI n6)), (D.val (vI n7))]), (D.agg [(D.val (vI n1)), (D.val (vI n2))])] [(D.val (vI n8))]) ∧
 ((((Qv (Sl 1007 2 2)) ∧
 (Qv (some (AObj.cells [(vI n5), (vI n8)] 43 false 1)))) ∧
 ((bcase (decide (0 ≤ IntKind.wrap .i64 (x3 - 1)))
 (bcase (decide (IntKind.wrap .i64 (x3 - 1) < (↑n4 : Int)))
 (Qv (Pt 500 (0 + Int.toNat (IntKind.wrap .i64 (x3 - 1)) * 2)))
 False)
 False) ∧
 ((Qv (vI (IntKind.wrap .i64 (x3 - 1)))) ∧
 ((Qv (vI x3)) ∧
 ((Qv (Sl 500 (n4) (c5))) ∧
 ((Qv (Pt 1000 0)) ∧
 ((Qv (vI n5)) ∧
 True))))))) ∧
 (∃ n9 : Int,
 ((Says C 34 [(D.sl 2 1 [(vI n5), (vI n8)])] [(D.val (vI n9))]) ∧
 (((bcase (decide (0 ≤ IntKind.wrap .i64 (x3 - 1)))
 (bcase (decide (IntKind.wrap .i64 (x3 - 1) < (↑n4 : Int)))
 (Qv (Pt 500 (0 + Int.toNat (IntKind.wrap .i64 (x3 - 1)) * 2)))
 False)
 False) ∧
 ((Qv (vI (IntKind.wrap .i64 (x3 - 1)))) ∧
 ((Qv (vI x3)) ∧
 ((Qv (Sl 500 (n4) (c5))) ∧
 ((Qv (Pt 1000 0)) ∧
 ((Qv (vI n5)) ∧
 True)))))) ∧
 (True ∧
 (bcase (n9 != 0)
 (k [(D.val (vI x3)), (D.val (vI n9))])
 (B [(Prod.mk 1 (Pt 1000 0)), (Prod.mk 18 (Sl 500 (n0) (c1))), (Prod.mk 19 (vI x2)), (Prod.mk 20 (vI (IntKind.wrap .i64 (x3 + 1))))] [(Prod.mk 1000 (AObj.cells [(Sl 500 (n4) (c5))] 24 false 1)), (Prod.mk 500 (AObj.sym (l6) false 2))])))))))))))))
 False)
 False)
 (bcase (n5 != 0)
 (k [(D.val (vI x3)), (D.val (vI n5))])
 (B [(Prod.mk 1 (Pt 1000 0)), (Prod.mk 18 (Sl 500 (n0) (c1))), (Prod.mk 19 (vI x2)), (Prod.mk 20 (vI (IntKind.wrap .i64 (x3 + 1))))] [(Prod.mk 1000 (AObj.cells [(Sl 500 (n4) (c5))] 24 false 1)), (Prod.mk 500 (AObj.sym (l6) false 2))]))))))))))))))))))
 False)
 False)
 (X 1 [] [])) := by kernel_rfl
def nCT2 (C : Ct) (L : AtLoop) (k : List D → Prop) : Prop := wpNext Try.prog (hH C) L 68 1 .normal [] [] (dataK k)
theorem nCT2_text (C : Ct) (L : AtLoop) (k : List D → Prop) : nCT2 C L k =
 (k [(D.val (vI 0)), (D.val (vI 0))]) := by kernel_rfl
def gRT (C : Ct) (L : AtLoop) (n0 : Nat) (c0 : Nat) (l0 : List Value) (k : List D → Prop) : Prop := wpFn Try.prog (hH C) L 0 67 #[.agg #[.slice (some ⟨500, 0, none⟩) n0 c0]] (heapOf [(500, .sym l0 false 2)]) (dataK k)
theorem gRT_text (C : Ct) (L : AtLoop) (n0 : Nat) (c0 : Nat) (l0 : List Go.Value) (k : List D → Prop) : gRT C L n0 c0 l0 k =
 (bcase ((↑n0 : Int) == 0)
 (k [(D.val (vI 0)), (D.val (vI 10))])
 (bcase (decide ((↑n0 : Int) > 10))
 (k [(D.val (vI 0)), (D.val (vI 8))])
 (L 0 [(Prod.mk 1 (Pt 1000 0)), (Prod.mk 4 (vI 0))] [(Prod.mk 1000 (AObj.cells [(Sl 500 (n0) (c0))] 24 false 1)), (Prod.mk 500 (AObj.sym (l0) false 2))]))) := by kernel_rfl
abbrev zRT1 (x0 : Int) (n1 : Nat) (c2 : Nat) (l3 : List Value) : Slots × Blocks := ([(1, (Value.pointer (some ⟨1000, 0, none⟩))), (4, (Value.int .i64 x0))], [(1000, (AObj.cells [(Value.slice (some ⟨500, 0, none⟩) n1 c2)] 24 false 1)), (500, (AObj.sym l3 false 2))])
def rRT1 (C : Ct) (L : AtLoop) (x0 : Int) (n1 : Nat) (c2 : Nat) (l3 : List Value) (B : Bx) (X : Xx) (k : List D → Prop) : Prop := wpRound Try.prog (hH C) L 67 0 [(1, (Value.pointer (some ⟨1000, 0, none⟩))), (4, (Value.int .i64 x0))] [(1000, (AObj.cells [(Value.slice (some ⟨500, 0, none⟩) n1 c2)] 24 false 1)), (500, (AObj.sym l3 false 2))] B X (dataK k)
theorem rRT1_text (C : Ct) (L : AtLoop) (x0 : Int) (n1 : Nat) (c2 : Nat) (l3 : List Go.Value) (B : Bx) (X : Xx) (k : List D → Prop) : rRT1 C L x0 n1 c2 l3 B X k =
 (bcase (decide (x0 < (↑n1 : Int)))
 (bcase (decide (0 ≤ x0))
 (bcase (decide (x0 < (↑n1 : Int)))
 (∃ n2 : Int,
 (∃ n3 : Int,
 ((At (l3) (0 + Int.toNat x0 * 2) 2 [(vI n2), (vI n3)]) ∧
 (∃ n4 : Int,
 ((Says C 40 [(D.val (vI n2))] [(D.val (vI n4))]) ∧
 (bcase (n4 != 0)
 (k [(D.val (vI x0)), (D.val (vI 2))])
 (((Says C 16 [(D.val (vI n3)), (D.val (vI 0)), (D.val (vI 20000))] [(D.val (Value.bool true))]) ∧
 (bcase (x0 == 0)
 (B [(Prod.mk 1 (Pt 1000 0)), (Prod.mk 4 (vI (IntKind.wrap .i64 (x0 + 1))))] [(Prod.mk 1000 (AObj.cells [(Sl 500 (n1) (c2))] 24 false 1)), (Prod.mk 500 (AObj.sym (l3) false 2))])
 (bcase (decide (0 ≤ IntKind.wrap .i64 (x0 - 1)))
 (bcase (decide (IntKind.wrap .i64 (x0 - 1) < (↑n1 : Int)))
 (∃ n5 : Int,
 (∃ n6 : Int,
 ((At (l3) (0 + Int.toNat (IntKind.wrap .i64 (x0 - 1)) * 2) 2 [(vI n5), (vI n6)]) ∧
 (bcase (decide (n2 ≤ n5))
 (k [(D.val (vI x0)), (D.val (vI 9))])
 (bcase (decide (n3 < n6))
 (k [(D.val (vI x0)), (D.val (vI 9))])
 (bcase (decide (IntKind.wrap .i64 (n3 - n6) > IntKind.wrap .i64 (n2 - n5)))
 (k [(D.val (vI x0)), (D.val (vI 22))])
 (B [(Prod.mk 1 (Pt 1000 0)), (Prod.mk 4 (vI (IntKind.wrap .i64 (x0 + 1))))] [(Prod.mk 1000 (AObj.cells [(Sl 500 (n1) (c2))] 24 false 1)), (Prod.mk 500 (AObj.sym (l3) false 2))])))))))
 False)
 False))) ∨
 ((Says C 16 [(D.val (vI n3)), (D.val (vI 0)), (D.val (vI 20000))] [(D.val (Value.bool false))]) ∧
 (k [(D.val (vI x0)), (D.val (vI 2))])))))))))
 False)
 False)
 (X 0 [] [])) := by kernel_rfl
def nRT2 (C : Ct) (L : AtLoop) (k : List D → Prop) : Prop := wpNext Try.prog (hH C) L 67 0 .normal [] [] (dataK k)
theorem nRT2_text (C : Ct) (L : AtLoop) (k : List D → Prop) : nRT2 C L k =
 (k [(D.val (vI 0)), (D.val (vI 0))]) := by kernel_rfl
def gRTn (C : Ct) (L : AtLoop) (k : List D → Prop) : Prop := wpFn Try.prog (hH C) L 0 67 #[.agg #[.slice none 0 0]] (heapOf []) (dataK k)
theorem gRTn_text (C : Ct) (L : AtLoop) (k : List D → Prop) : gRTn C L k =
 (k [(D.val (vI 0)), (D.val (vI 10))]) := by kernel_rfl
def gTE (C : Ct) (L : AtLoop) (x0 : Int) (k : List D → Prop) : Prop := wpFn Try.prog (hH C) L 0 40 #[.int .i64 x0] (heapOf []) (dataK k)
theorem gTE_text (C : Ct) (L : AtLoop) (x0 : Int) (k : List D → Prop) : gTE C L x0 k =
 (((Says C 16 [(D.val (vI x0)), (D.val (vI 0)), (D.val (vI 20000))] [(D.val (Value.bool true))]) ∧
 (k [(D.val (vI 0))])) ∨
 ((Says C 16 [(D.val (vI x0)), (D.val (vI 0)), (D.val (vI 20000))] [(D.val (Value.bool false))]) ∧
 (k [(D.val (vI 2))]))) := by kernel_rfl
def gEE (C : Ct) (L : AtLoop) (x0 : Int) (k : List D → Prop) : Prop := wpFn Try.prog (hH C) L 0 51 #[.int .i64 x0] (heapOf []) (dataK k)
theorem gEE_text (C : Ct) (L : AtLoop) (x0 : Int) (k : List D → Prop) : gEE C L x0 k =
 (((Says C 16 [(D.val (vI x0)), (D.val (vI 0)), (D.val (vI 1000))] [(D.val (Value.bool true))]) ∧
 (k [(D.val (vI 0))])) ∨
 ((Says C 16 [(D.val (vI x0)), (D.val (vI 0)), (D.val (vI 1000))] [(D.val (Value.bool false))]) ∧
 (k [(D.val (vI 2))]))) := by kernel_rfl
def grI (C : Ct) (L : AtLoop) (n0 : Nat) (c0 : Nat) (l0 : List Value) (x1 : Int) (k : List D → Prop) : Prop := wpFn Try.prog (hH C) L 0 57 #[.agg #[.slice (some ⟨500, 0, none⟩) n0 c0], .int .i64 x1] (heapOf [(500, .sym l0 false 2)]) (dataK k)
theorem grI_text (C : Ct) (L : AtLoop) (n0 : Nat) (c0 : Nat) (l0 : List Go.Value) (x1 : Int) (k : List D → Prop) : grI C L n0 c0 l0 x1 k =
 (L 0 [(Prod.mk 1 (vI x1)), (Prod.mk 2 (Pt 1000 0)), (Prod.mk 5 (vI 0))] [(Prod.mk 1000 (AObj.cells [(Sl 500 (n0) (c0))] 24 false 1)), (Prod.mk 500 (AObj.sym (l0) false 2))]) := by kernel_rfl
abbrev zrI1 (x0 : Int) (x1 : Int) (n2 : Nat) (c3 : Nat) (l4 : List Value) : Slots × Blocks := ([(1, (Value.int .i64 x0)), (2, (Value.pointer (some ⟨1000, 0, none⟩))), (5, (Value.int .i64 x1))], [(1000, (AObj.cells [(Value.slice (some ⟨500, 0, none⟩) n2 c3)] 24 false 1)), (500, (AObj.sym l4 false 2))])
def rrI1 (C : Ct) (L : AtLoop) (x0 : Int) (x1 : Int) (n2 : Nat) (c3 : Nat) (l4 : List Value) (B : Bx) (X : Xx) (k : List D → Prop) : Prop := wpRound Try.prog (hH C) L 57 0 [(1, (Value.int .i64 x0)), (2, (Value.pointer (some ⟨1000, 0, none⟩))), (5, (Value.int .i64 x1))] [(1000, (AObj.cells [(Value.slice (some ⟨500, 0, none⟩) n2 c3)] 24 false 1)), (500, (AObj.sym l4 false 2))] B X (dataK k)
theorem rrI1_text (C : Ct) (L : AtLoop) (x0 : Int) (x1 : Int) (n2 : Nat) (c3 : Nat) (l4 : List Go.Value) (B : Bx) (X : Xx) (k : List D → Prop) : rrI1 C L x0 x1 n2 c3 l4 B X k =
 (bcase (decide (x1 < (↑n2 : Int)))
 (bcase (decide (0 ≤ x1))
 (bcase (decide (x1 < (↑n2 : Int)))
 (∃ n1 : Int,
 ((At (l4) (0 + Int.toNat x1 * 2) 1 [(vI n1)]) ∧
 (bcase (decide (n1 < x0))
 (B [(Prod.mk 1 (vI x0)), (Prod.mk 2 (Pt 1000 0)), (Prod.mk 5 (vI (IntKind.wrap .i64 (x1 + 1))))] [(Prod.mk 1000 (AObj.cells [(Sl 500 (n2) (c3))] 24 false 1)), (Prod.mk 500 (AObj.sym (l4) false 2))])
 (X 0 [(Prod.mk 1 (vI x0)), (Prod.mk 2 (Pt 1000 0)), (Prod.mk 5 (vI x1))] [(Prod.mk 1000 (AObj.cells [(Sl 500 (n2) (c3))] 24 false 1)), (Prod.mk 500 (AObj.sym (l4) false 2))]))))
 False)
 False)
 (X 0 [(Prod.mk 1 (vI x0)), (Prod.mk 2 (Pt 1000 0)), (Prod.mk 5 (vI x1))] [(Prod.mk 1000 (AObj.cells [(Sl 500 (n2) (c3))] 24 false 1)), (Prod.mk 500 (AObj.sym (l4) false 2))])) := by kernel_rfl
def nrI2 (C : Ct) (L : AtLoop) (x0 : Int) (x1 : Int) (n2 : Nat) (c3 : Nat) (l4 : List Value) (k : List D → Prop) : Prop := wpNext Try.prog (hH C) L 57 0 .normal [(1, (Value.int .i64 x0)), (2, (Value.pointer (some ⟨1000, 0, none⟩))), (5, (Value.int .i64 x1))] [(1000, (AObj.cells [(Value.slice (some ⟨500, 0, none⟩) n2 c3)] 24 false 1)), (500, (AObj.sym l4 false 2))] (dataK k)
theorem nrI2_text (C : Ct) (L : AtLoop) (x0 : Int) (x1 : Int) (n2 : Nat) (c3 : Nat) (l4 : List Go.Value) (k : List D → Prop) : nrI2 C L x0 x1 n2 c3 l4 k =
 (bcase (x1 == 0)
 (bcase (decide (0 < (↑n2 : Int)))
 (∃ n1 : Int,
 ((At (l4) 1 1 [(vI n1)]) ∧
 (k [(D.val (vI n1))])))
 False)
 (bcase (x1 == (↑n2 : Int))
 (bcase (decide (0 ≤ IntKind.wrap .i64 (x1 - 1)))
 (bcase (decide (IntKind.wrap .i64 (x1 - 1) < (↑n2 : Int)))
 (∃ n1 : Int,
 ((At (l4) (Addr.off { block := 500, off := 0 + Int.toNat (IntKind.wrap .i64 (x1 - 1)) * 2 } + 1) 1 [(vI n1)]) ∧
 (k [(D.val (vI n1))])))
 False)
 False)
 (bcase (decide (0 ≤ IntKind.wrap .i64 (x1 - 1)))
 (bcase (decide (IntKind.wrap .i64 (x1 - 1) < (↑n2 : Int)))
 (∃ n1 : Int,
 (∃ n3 : Int,
 ((At (l4) (0 + Int.toNat (IntKind.wrap .i64 (x1 - 1)) * 2) 2 [(vI n1), (vI n3)]) ∧
 (bcase (decide (0 ≤ x1))
 (bcase (decide (x1 < (↑n2 : Int)))
 (∃ n4 : Int,
 (∃ n5 : Int,
 ((At (l4) (0 + Int.toNat x1 * 2) 2 [(vI n4), (vI n5)]) ∧
 ((((Qv (Pt 1002 0)) ∧
 (Qv (some (AObj.cells [(vI 0), (vI 0)] 101 false 2)))) ∧
 (((Qv (Pt 1001 0)) ∧
 (Qv (some (AObj.cells [(vI 0), (vI 0)] 101 false 2)))) ∧
 ((∃ n6 : Int,
 (∃ n7 : Int,
 ((At (l4) (0 + Int.toNat x1 * 2) 2 [(vI n6), (vI n7)]) ∧
 ((Value.agg [(vI n6), (vI n7)].toArray) = (Value.agg [(vI n4), (vI n5)].toArray))))) ∧
 ((bcase (decide (0 ≤ x1))
 (bcase (decide (x1 < (↑n2 : Int)))
 (Qv (Pt 500 (0 + Int.toNat x1 * 2)))
 False)
 False) ∧
 ((Qv (vI x1)) ∧
 ((Qv (Sl 500 (n2) (c3))) ∧
 ((Qv (Pt 1000 0)) ∧
 ((∃ n6 : Int,
 (∃ n7 : Int,
 ((At (l4) (0 + Int.toNat (IntKind.wrap .i64 (x1 - 1)) * 2) 2 [(vI n6), (vI n7)]) ∧
 ((Value.agg [(vI n6), (vI n7)].toArray) = (Value.agg [(vI n1), (vI n3)].toArray))))) ∧
 ((bcase (decide (0 ≤ IntKind.wrap .i64 (x1 - 1)))
 (bcase (decide (IntKind.wrap .i64 (x1 - 1) < (↑n2 : Int)))
 (Qv (Pt 500 (0 + Int.toNat (IntKind.wrap .i64 (x1 - 1)) * 2)))
 False)
 False) ∧
 ((Qv (vI (IntKind.wrap .i64 (x1 - 1)))) ∧
 ((Qv (vI x1)) ∧
 ((Qv (Sl 500 (n2) (c3))) ∧
 ((Qv (Pt 1000 0)) ∧
 True))))))))))))) ∧
 (((∃ n6 : Int,
 (∃ n7 : Int,
 ((At (l4) (0 + Int.toNat x1 * 2) 2 [(vI n6), (vI n7)]) ∧
 ((Value.agg [(vI n6), (vI n7)].toArray) = (Value.agg [(vI n4), (vI n5)].toArray))))) ∧
 ((bcase (decide (0 ≤ x1))
 (bcase (decide (x1 < (↑n2 : Int)))
 (Qv (Pt 500 (0 + Int.toNat x1 * 2)))
 False)
 False) ∧
 ((Qv (vI x1)) ∧
 ((Qv (Sl 500 (n2) (c3))) ∧
 ((Qv (Pt 1000 0)) ∧
 True))))) ∧
 (True ∧
 (bcase (IntKind.wrap .i64 (n4 - n1) != 0)
 (((Qv (vI (IntKind.wrap .i64 (n3 + IntKind.wrap .i64 (Int.tdiv (IntKind.wrap .i64 (IntKind.wrap .i64 (n5 - n3) * IntKind.wrap .i64 (x0 - n1))) (IntKind.wrap .i64 (n4 - n1))))))) ∧
 ((bcase (IntKind.wrap .i64 (n4 - n1) != 0)
 (Qv (vI (IntKind.wrap .i64 (Int.tdiv (IntKind.wrap .i64 (IntKind.wrap .i64 (n5 - n3) * IntKind.wrap .i64 (x0 - n1))) (IntKind.wrap .i64 (n4 - n1))))))
 False) ∧
 ((Qv (vI (IntKind.wrap .i64 (n4 - n1)))) ∧
 ((Qv (vI n1)) ∧
 ((Qv (Pt 1001 0)) ∧
 ((Qv (vI n4)) ∧
 ((Qv (Pt 1002 0)) ∧
 ((Qv (vI (IntKind.wrap .i64 (IntKind.wrap .i64 (n5 - n3) * IntKind.wrap .i64 (x0 - n1))))) ∧
 ((Qv (vI (IntKind.wrap .i64 (x0 - n1)))) ∧
 ((Qv (vI n1)) ∧
 ((Qv (Pt 1001 0)) ∧
 ((Qv (vI x0)) ∧
 ((Qv (vI (IntKind.wrap .i64 (n5 - n3)))) ∧
 ((Qv (vI n3)) ∧
 ((Qv (Pt 1001 1)) ∧
 ((Qv (vI n5)) ∧
 ((Qv (Pt 1002 1)) ∧
 ((Qv (vI n3)) ∧
 ((Qv (Pt 1001 1)) ∧
 True))))))))))))))))))) ∧
 (True ∧
 (k [(D.val (vI (IntKind.wrap .i64 (n3 + IntKind.wrap .i64 (Int.tdiv (IntKind.wrap .i64 (IntKind.wrap .i64 (n5 - n3) * IntKind.wrap .i64 (x0 - n1))) (IntKind.wrap .i64 (n4 - n1)))))))])))
 False)))))))
 False)
 False))))
 False)
 False))) := by kernel_rfl
def gRA (C : Ct) (L : AtLoop) (n0 : Nat) (c0 : Nat) (l0 : List Value) (x1 : Int) (k : List D → Prop) : Prop := wpFn Try.prog (hH C) L 0 82 #[.agg #[.slice (some ⟨500, 0, none⟩) n0 c0], .int .i64 x1] (heapOf [(500, .sym l0 false 2)]) (dataK k)
theorem gRA_text (C : Ct) (L : AtLoop) (n0 : Nat) (c0 : Nat) (l0 : List Go.Value) (x1 : Int) (k : List D → Prop) : gRA C L n0 c0 l0 x1 k =
 (bcase (decide (0 < (↑n0 : Int)))
 (∃ n1 : Int,
 ((At (l0) 0 1 [(vI n1)]) ∧
 (bcase (decide (x1 ≤ n1))
 (bcase (decide (0 < (↑n0 : Int)))
 (∃ n2 : Int,
 ((At (l0) 1 1 [(vI n2)]) ∧
 (k [(D.val (vI n2))])))
 False)
 (L 0 [(Prod.mk 1 (vI x1)), (Prod.mk 5 (Sl 500 (n0) (c0))), (Prod.mk 6 (vI 1))] [(Prod.mk 500 (AObj.sym (l0) false 2))]))))
 False) := by kernel_rfl
abbrev zRA1 (x0 : Int) (n1 : Nat) (c2 : Nat) (x3 : Int) (l4 : List Value) : Slots × Blocks := ([(1, (Value.int .i64 x0)), (5, (Value.slice (some ⟨500, 0, none⟩) n1 c2)), (6, (Value.int .i64 x3))], [(500, (AObj.sym l4 false 2))])
def rRA1 (C : Ct) (L : AtLoop) (x0 : Int) (n1 : Nat) (c2 : Nat) (x3 : Int) (l4 : List Value) (B : Bx) (X : Xx) (k : List D → Prop) : Prop := wpRound Try.prog (hH C) L 82 0 [(1, (Value.int .i64 x0)), (5, (Value.slice (some ⟨500, 0, none⟩) n1 c2)), (6, (Value.int .i64 x3))] [(500, (AObj.sym l4 false 2))] B X (dataK k)
theorem rRA1_text (C : Ct) (L : AtLoop) (x0 : Int) (n1 : Nat) (c2 : Nat) (x3 : Int) (l4 : List Go.Value) (B : Bx) (X : Xx) (k : List D → Prop) : rRA1 C L x0 n1 c2 x3 l4 B X k =
 (bcase (decide (x3 < (↑n1 : Int)))
 (bcase (decide (0 ≤ x3))
 (bcase (decide (x3 < (↑n1 : Int)))
 (∃ n2 : Int,
 ((At (l4) (0 + Int.toNat x3 * 2) 1 [(vI n2)]) ∧
 (bcase (decide (x0 ≤ n2))
 (bcase (decide (0 ≤ IntKind.wrap .i64 (x3 - 1)))
 (bcase (decide (IntKind.wrap .i64 (x3 - 1) < (↑n1 : Int)))
 (∃ n3 : Int,
 (∃ n4 : Int,
 ((At (l4) (0 + Int.toNat (IntKind.wrap .i64 (x3 - 1)) * 2) 2 [(vI n3), (vI n4)]) ∧
 (bcase (decide (0 ≤ x3))
 (bcase (decide (x3 < (↑n1 : Int)))
 (∃ n5 : Int,
 (∃ n6 : Int,
 ((At (l4) (0 + Int.toNat x3 * 2) 2 [(vI n5), (vI n6)]) ∧
 ((((Qv (Pt 1001 0)) ∧
 (Qv (some (AObj.cells [(vI 0), (vI 0)] 101 false 2)))) ∧
 (((Qv (Pt 1000 0)) ∧
 (Qv (some (AObj.cells [(vI 0), (vI 0)] 101 false 2)))) ∧
 ((∃ n7 : Int,
 (∃ n8 : Int,
 ((At (l4) (0 + Int.toNat x3 * 2) 2 [(vI n7), (vI n8)]) ∧
 ((Value.agg [(vI n7), (vI n8)].toArray) = (Value.agg [(vI n5), (vI n6)].toArray))))) ∧
 ((bcase (decide (0 ≤ x3))
 (bcase (decide (x3 < (↑n1 : Int)))
 (Qv (Pt 500 (0 + Int.toNat x3 * 2)))
 False)
 False) ∧
 ((Qv (vI x3)) ∧
 ((Qv (Sl 500 (n1) (c2))) ∧
 ((∃ n7 : Int,
 (∃ n8 : Int,
 ((At (l4) (0 + Int.toNat (IntKind.wrap .i64 (x3 - 1)) * 2) 2 [(vI n7), (vI n8)]) ∧
 ((Value.agg [(vI n7), (vI n8)].toArray) = (Value.agg [(vI n3), (vI n4)].toArray))))) ∧
 ((bcase (decide (0 ≤ IntKind.wrap .i64 (x3 - 1)))
 (bcase (decide (IntKind.wrap .i64 (x3 - 1) < (↑n1 : Int)))
 (Qv (Pt 500 (0 + Int.toNat (IntKind.wrap .i64 (x3 - 1)) * 2)))
 False)
 False) ∧
 ((Qv (vI (IntKind.wrap .i64 (x3 - 1)))) ∧
 ((Qv (vI x3)) ∧
 ((Qv (Sl 500 (n1) (c2))) ∧
 True))))))))))) ∧
 (((∃ n7 : Int,
 (∃ n8 : Int,
 ((At (l4) (0 + Int.toNat x3 * 2) 2 [(vI n7), (vI n8)]) ∧
 ((Value.agg [(vI n7), (vI n8)].toArray) = (Value.agg [(vI n5), (vI n6)].toArray))))) ∧
 ((bcase (decide (0 ≤ x3))
 (bcase (decide (x3 < (↑n1 : Int)))
 (Qv (Pt 500 (0 + Int.toNat x3 * 2)))
 False)
 False) ∧
 ((Qv (vI x3)) ∧
 ((Qv (Sl 500 (n1) (c2))) ∧
 True)))) ∧
 (True ∧
 (bcase (IntKind.wrap .i64 (n5 - n3) != 0)
 (((Qv (vI (IntKind.wrap .i64 (n4 + IntKind.wrap .i64 (Int.tdiv (IntKind.wrap .i64 (IntKind.wrap .i64 (x0 - n3) * IntKind.wrap .i64 (n6 - n4))) (IntKind.wrap .i64 (n5 - n3))))))) ∧
 ((bcase (IntKind.wrap .i64 (n5 - n3) != 0)
 (Qv (vI (IntKind.wrap .i64 (Int.tdiv (IntKind.wrap .i64 (IntKind.wrap .i64 (x0 - n3) * IntKind.wrap .i64 (n6 - n4))) (IntKind.wrap .i64 (n5 - n3))))))
 False) ∧
 ((Qv (vI (IntKind.wrap .i64 (n5 - n3)))) ∧
 ((Qv (vI n3)) ∧
 ((Qv (Pt 1000 0)) ∧
 ((Qv (vI n5)) ∧
 ((Qv (Pt 1001 0)) ∧
 ((Qv (vI (IntKind.wrap .i64 (IntKind.wrap .i64 (x0 - n3) * IntKind.wrap .i64 (n6 - n4))))) ∧
 ((Qv (vI (IntKind.wrap .i64 (n6 - n4)))) ∧
 ((Qv (vI n4)) ∧
 ((Qv (Pt 1000 1)) ∧
 ((Qv (vI n6)) ∧
 ((Qv (Pt 1001 1)) ∧
 ((Qv (vI (IntKind.wrap .i64 (x0 - n3)))) ∧
 ((Qv (vI n3)) ∧
 ((Qv (Pt 1000 0)) ∧
 ((Qv (vI x0)) ∧
 ((Qv (vI n4)) ∧
 ((Qv (Pt 1000 1)) ∧
 True))))))))))))))))))) ∧
 (True ∧
 (k [(D.val (vI (IntKind.wrap .i64 (n4 + IntKind.wrap .i64 (Int.tdiv (IntKind.wrap .i64 (IntKind.wrap .i64 (x0 - n3) * IntKind.wrap .i64 (n6 - n4))) (IntKind.wrap .i64 (n5 - n3)))))))])))
 False)))))))
 False)
 False))))
 False)
 False)
 (B [(Prod.mk 1 (vI x0)), (Prod.mk 5 (Sl 500 (n1) (c2))), (Prod.mk 6 (vI (IntKind.wrap .i64 (x3 + 1))))] [(Prod.mk 500 (AObj.sym (l4) false 2))]))))
 False)
 False)
 (X 0 [(Prod.mk 5 (Sl 500 (n1) (c2)))] [(Prod.mk 500 (AObj.sym (l4) false 2))])) := by kernel_rfl
def nRA2 (C : Ct) (L : AtLoop) (n0 : Nat) (c1 : Nat) (l2 : List Value) (k : List D → Prop) : Prop := wpNext Try.prog (hH C) L 82 0 .normal [(5, (Value.slice (some ⟨500, 0, none⟩) n0 c1))] [(500, (AObj.sym l2 false 2))] (dataK k)
theorem nRA2_text (C : Ct) (L : AtLoop) (n0 : Nat) (c1 : Nat) (l2 : List Go.Value) (k : List D → Prop) : nRA2 C L n0 c1 l2 k =
 (bcase (decide (0 ≤ IntKind.wrap .i64 ((↑n0 : Int) - 1)))
 (bcase (decide (IntKind.wrap .i64 ((↑n0 : Int) - 1) < (↑n0 : Int)))
 (∃ n1 : Int,
 ((At (l2) (Addr.off { block := 500, off := 0 + Int.toNat (IntKind.wrap .i64 ((↑n0 : Int) - 1)) * 2 } + 1) 1 [(vI n1)]) ∧
 (k [(D.val (vI n1))])))
 False)
 False) := by kernel_rfl
def gCR (C : Ct) (L : AtLoop) (n0 : Nat) (c0 : Nat) (l0 : List Value) (x1 : Int) (x2 : Int) (x3 : Int) (k : List D → Prop) : Prop := wpFn Try.prog (hH C) L 0 52 #[.agg #[.slice (some ⟨500, 0, none⟩) n0 c0, .int .i64 x1, .int .i64 x2, .int .i64 x3]] (heapOf [(500, .sym l0 false 2)]) (dataK k)
theorem gCR_text (C : Ct) (L : AtLoop) (n0 : Nat) (c0 : Nat) (l0 : List Go.Value) (x1 : Int) (x2 : Int) (x3 : Int) (k : List D → Prop) : gCR C L n0 c0 l0 x1 x2 x3 k =
 (bcase (decide (0 + n0 * 2 ≤ List.length l0))
 (∃ n1 : Int,
 (∃ n2 : Int,
 ((Says C 68 [(D.agg [(D.sl (n0) 2 (List.take (n0 * 2) (List.drop 0 l0)))])] [(D.val (vI n1)), (D.val (vI n2))]) ∧
 (((Qv (Value.agg [(vI x2), (vI x3)].toArray)) ∧
 ((Qv (Pt 1000 2)) ∧
 (((Qv (Sl 1002 2 2)) ∧
 (Qv (some (AObj.cells [(vI x2), (vI x3)] 3 false 1)))) ∧
 ((Qv (vI x3)) ∧
 ((Qv (Pt 1000 3)) ∧
 ((Qv (Pt 1000 2)) ∧
 ((Qv (vI x2)) ∧
 ((Qv (Pt 1000 2)) ∧
 ((Qv (Pt 1000 2)) ∧
 (((Qv (Sl 1001 1 1)) ∧
 (Qv (some (AObj.cells [(vI x1)] 3 false 1)))) ∧
 ((Qv (vI x1)) ∧
 ((Qv (Pt 1000 1)) ∧
 ((Qv (vI n2)) ∧
 True))))))))))))) ∧
 (((Qv (Value.agg [(vI x2), (vI x3)].toArray)) ∧
 ((Qv (Pt 1000 2)) ∧
 (((Qv (Sl 1002 2 2)) ∧
 (Qv (some (AObj.cells [(vI x2), (vI x3)] 3 false 1)))) ∧
 ((Qv (vI x3)) ∧
 ((Qv (Pt 1000 3)) ∧
 ((Qv (Pt 1000 2)) ∧
 ((Qv (vI x2)) ∧
 ((Qv (Pt 1000 2)) ∧
 ((Qv (Pt 1000 2)) ∧
 (((Qv (Sl 1001 1 1)) ∧
 (Qv (some (AObj.cells [(vI x1)] 3 false 1)))) ∧
 ((Qv (vI x1)) ∧
 ((Qv (Pt 1000 1)) ∧
 ((Qv (vI n2)) ∧
 True))))))))))))) ∧
 (∃ e1 : Int,
 ((Says limC 0 [(D.val (vI 0)), (D.val (vI 50)), (D.sl 1 1 [(vI x1)])] [(D.val (vI e1))]) ∧
 (((Qv (Value.agg [(vI x2), (vI x3)].toArray)) ∧
 ((Qv (Pt 1000 2)) ∧
 (((Qv (Sl 1002 2 2)) ∧
 (Qv (some (AObj.cells [(vI x2), (vI x3)] 3 false 1)))) ∧
 ((Qv (vI x3)) ∧
 ((Qv (Pt 1000 3)) ∧
 ((Qv (Pt 1000 2)) ∧
 ((Qv (vI x2)) ∧
 ((Qv (Pt 1000 2)) ∧
 ((Qv (Pt 1000 2)) ∧
 ((Qv (vI x1)) ∧
 ((Qv (Pt 1000 1)) ∧
 ((Qv (vI n2)) ∧
 True)))))))))))) ∧
 (∃ n3 : Int,
 ((Says C 35 [(D.sl 2 1 [(vI x2), (vI x3)])] [(D.val (vI n3))]) ∧
 (((Qv (Value.agg [(vI x2), (vI x3)].toArray)) ∧
 ((Qv (Pt 1000 2)) ∧
 ((Qv (vI x3)) ∧
 ((Qv (Pt 1000 3)) ∧
 ((Qv (Pt 1000 2)) ∧
 ((Qv (vI x2)) ∧
 ((Qv (Pt 1000 2)) ∧
 ((Qv (Pt 1000 2)) ∧
 ((Qv (vI x1)) ∧
 ((Qv (Pt 1000 1)) ∧
 ((Qv (vI n2)) ∧
 True))))))))))) ∧
 (∃ n4 : Int,
 ((Says C 69 [(D.agg [(D.val (vI x2)), (D.val (vI x3))])] [(D.val (vI n4))]) ∧
 ((((Qv (Sl 1005 4 4)) ∧
 (Qv (some (AObj.cells [(vI n2), (vI e1), (vI n3), (vI n4)] 43 false 1)))) ∧
 ((Qv (Pt 1000 2)) ∧
 ((Qv (vI x3)) ∧
 ((Qv (Pt 1000 3)) ∧
 ((Qv (Pt 1000 2)) ∧
 ((Qv (vI x2)) ∧
 ((Qv (Pt 1000 2)) ∧
 ((Qv (Pt 1000 2)) ∧
 ((Qv (vI x1)) ∧
 ((Qv (Pt 1000 1)) ∧
 ((Qv (vI n2)) ∧
 True))))))))))) ∧
 (∃ n5 : Int,
 ((Says C 34 [(D.sl 4 1 [(vI n2), (vI e1), (vI n3), (vI n4)])] [(D.val (vI n5))]) ∧
 (((Qv (Pt 1000 2)) ∧
 ((Qv (vI x3)) ∧
 ((Qv (Pt 1000 3)) ∧
 ((Qv (Pt 1000 2)) ∧
 ((Qv (vI x2)) ∧
 ((Qv (Pt 1000 2)) ∧
 ((Qv (Pt 1000 2)) ∧
 ((Qv (vI x1)) ∧
 ((Qv (Pt 1000 1)) ∧
 ((Qv (vI n2)) ∧
 True)))))))))) ∧
 (True ∧
 (k [(D.val (vI n5))])))))))))))))))))))
 False) := by kernel_rfl
def gRE (C : Ct) (L : AtLoop) (n0 : Nat) (c0 : Nat) (l0 : List Value) (x1 : Int) (x2 : Int) (x3 : Int) (k : List D → Prop) : Prop := wpFn Try.prog (hH C) L 0 30 #[.agg #[.slice (some ⟨500, 0, none⟩) n0 c0, .int .i64 x1, .int .i64 x2, .int .i64 x3]] (heapOf [(500, .sym l0 false 2)]) (dataK k)
theorem gRE_text (C : Ct) (L : AtLoop) (n0 : Nat) (c0 : Nat) (l0 : List Go.Value) (x1 : Int) (x2 : Int) (x3 : Int) (k : List D → Prop) : gRE C L n0 c0 l0 x1 x2 x3 k =
 (bcase (decide (0 + n0 * 2 ≤ List.length l0))
 (∃ n1 : Int,
 (∃ n2 : Int,
 ((Says C 67 [(D.agg [(D.sl (n0) 2 (List.take (n0 * 2) (List.drop 0 l0)))])] [(D.val (vI n1)), (D.val (vI n2))]) ∧
 (bcase (n2 != 0)
 (k [(D.val (vI n2))])
 (((Says C 16 [(D.val (vI x1)), (D.val (vI 0)), (D.val (vI 50))] [(D.val (Value.bool true))]) ∧
 (∃ n3 : Int,
 ((Says C 51 [(D.val (vI x2))] [(D.val (vI n3))]) ∧
 (bcase (n3 != 0)
 (k [(D.val (vI 2))])
 (∃ n4 : Int,
 ((Says C 51 [(D.val (vI x3))] [(D.val (vI n4))]) ∧
 (bcase (n4 != 0)
 (k [(D.val (vI 2))])
 (bcase (decide (x2 > x3))
 (k [(D.val (vI 9))])
 (k [(D.val (vI 0))]))))))))) ∨
 ((Says C 16 [(D.val (vI x1)), (D.val (vI 0)), (D.val (vI 50))] [(D.val (Value.bool false))]) ∧
 (k [(D.val (vI 2))])))))))
 False) := by kernel_rfl
def gREn (C : Ct) (L : AtLoop) (x1 : Int) (x2 : Int) (x3 : Int) (k : List D → Prop) : Prop := wpFn Try.prog (hH C) L 0 30 #[.agg #[.slice none 0 0, .int .i64 x1, .int .i64 x2, .int .i64 x3]] (heapOf []) (dataK k)
theorem gREn_text (C : Ct) (L : AtLoop) (x1 : Int) (x2 : Int) (x3 : Int) (k : List D → Prop) : gREn C L x1 x2 x3 k =
 (∃ n1 : Int,
 (∃ n2 : Int,
 ((Says C 67 [(D.agg [D.nil])] [(D.val (vI n1)), (D.val (vI n2))]) ∧
 (bcase (n2 != 0)
 (k [(D.val (vI n2))])
 (((Says C 16 [(D.val (vI x1)), (D.val (vI 0)), (D.val (vI 50))] [(D.val (Value.bool true))]) ∧
 (∃ n3 : Int,
 ((Says C 51 [(D.val (vI x2))] [(D.val (vI n3))]) ∧
 (bcase (n3 != 0)
 (k [(D.val (vI 2))])
 (∃ n4 : Int,
 ((Says C 51 [(D.val (vI x3))] [(D.val (vI n4))]) ∧
 (bcase (n4 != 0)
 (k [(D.val (vI 2))])
 (bcase (decide (x2 > x3))
 (k [(D.val (vI 9))])
 (k [(D.val (vI 0))]))))))))) ∨
 ((Says C 16 [(D.val (vI x1)), (D.val (vI 0)), (D.val (vI 50))] [(D.val (Value.bool false))]) ∧
 (k [(D.val (vI 2))]))))))) := by kernel_rfl
def gCS (C : Ct) (L : AtLoop) (n0 : Nat) (c0 : Nat) (l0 : List Value) (x1 : Int) (k : List D → Prop) : Prop := wpFn Try.prog (hH C) L 0 53 #[.agg #[.slice (some ⟨500, 0, none⟩) n0 c0, .int .i64 x1]] (heapOf [(500, .sym l0 false 1)]) (dataK k)
theorem gCS_text (C : Ct) (L : AtLoop) (n0 : Nat) (c0 : Nat) (l0 : List Go.Value) (x1 : Int) (k : List D → Prop) : gCS C L n0 c0 l0 x1 k =
 (bcase (decide ((↑n0 : Int) < 2))
 (k [(D.val (vI 10))])
 (bcase (decide ((↑n0 : Int) > 8))
 (k [(D.val (vI 8))])
 ((((Qv (Sl 1001 1 1)) ∧
 (Qv (some (AObj.cells [(vI x1)] 3 false 1)))) ∧
 ((Qv (vI x1)) ∧
 ((Qv (Pt 1000 1)) ∧
 ((Qv (Sl 500 (n0) (c0))) ∧
 ((Qv (Pt 1000 0)) ∧
 True))))) ∧
 (bcase (decide (0 + n0 * 1 ≤ List.length l0))
 (∃ n1 : Int,
 ((Says C 36 [(D.sl (n0) 1 (List.take (n0 * 1) (List.drop 0 l0)))] [(D.val (vI n1))]) ∧
 ((((Qv (Sl 1001 1 1)) ∧
 (Qv (some (AObj.cells [(vI x1)] 3 false 1)))) ∧
 ((Qv (vI x1)) ∧
 ((Qv (Pt 1000 1)) ∧
 ((Qv (Pt 1000 0)) ∧
 True)))) ∧
 (∃ n2 : Int,
 ((Says C 35 [(D.sl 1 1 [(vI x1)])] [(D.val (vI n2))]) ∧
 ((((Qv (Sl 1002 2 2)) ∧
 (Qv (some (AObj.cells [(vI n1), (vI n2)] 43 false 1)))) ∧
 ((Qv (vI x1)) ∧
 ((Qv (Pt 1000 1)) ∧
 ((Qv (Pt 1000 0)) ∧
 True)))) ∧
 (∃ n3 : Int,
 ((Says C 34 [(D.sl 2 1 [(vI n1), (vI n2)])] [(D.val (vI n3))]) ∧
 (((Qv (vI x1)) ∧
 ((Qv (Pt 1000 1)) ∧
 ((Qv (Pt 1000 0)) ∧
 True))) ∧
 (True ∧
 (k [(D.val (vI n3))])))))))))))
 False)))) := by kernel_rfl
def gSE (C : Ct) (L : AtLoop) (n0 : Nat) (c0 : Nat) (l0 : List Value) (x1 : Int) (k : List D → Prop) : Prop := wpFn Try.prog (hH C) L 0 13 #[.agg #[.slice (some ⟨500, 0, none⟩) n0 c0, .int .i64 x1]] (heapOf [(500, .sym l0 false 1)]) (dataK k)
theorem gSE_text (C : Ct) (L : AtLoop) (n0 : Nat) (c0 : Nat) (l0 : List Go.Value) (x1 : Int) (k : List D → Prop) : gSE C L n0 c0 l0 x1 k =
 (bcase (decide ((↑n0 : Int) < 2))
 (k [(D.val (vI 10))])
 (bcase (decide ((↑n0 : Int) > 8))
 (k [(D.val (vI 8))])
 (L 0 [(Prod.mk 1 (Pt 1000 0)), (Prod.mk 3 (vI 0))] [(Prod.mk 1000 (AObj.cells [(Sl 500 (n0) (c0)), (vI x1)] 31 false 1)), (Prod.mk 500 (AObj.sym (l0) false 1))]))) := by kernel_rfl
abbrev zSE1 (x0 : Int) (n1 : Nat) (c2 : Nat) (x3 : Int) (l4 : List Value) : Slots × Blocks := ([(1, (Value.pointer (some ⟨1000, 0, none⟩))), (3, (Value.int .i64 x0))], [(1000, (AObj.cells [(Value.slice (some ⟨500, 0, none⟩) n1 c2), (Value.int .i64 x3)] 31 false 1)), (500, (AObj.sym l4 false 1))])
def rSE1 (C : Ct) (L : AtLoop) (x0 : Int) (n1 : Nat) (c2 : Nat) (x3 : Int) (l4 : List Value) (B : Bx) (X : Xx) (k : List D → Prop) : Prop := wpRound Try.prog (hH C) L 13 0 [(1, (Value.pointer (some ⟨1000, 0, none⟩))), (3, (Value.int .i64 x0))] [(1000, (AObj.cells [(Value.slice (some ⟨500, 0, none⟩) n1 c2), (Value.int .i64 x3)] 31 false 1)), (500, (AObj.sym l4 false 1))] B X (dataK k)
theorem rSE1_text (C : Ct) (L : AtLoop) (x0 : Int) (n1 : Nat) (c2 : Nat) (x3 : Int) (l4 : List Go.Value) (B : Bx) (X : Xx) (k : List D → Prop) : rSE1 C L x0 n1 c2 x3 l4 B X k =
 (bcase (decide (x0 < (↑n1 : Int)))
 (bcase (decide (0 ≤ x0))
 (bcase (decide (x0 < (↑n1 : Int)))
 (∃ n2 : Int,
 ((At (l4) (0 + Int.toNat x0 * 1) 1 [(vI n2)]) ∧
 (∃ n3 : Int,
 ((Says C 40 [(D.val (vI n2))] [(D.val (vI n3))]) ∧
 (bcase (n3 != 0)
 (k [(D.val (vI n3))])
 (B [(Prod.mk 1 (Pt 1000 0)), (Prod.mk 3 (vI (IntKind.wrap .i64 (x0 + 1))))] [(Prod.mk 1000 (AObj.cells [(Sl 500 (n1) (c2)), (vI x3)] 31 false 1)), (Prod.mk 500 (AObj.sym (l4) false 1))]))))))
 False)
 False)
 (X 0 [(Prod.mk 1 (Pt 1000 0))] [(Prod.mk 1000 (AObj.cells [(Sl 500 (n1) (c2)), (vI x3)] 31 false 1)), (Prod.mk 500 (AObj.sym (l4) false 1))])) := by kernel_rfl
def nSE2 (C : Ct) (L : AtLoop) (n0 : Nat) (c1 : Nat) (x2 : Int) (l3 : List Value) (k : List D → Prop) : Prop := wpNext Try.prog (hH C) L 13 0 .normal [(1, (Value.pointer (some ⟨1000, 0, none⟩)))] [(1000, (AObj.cells [(Value.slice (some ⟨500, 0, none⟩) n0 c1), (Value.int .i64 x2)] 31 false 1)), (500, (AObj.sym l3 false 1))] (dataK k)
theorem nSE2_text (C : Ct) (L : AtLoop) (n0 : Nat) (c1 : Nat) (x2 : Int) (l3 : List Go.Value) (k : List D → Prop) : nSE2 C L n0 c1 x2 l3 k =
 (((Says C 16 [(D.val (vI x2)), (D.val (vI 0)), (D.val (vI 1000))] [(D.val (Value.bool true))]) ∧
 (k [(D.val (vI 0))])) ∨
 ((Says C 16 [(D.val (vI x2)), (D.val (vI 0)), (D.val (vI 1000))] [(D.val (Value.bool false))]) ∧
 (k [(D.val (vI 2))]))) := by kernel_rfl
def gSEn (C : Ct) (L : AtLoop) (x1 : Int) (k : List D → Prop) : Prop := wpFn Try.prog (hH C) L 0 13 #[.agg #[.slice none 0 0, .int .i64 x1]] (heapOf []) (dataK k)
theorem gSEn_text (C : Ct) (L : AtLoop) (x1 : Int) (k : List D → Prop) : gSEn C L x1 k =
 (k [(D.val (vI 10))]) := by kernel_rfl
def gWi (C : Ct) (L : AtLoop) (x0 : Int) (x1 : Int) (x2 : Int) (k : List D → Prop) : Prop := wpFn Try.prog (hE C) L 0 16 #[.int .i64 x0, .int .i64 x1, .int .i64 x2] (heapOf []) (dataK k)
theorem gWi_text (C : Ct) (L : AtLoop) (x0 : Int) (x1 : Int) (x2 : Int) (k : List D → Prop) : gWi C L x0 x1 x2 k =
 (bcase (decide (x1 ≤ x0))
 (bcase (decide (x0 ≤ x2))
 (k [(D.val (Value.bool true))])
 (k [(D.val (Value.bool false))]))
 (k [(D.val (Value.bool false))])) := by kernel_rfl
def gFl (C : Ct) (L : AtLoop) (x0 : Int) (x1 : Int) (k : List D → Prop) : Prop := wpFn Try.prog (hE C) L 0 83 #[.int .i64 x0, .int .i64 x1] (heapOf []) (dataK k)
theorem gFl_text (C : Ct) (L : AtLoop) (x0 : Int) (x1 : Int) (k : List D → Prop) : gFl C L x0 x1 k =
 (bcase (x1 != 0)
 (bcase (x1 != 0)
 (bcase (decide (Int.tmod x0 x1 < 0))
 (k [(D.val (vI (IntKind.wrap .i64 (IntKind.wrap .i64 (Int.tdiv x0 x1) - 1))))])
 (k [(D.val (vI (IntKind.wrap .i64 (Int.tdiv x0 x1))))]))
 False)
 False) := by kernel_rfl
def gCl (C : Ct) (L : AtLoop) (n0 : Nat) (c0 : Nat) (l0 : List Value) (k : List D → Prop) : Prop := wpFn Try.prog (hE C) L 0 70 #[.slice (some ⟨500, 0, none⟩) n0 c0] (heapOf [(500, .sym l0 false 1)]) (dataK k)
theorem gCl_text (C : Ct) (L : AtLoop) (n0 : Nat) (c0 : Nat) (l0 : List Go.Value) (k : List D → Prop) : gCl C L n0 c0 l0 k =
 (bcase (decide (0 + n0 * 1 ≤ List.length l0))
 (bcase (n0 == 0)
 (((0 = 0) ∧
 (0 = 0)) ∧
 (k [(D.sl 0 1 [])]))
 (bcase (decide (0 < 0 + n0))
 (bcase (decide ((2 * (0 + n0) + 768) * 8 ≤ 281474976710656))
 (bcase (decide (0 + n0 ≤ 1099511627776))
 (((Qv (0 + n0)) ∧
 ((List.length (List.take 0 (List.drop 0 []) ++ List.take (n0 * 1) (List.drop 0 l0))) = ((0 + n0) * 1))) ∧
 (k [(D.sl (0 + n0) 1 ([] ++ (List.take (n0 * 1) (List.drop 0 l0))))]))
 False)
 False)
 False))
 False) := by kernel_rfl
def gYr (C : Ct) (L : AtLoop) (n0 : Nat) (c0 : Nat) (l0 : List Value) (x1 : Int) (x2 : Int) (x3 : Int) (k : List D → Prop) : Prop := wpFn Try.prog (hE C) L 0 12 #[.agg #[.slice (some ⟨500, 0, none⟩) n0 c0, .int .i64 x1, .int .i64 x2, .int .i64 x3]] (heapOf [(500, .sym l0 false 2)]) (dataK k)
theorem gYr_text (C : Ct) (L : AtLoop) (n0 : Nat) (c0 : Nat) (l0 : List Go.Value) (x1 : Int) (x2 : Int) (x3 : Int) (k : List D → Prop) : gYr C L n0 c0 l0 x1 x2 x3 k =
 (bcase (decide (0 + n0 * 2 ≤ List.length l0))
 (bcase (n0 == 0)
 (((0 = 0) ∧
 (0 = 0)) ∧
 (k [(D.agg [(D.sl 0 2 []), (D.val (vI x1)), (D.val (vI x2)), (D.val (vI x3))])]))
 (bcase (decide (0 < 0 + n0))
 (bcase (decide ((2 * (0 + n0) + 768) * 16 ≤ 281474976710656))
 (bcase (decide (0 + n0 ≤ 1099511627776))
 (((Qv (0 + n0)) ∧
 ((List.length (List.take 0 (List.drop 0 []) ++ List.take (n0 * 2) (List.drop 0 l0))) = ((0 + n0) * 2))) ∧
 (k [(D.agg [(D.sl (0 + n0) 2 ([] ++ (List.take (n0 * 2) (List.drop 0 l0)))), (D.val (vI x1)), (D.val (vI x2)), (D.val (vI x3))])]))
 False)
 False)
 False))
 False) := by kernel_rfl
def gYrn (C : Ct) (L : AtLoop) (x1 : Int) (x2 : Int) (x3 : Int) (k : List D → Prop) : Prop := wpFn Try.prog (hE C) L 0 12 #[.agg #[.slice none 0 0, .int .i64 x1, .int .i64 x2, .int .i64 x3]] (heapOf []) (dataK k)
theorem gYrn_text (C : Ct) (L : AtLoop) (x1 : Int) (x2 : Int) (x3 : Int) (k : List D → Prop) : gYrn C L x1 x2 x3 k =
 (((0 = 0) ∧
 (0 = 0)) ∧
 (k [(D.agg [(D.sl 0 2 []), (D.val (vI x1)), (D.val (vI x2)), (D.val (vI x3))])])) := by kernel_rfl
def gYs (C : Ct) (L : AtLoop) (n0 : Nat) (c0 : Nat) (l0 : List Value) (x1 : Int) (k : List D → Prop) : Prop := wpFn Try.prog (hE C) L 0 9 #[.agg #[.slice (some ⟨500, 0, none⟩) n0 c0, .int .i64 x1]] (heapOf [(500, .sym l0 false 1)]) (dataK k)
theorem gYs_text (C : Ct) (L : AtLoop) (n0 : Nat) (c0 : Nat) (l0 : List Go.Value) (x1 : Int) (k : List D → Prop) : gYs C L n0 c0 l0 x1 k =
 (((Qv (vI x1)) ∧
 ((Qv (Pt 1000 1)) ∧
 ((Qv (Sl 500 (n0) (c0))) ∧
 ((Qv (Pt 1000 0)) ∧
 True)))) ∧
 (bcase (decide (0 + n0 * 1 ≤ List.length l0))
 (bcase (n0 == 0)
 (((Qv (Value.agg [(Sl 1003 0 0), (vI x1)].toArray)) ∧
 ((Qv (vI x1)) ∧
 ((Qv (Pt 1000 1)) ∧
 ((Qv (Pt 1000 0)) ∧
 True)))) ∧
 (True ∧
 (((0 = 0) ∧
 (0 = 0)) ∧
 (k [(D.agg [(D.sl 0 1 []), (D.val (vI x1))])]))))
 (bcase (decide (0 < 0 + n0))
 (bcase (decide ((2 * (0 + n0) + 768) * 8 ≤ 281474976710656))
 (bcase (decide (0 + n0 ≤ 1099511627776))
 (((Qv (Value.agg [(Sl 1003 (0 + n0) (0 + n0)), (vI x1)].toArray)) ∧
 ((Qv (vI x1)) ∧
 ((Qv (Pt 1000 1)) ∧
 ((Qv (Pt 1000 0)) ∧
 True)))) ∧
 (True ∧
 (((Qv (0 + n0)) ∧
 ((List.length (List.take 0 (List.drop 0 []) ++ List.take (n0 * 1) (List.drop 0 l0))) = ((0 + n0) * 1))) ∧
 (k [(D.agg [(D.sl (0 + n0) 1 ([] ++ (List.take (n0 * 1) (List.drop 0 l0)))), (D.val (vI x1))])]))))
 False)
 False)
 False))
 False)) := by kernel_rfl
def gYsn (C : Ct) (L : AtLoop) (x1 : Int) (k : List D → Prop) : Prop := wpFn Try.prog (hE C) L 0 9 #[.agg #[.slice none 0 0, .int .i64 x1]] (heapOf []) (dataK k)
theorem gYsn_text (C : Ct) (L : AtLoop) (x1 : Int) (k : List D → Prop) : gYsn C L x1 k =
 (((Qv (vI x1)) ∧
 ((Qv (Pt 1000 1)) ∧
 ((Qv (Value.slice none 0 0)) ∧
 ((Qv (Pt 1000 0)) ∧
 True)))) ∧
 (((Qv (Value.agg [(Sl 1003 0 0), (vI x1)].toArray)) ∧
 ((Qv (vI x1)) ∧
 ((Qv (Pt 1000 1)) ∧
 ((Qv (Pt 1000 0)) ∧
 True)))) ∧
 (True ∧
 (((0 = 0) ∧
 (0 = 0)) ∧
 (k [(D.agg [(D.sl 0 1 []), (D.val (vI x1))])]))))) := by kernel_rfl
def glw (C : Ct) (L : AtLoop) (n0 : Nat) (c0 : Nat) (l0 : List Value) (x1 : Int) (x2 : Int) (x3 : Int) (x4 : Int) (x5 : Int) (x6 : Int) (x7 : Int) (k : List D → Prop) : Prop := wpFn Try.prog (hH C) L 0 76 #[.agg #[.slice (some ⟨500, 0, none⟩) n0 c0, .int .i64 x1, .int .i64 x2, .int .i64 x3], .agg #[.int .i64 x4, .int .i64 x5], .int .i64 x6, .int .i64 x7] (heapOf [(500, .sym l0 false 2)]) (dataK k)
theorem glw_text (C : Ct) (L : AtLoop) (n0 : Nat) (c0 : Nat) (l0 : List Go.Value) (x1 : Int) (x2 : Int) (x3 : Int) (x4 : Int) (x5 : Int) (x6 : Int) (x7 : Int) (k : List D → Prop) : glw C L n0 c0 l0 x1 x2 x3 x4 x5 x6 x7 k =
 (((Qv (vI x6)) ∧
 ((Qv (Value.agg [(Sl 500 (n0) (c0))].toArray)) ∧
 ((Qv (Pt 1000 0)) ∧
 ((Qv (vI x5)) ∧
 ((Qv (Pt 1001 1)) ∧
 ((Qv (Value.agg [(Sl 500 (n0) (c0))].toArray)) ∧
 ((Qv (Pt 1000 0)) ∧
 ((Qv (vI x4)) ∧
 ((Qv (Pt 1001 0)) ∧
 True))))))))) ∧
 (bcase (decide (0 + n0 * 2 ≤ List.length l0))
 (∃ n1 : Int,
 ((Says C 82 [(D.agg [(D.sl (n0) 2 (List.take (n0 * 2) (List.drop 0 l0)))]), (D.val (vI x5))] [(D.val (vI n1))]) ∧
 (((Qv (vI x6)) ∧
 ((Qv (Value.agg [(Sl 500 (n0) (c0))].toArray)) ∧
 ((Qv (Pt 1000 0)) ∧
 ((Qv (Pt 1001 1)) ∧
 ((Qv (Pt 1000 0)) ∧
 ((Qv (vI x4)) ∧
 ((Qv (Pt 1001 0)) ∧
 True))))))) ∧
 (bcase (decide (0 + n0 * 2 ≤ List.length l0))
 (∃ n2 : Int,
 ((Says C 82 [(D.agg [(D.sl (n0) 2 (List.take (n0 * 2) (List.drop 0 l0)))]), (D.val (vI x6))] [(D.val (vI n2))]) ∧
 (((Qv (vI (IntKind.wrap .i64 (x4 * IntKind.wrap .i64 (n1 - n2))))) ∧
 ((Qv (vI (IntKind.wrap .i64 (n1 - n2)))) ∧
 ((Qv (Pt 1000 0)) ∧
 ((Qv (Pt 1001 1)) ∧
 ((Qv (Pt 1000 0)) ∧
 ((Qv (vI x4)) ∧
 ((Qv (Pt 1001 0)) ∧
 True))))))) ∧
 (True ∧
 (∃ n3 : Int,
 ((Says C 83 [(D.val (vI (IntKind.wrap .i64 (IntKind.wrap .i64 (x4 * IntKind.wrap .i64 (n1 - n2)) * x7)))), (D.val (vI 1000000))] [(D.val (vI n3))]) ∧
 (k [(D.val (vI (IntKind.wrap .i64 (x6 + n3))))])))))))
 False))))
 False)) := by kernel_rfl
def gup (C : Ct) (L : AtLoop) (n0 : Nat) (c0 : Nat) (l0 : List Value) (x1 : Int) (x2 : Int) (x3 : Int) (x4 : Int) (x5 : Int) (x6 : Int) (k : List D → Prop) : Prop := wpFn Try.prog (hH C) L 0 77 #[.agg #[.slice (some ⟨500, 0, none⟩) n0 c0, .int .i64 x1, .int .i64 x2, .int .i64 x3], .agg #[.int .i64 x4, .int .i64 x5], .int .i64 x6] (heapOf [(500, .sym l0 false 2)]) (dataK k)
theorem gup_text (C : Ct) (L : AtLoop) (n0 : Nat) (c0 : Nat) (l0 : List Go.Value) (x1 : Int) (x2 : Int) (x3 : Int) (x4 : Int) (x5 : Int) (x6 : Int) (k : List D → Prop) : gup C L n0 c0 l0 x1 x2 x3 x4 x5 x6 k =
 (((Qv (vI x6)) ∧
 ((Qv (Value.agg [(Sl 500 (n0) (c0))].toArray)) ∧
 ((Qv (Pt 1000 0)) ∧
 ((Qv (vI x5)) ∧
 ((Qv (Pt 1001 1)) ∧
 ((Qv (Value.agg [(Sl 500 (n0) (c0))].toArray)) ∧
 ((Qv (Pt 1000 0)) ∧
 ((Qv (vI x4)) ∧
 ((Qv (Pt 1001 0)) ∧
 True))))))))) ∧
 (bcase (decide (0 + n0 * 2 ≤ List.length l0))
 (∃ n1 : Int,
 ((Says C 82 [(D.agg [(D.sl (n0) 2 (List.take (n0 * 2) (List.drop 0 l0)))]), (D.val (vI x5))] [(D.val (vI n1))]) ∧
 (((Qv (vI x6)) ∧
 ((Qv (Value.agg [(Sl 500 (n0) (c0))].toArray)) ∧
 ((Qv (Pt 1000 0)) ∧
 ((Qv (Pt 1001 1)) ∧
 ((Qv (Pt 1000 0)) ∧
 ((Qv (vI x4)) ∧
 ((Qv (Pt 1001 0)) ∧
 True))))))) ∧
 (bcase (decide (0 + n0 * 2 ≤ List.length l0))
 (∃ n2 : Int,
 ((Says C 82 [(D.agg [(D.sl (n0) 2 (List.take (n0 * 2) (List.drop 0 l0)))]), (D.val (vI x6))] [(D.val (vI n2))]) ∧
 (((Qv (vI (IntKind.wrap .i64 (x4 * IntKind.wrap .i64 (n1 - n2))))) ∧
 ((Qv (vI (IntKind.wrap .i64 (n1 - n2)))) ∧
 ((Qv (Pt 1000 0)) ∧
 ((Qv (Pt 1001 1)) ∧
 ((Qv (Pt 1000 0)) ∧
 ((Qv (vI x4)) ∧
 ((Qv (Pt 1001 0)) ∧
 True))))))) ∧
 (True ∧
 (∃ n3 : Int,
 ((Says C 83 [(D.val (vI (IntKind.wrap .i64 (x4 * IntKind.wrap .i64 (n1 - n2))))), (D.val (vI 1000))] [(D.val (vI n3))]) ∧
 (k [(D.val (vI (IntKind.wrap .i64 (x6 + n3))))])))))))
 False))))
 False)) := by kernel_rfl
def gMi (C : Ct) (L : AtLoop) (n0 : Nat) (c0 : Nat) (l0 : List Value) (x1 : Int) (x2 : Int) (x3 : Int) (n4 : Nat) (c4 : Nat) (l4 : List Value) (k : List D → Prop) : Prop := wpFn Try.prog (hH C) L 0 78 #[.agg #[.slice (some ⟨500, 0, none⟩) n0 c0, .int .i64 x1, .int .i64 x2, .int .i64 x3], .slice (some ⟨501, 0, none⟩) n4 c4] (heapOf [(500, .sym l0 false 2), (501, .sym l4 false 1)]) (dataK k)
theorem gMi_text (C : Ct) (L : AtLoop) (n0 : Nat) (c0 : Nat) (l0 : List Go.Value) (x1 : Int) (x2 : Int) (x3 : Int) (n4 : Nat) (c4 : Nat) (l4 : List Go.Value) (k : List D → Prop) : gMi C L n0 c0 l0 x1 x2 x3 n4 c4 l4 k =
 (L 0 [(Prod.mk 1 (Sl 501 (n4) (c4))), (Prod.mk 2 (Pt 1000 0)), (Prod.mk 5 (Value.slice none 0 0)), (Prod.mk 6 (vI 0))] [(Prod.mk 501 (AObj.sym (l4) false 1)), (Prod.mk 1000 (AObj.cells [(Sl 500 (n0) (c0)), (vI x1), (vI x2), (vI x3)] 28 false 1)), (Prod.mk 500 (AObj.sym (l0) false 2))]) := by kernel_rfl
abbrev zMi1 (n0 : Nat) (c1 : Nat) (x2 : Int) (l3 : List Value) (n4 : Nat) (c5 : Nat) (x6 : Int) (x7 : Int) (x8 : Int) (l9 : List Value) : Slots × Blocks := ([(1, (Value.slice (some ⟨501, 0, none⟩) n0 c1)), (2, (Value.pointer (some ⟨1000, 0, none⟩))), (5, (Value.slice none 0 0)), (6, (Value.int .i64 x2))], [(501, (AObj.sym l3 false 1)), (1000, (AObj.cells [(Value.slice (some ⟨500, 0, none⟩) n4 c5), (Value.int .i64 x6), (Value.int .i64 x7), (Value.int .i64 x8)] 28 false 1)), (500, (AObj.sym l9 false 2))])
def rMi1 (C : Ct) (L : AtLoop) (n0 : Nat) (c1 : Nat) (x2 : Int) (l3 : List Value) (n4 : Nat) (c5 : Nat) (x6 : Int) (x7 : Int) (x8 : Int) (l9 : List Value) (B : Bx) (X : Xx) (k : List D → Prop) : Prop := wpRound Try.prog (hH C) L 78 0 [(1, (Value.slice (some ⟨501, 0, none⟩) n0 c1)), (2, (Value.pointer (some ⟨1000, 0, none⟩))), (5, (Value.slice none 0 0)), (6, (Value.int .i64 x2))] [(501, (AObj.sym l3 false 1)), (1000, (AObj.cells [(Value.slice (some ⟨500, 0, none⟩) n4 c5), (Value.int .i64 x6), (Value.int .i64 x7), (Value.int .i64 x8)] 28 false 1)), (500, (AObj.sym l9 false 2))] B X (dataK k)
theorem rMi1_text (C : Ct) (L : AtLoop) (n0 : Nat) (c1 : Nat) (x2 : Int) (l3 : List Go.Value) (n4 : Nat) (c5 : Nat) (x6 : Int) (x7 : Int) (x8 : Int) (l9 : List Go.Value) (B : Bx) (X : Xx) (k : List D → Prop) : rMi1 C L n0 c1 x2 l3 n4 c5 x6 x7 x8 l9 B X k =
 (bcase (decide (x2 < (↑n0 : Int)))
 (bcase (decide (0 ≤ if IntKind.wrap .i64 (x2 - 1) > 0 then IntKind.wrap .i64 (x2 - 1) else 0))
 (bcase (decide ((if IntKind.wrap .i64 (x2 - 1) > 0 then IntKind.wrap .i64 (x2 - 1) else 0) < (↑n0 : Int)))
 (∃ n1 : Int,
 ((At (l3) (0 + Int.toNat (if IntKind.wrap .i64 (x2 - 1) > 0 then IntKind.wrap .i64 (x2 - 1) else 0) * 1) 1 [(vI n1)]) ∧
 (bcase (decide (0 ≤ if IntKind.wrap .i64 (x2 + 1) < IntKind.wrap .i64 ((↑n0 : Int) - 1) then IntKind.wrap .i64 (x2 + 1) else IntKind.wrap .i64 ((↑n0 : Int) - 1)))
 (bcase (decide ((if IntKind.wrap .i64 (x2 + 1) < IntKind.wrap .i64 ((↑n0 : Int) - 1) then IntKind.wrap .i64 (x2 + 1) else IntKind.wrap .i64 ((↑n0 : Int) - 1)) < (↑n0 : Int)))
 (∃ n2 : Int,
 ((At (l3) (0 + Int.toNat (if IntKind.wrap .i64 (x2 + 1) < IntKind.wrap .i64 ((↑n0 : Int) - 1) then IntKind.wrap .i64 (x2 + 1) else IntKind.wrap .i64 ((↑n0 : Int) - 1)) * 1) 1 [(vI n2)]) ∧
 (((∃ n3 : Int,
 ((At (l3) (0 + Int.toNat (if IntKind.wrap .i64 (x2 + 1) < IntKind.wrap .i64 ((↑n0 : Int) - 1) then IntKind.wrap .i64 (x2 + 1) else IntKind.wrap .i64 ((↑n0 : Int) - 1)) * 1) 1 [(vI n3)]) ∧
 ((vI n3) = (vI n2)))) ∧
 ((bcase (decide (0 ≤ if IntKind.wrap .i64 (x2 + 1) < IntKind.wrap .i64 ((↑n0 : Int) - 1) then IntKind.wrap .i64 (x2 + 1) else IntKind.wrap .i64 ((↑n0 : Int) - 1)))
 (bcase (decide ((if IntKind.wrap .i64 (x2 + 1) < IntKind.wrap .i64 ((↑n0 : Int) - 1) then IntKind.wrap .i64 (x2 + 1) else IntKind.wrap .i64 ((↑n0 : Int) - 1)) < (↑n0 : Int)))
 (Qv (Pt 501 (0 + Int.toNat (if IntKind.wrap .i64 (x2 + 1) < IntKind.wrap .i64 ((↑n0 : Int) - 1) then IntKind.wrap .i64 (x2 + 1) else IntKind.wrap .i64 ((↑n0 : Int) - 1)) * 1)))
 False)
 False) ∧
 ((Qv (vI (if IntKind.wrap .i64 (x2 + 1) < IntKind.wrap .i64 ((↑n0 : Int) - 1) then IntKind.wrap .i64 (x2 + 1) else IntKind.wrap .i64 ((↑n0 : Int) - 1)))) ∧
 ((Qv (vI (IntKind.wrap .i64 (x2 + 1)))) ∧
 ((Qv (vI x2)) ∧
 ((Qv (vI (IntKind.wrap .i64 ((↑n0 : Int) - 1)))) ∧
 ((Qv (vI ((↑n0 : Int)))) ∧
 ((Qv (Sl 501 (n0) (c1))) ∧
 ((Qv (Sl 501 (n0) (c1))) ∧
 ((∃ n3 : Int,
 ((At (l3) (0 + Int.toNat (if IntKind.wrap .i64 (x2 - 1) > 0 then IntKind.wrap .i64 (x2 - 1) else 0) * 1) 1 [(vI n3)]) ∧
 ((vI n3) = (vI n1)))) ∧
 ((bcase (decide (0 ≤ if IntKind.wrap .i64 (x2 - 1) > 0 then IntKind.wrap .i64 (x2 - 1) else 0))
 (bcase (decide ((if IntKind.wrap .i64 (x2 - 1) > 0 then IntKind.wrap .i64 (x2 - 1) else 0) < (↑n0 : Int)))
 (Qv (Pt 501 (0 + Int.toNat (if IntKind.wrap .i64 (x2 - 1) > 0 then IntKind.wrap .i64 (x2 - 1) else 0) * 1)))
 False)
 False) ∧
 ((Qv (vI (if IntKind.wrap .i64 (x2 - 1) > 0 then IntKind.wrap .i64 (x2 - 1) else 0))) ∧
 ((Qv (vI (IntKind.wrap .i64 (x2 - 1)))) ∧
 ((Qv (vI x2)) ∧
 ((Qv (Sl 501 (n0) (c1))) ∧
 True))))))))))))))) ∧
 (((∃ n3 : Int,
 ((At (l3) (0 + Int.toNat (if IntKind.wrap .i64 (x2 + 1) < IntKind.wrap .i64 ((↑n0 : Int) - 1) then IntKind.wrap .i64 (x2 + 1) else IntKind.wrap .i64 ((↑n0 : Int) - 1)) * 1) 1 [(vI n3)]) ∧
 ((vI n3) = (vI n2)))) ∧
 ((bcase (decide (0 ≤ if IntKind.wrap .i64 (x2 + 1) < IntKind.wrap .i64 ((↑n0 : Int) - 1) then IntKind.wrap .i64 (x2 + 1) else IntKind.wrap .i64 ((↑n0 : Int) - 1)))
 (bcase (decide ((if IntKind.wrap .i64 (x2 + 1) < IntKind.wrap .i64 ((↑n0 : Int) - 1) then IntKind.wrap .i64 (x2 + 1) else IntKind.wrap .i64 ((↑n0 : Int) - 1)) < (↑n0 : Int)))
 (Qv (Pt 501 (0 + Int.toNat (if IntKind.wrap .i64 (x2 + 1) < IntKind.wrap .i64 ((↑n0 : Int) - 1) then IntKind.wrap .i64 (x2 + 1) else IntKind.wrap .i64 ((↑n0 : Int) - 1)) * 1)))
 False)
 False) ∧
 ((Qv (vI (if IntKind.wrap .i64 (x2 + 1) < IntKind.wrap .i64 ((↑n0 : Int) - 1) then IntKind.wrap .i64 (x2 + 1) else IntKind.wrap .i64 ((↑n0 : Int) - 1)))) ∧
 ((Qv (vI (IntKind.wrap .i64 (x2 + 1)))) ∧
 ((Qv (vI x2)) ∧
 ((Qv (vI (IntKind.wrap .i64 ((↑n0 : Int) - 1)))) ∧
 ((Qv (vI ((↑n0 : Int)))) ∧
 ((Qv (Sl 501 (n0) (c1))) ∧
 ((Qv (Sl 501 (n0) (c1))) ∧
 True))))))))) ∧
 (True ∧
 (bcase (decide (0 ≤ x2))
 (bcase (decide (x2 < (↑n0 : Int)))
 (∃ n3 : Int,
 ((At (l3) (0 + Int.toNat x2 * 1) 1 [(vI n3)]) ∧
 (((Qv (vI (IntKind.wrap .i64 (IntKind.wrap .i64 (IntKind.wrap .i64 (x6 * n1) + IntKind.wrap .i64 (x6 * n2)) + IntKind.wrap .i64 (IntKind.wrap .i64 (100 - IntKind.wrap .i64 (2 * x6)) * n3))))) ∧
 ((Qv (vI (IntKind.wrap .i64 (IntKind.wrap .i64 (100 - IntKind.wrap .i64 (2 * x6)) * n3)))) ∧
 ((∃ n5 : Int,
 ((At (l3) (0 + Int.toNat x2 * 1) 1 [(vI n5)]) ∧
 ((vI n5) = (vI n3)))) ∧
 ((bcase (decide (0 ≤ x2))
 (bcase (decide (x2 < (↑n0 : Int)))
 (Qv (Pt 501 (0 + Int.toNat x2 * 1)))
 False)
 False) ∧
 ((Qv (vI x2)) ∧
 ((Qv (Sl 501 (n0) (c1))) ∧
 ((Qv (vI (IntKind.wrap .i64 (100 - IntKind.wrap .i64 (2 * x6))))) ∧
 ((Qv (vI (IntKind.wrap .i64 (2 * x6)))) ∧
 ((Qv (vI x6)) ∧
 ((Qv (Pt 1000 1)) ∧
 ((Qv (vI (IntKind.wrap .i64 (IntKind.wrap .i64 (x6 * n1) + IntKind.wrap .i64 (x6 * n2))))) ∧
 ((Qv (vI (IntKind.wrap .i64 (x6 * n2)))) ∧
 ((Qv (vI n2)) ∧
 ((Qv (vI x6)) ∧
 ((Qv (Pt 1000 1)) ∧
 ((Qv (vI (IntKind.wrap .i64 (x6 * n1)))) ∧
 ((Qv (vI n1)) ∧
 ((Qv (vI x6)) ∧
 ((Qv (Pt 1000 1)) ∧
 ((Qv (Value.slice none 0 0)) ∧
 True)))))))))))))))))))) ∧
 (∃ n5 : Int,
 ((Says C 83 [(D.val (vI (IntKind.wrap .i64 (IntKind.wrap .i64 (IntKind.wrap .i64 (x6 * n1) + IntKind.wrap .i64 (x6 * n2)) + IntKind.wrap .i64 (IntKind.wrap .i64 (100 - IntKind.wrap .i64 (2 * x6)) * n3))))), (D.val (vI 100))] [(D.val (vI n5))]) ∧
 ((((Qv (Sl 1001 1 1)) ∧
 (Qv (some (AObj.cells [(vI n5)] 3 false 1)))) ∧
 ((Qv (vI (IntKind.wrap .i64 (IntKind.wrap .i64 (100 - IntKind.wrap .i64 (2 * x6)) * n3)))) ∧
 ((∃ n6 : Int,
 ((At (l3) (0 + Int.toNat x2 * 1) 1 [(vI n6)]) ∧
 ((vI n6) = (vI n3)))) ∧
 ((bcase (decide (0 ≤ x2))
 (bcase (decide (x2 < (↑n0 : Int)))
 (Qv (Pt 501 (0 + Int.toNat x2 * 1)))
 False)
 False) ∧
 ((Qv (vI x2)) ∧
 ((Qv (Sl 501 (n0) (c1))) ∧
 ((Qv (vI (IntKind.wrap .i64 (100 - IntKind.wrap .i64 (2 * x6))))) ∧
 ((Qv (vI (IntKind.wrap .i64 (2 * x6)))) ∧
 ((Qv (vI x6)) ∧
 ((Qv (Pt 1000 1)) ∧
 ((Qv (vI (IntKind.wrap .i64 (IntKind.wrap .i64 (x6 * n1) + IntKind.wrap .i64 (x6 * n2))))) ∧
 ((Qv (vI (IntKind.wrap .i64 (x6 * n2)))) ∧
 ((Qv (vI n2)) ∧
 ((Qv (vI x6)) ∧
 ((Qv (Pt 1000 1)) ∧
 ((Qv (vI (IntKind.wrap .i64 (x6 * n1)))) ∧
 ((Qv (vI n1)) ∧
 ((Qv (vI x6)) ∧
 ((Qv (Pt 1000 1)) ∧
 ((Qv (Value.slice none 0 0)) ∧
 True)))))))))))))))))))) ∧
 (((Qv (vI (IntKind.wrap .i64 (IntKind.wrap .i64 (100 - IntKind.wrap .i64 (2 * x6)) * n3)))) ∧
 ((∃ n6 : Int,
 ((At (l3) (0 + Int.toNat x2 * 1) 1 [(vI n6)]) ∧
 ((vI n6) = (vI n3)))) ∧
 ((bcase (decide (0 ≤ x2))
 (bcase (decide (x2 < (↑n0 : Int)))
 (Qv (Pt 501 (0 + Int.toNat x2 * 1)))
 False)
 False) ∧
 ((Qv (vI x2)) ∧
 ((Qv (Sl 501 (n0) (c1))) ∧
 ((Qv (vI (IntKind.wrap .i64 (100 - IntKind.wrap .i64 (2 * x6))))) ∧
 ((Qv (vI (IntKind.wrap .i64 (2 * x6)))) ∧
 ((Qv (vI x6)) ∧
 ((Qv (Pt 1000 1)) ∧
 ((Qv (vI (IntKind.wrap .i64 (IntKind.wrap .i64 (x6 * n1) + IntKind.wrap .i64 (x6 * n2))))) ∧
 ((Qv (vI (IntKind.wrap .i64 (x6 * n2)))) ∧
 ((Qv (vI n2)) ∧
 ((Qv (vI x6)) ∧
 ((Qv (Pt 1000 1)) ∧
 ((Qv (vI (IntKind.wrap .i64 (x6 * n1)))) ∧
 ((Qv (vI n1)) ∧
 ((Qv (vI x6)) ∧
 ((Qv (Pt 1000 1)) ∧
 True)))))))))))))))))) ∧
 (True ∧
 (B [(Prod.mk 1 (Sl 501 (n0) (c1))), (Prod.mk 2 (Pt 1000 0)), (Prod.mk 5 (Sl 1001 1 1)), (Prod.mk 6 (vI (IntKind.wrap .i64 (x2 + 1))))] [(Prod.mk 501 (AObj.sym (l3) false 1)), (Prod.mk 1000 (AObj.cells [(Sl 500 (n4) (c5)), (vI x6), (vI x7), (vI x8)] 28 false 1)), (Prod.mk 1001 (AObj.sym [(vI n5)] true 1)), (Prod.mk 500 (AObj.sym (l9) false 2))])))))))))
 False)
 False))))))
 False)
 False)))
 False)
 False)
 (X 0 [(Prod.mk 5 (Value.slice none 0 0))] [])) := by kernel_rfl
abbrev zMi2 (n0 : Nat) (c1 : Nat) (n2 : Nat) (x3 : Int) (l4 : List Value) (n5 : Nat) (c6 : Nat) (x7 : Int) (x8 : Int) (x9 : Int) (l10 : List Value) (l11 : List Value) : Slots × Blocks := ([(1, (Value.slice (some ⟨501, 0, none⟩) n0 c1)), (2, (Value.pointer (some ⟨1000, 0, none⟩))), (5, (Value.slice (some ⟨1001, 0, none⟩) n2 n2)), (6, (Value.int .i64 x3))], [(501, (AObj.sym l4 false 1)), (1000, (AObj.cells [(Value.slice (some ⟨500, 0, none⟩) n5 c6), (Value.int .i64 x7), (Value.int .i64 x8), (Value.int .i64 x9)] 28 false 1)), (1001, (AObj.sym l10 true 1)), (500, (AObj.sym l11 false 2))])
def rMi2 (C : Ct) (L : AtLoop) (n0 : Nat) (c1 : Nat) (n2 : Nat) (x3 : Int) (l4 : List Value) (n5 : Nat) (c6 : Nat) (x7 : Int) (x8 : Int) (x9 : Int) (l10 : List Value) (l11 : List Value) (B : Bx) (X : Xx) (k : List D → Prop) : Prop := wpRound Try.prog (hH C) L 78 0 [(1, (Value.slice (some ⟨501, 0, none⟩) n0 c1)), (2, (Value.pointer (some ⟨1000, 0, none⟩))), (5, (Value.slice (some ⟨1001, 0, none⟩) n2 n2)), (6, (Value.int .i64 x3))] [(501, (AObj.sym l4 false 1)), (1000, (AObj.cells [(Value.slice (some ⟨500, 0, none⟩) n5 c6), (Value.int .i64 x7), (Value.int .i64 x8), (Value.int .i64 x9)] 28 false 1)), (1001, (AObj.sym l10 true 1)), (500, (AObj.sym l11 false 2))] B X (dataK k)
theorem rMi2_text (C : Ct) (L : AtLoop) (n0 : Nat) (c1 : Nat) (n2 : Nat) (x3 : Int) (l4 : List Go.Value) (n5 : Nat) (c6 : Nat) (x7 : Int) (x8 : Int) (x9 : Int) (l10 : List Go.Value) (l11 : List Go.Value) (B : Bx) (X : Xx) (k : List D → Prop) : rMi2 C L n0 c1 n2 x3 l4 n5 c6 x7 x8 x9 l10 l11 B X k =
 (bcase (decide (x3 < (↑n0 : Int)))
 (bcase (decide (0 ≤ if IntKind.wrap .i64 (x3 - 1) > 0 then IntKind.wrap .i64 (x3 - 1) else 0))
 (bcase (decide ((if IntKind.wrap .i64 (x3 - 1) > 0 then IntKind.wrap .i64 (x3 - 1) else 0) < (↑n0 : Int)))
 (∃ n1 : Int,
 ((At (l4) (0 + Int.toNat (if IntKind.wrap .i64 (x3 - 1) > 0 then IntKind.wrap .i64 (x3 - 1) else 0) * 1) 1 [(vI n1)]) ∧
 (bcase (decide (0 ≤ if IntKind.wrap .i64 (x3 + 1) < IntKind.wrap .i64 ((↑n0 : Int) - 1) then IntKind.wrap .i64 (x3 + 1) else IntKind.wrap .i64 ((↑n0 : Int) - 1)))
 (bcase (decide ((if IntKind.wrap .i64 (x3 + 1) < IntKind.wrap .i64 ((↑n0 : Int) - 1) then IntKind.wrap .i64 (x3 + 1) else IntKind.wrap .i64 ((↑n0 : Int) - 1)) < (↑n0 : Int)))
 (∃ n3 : Int,
 ((At (l4) (0 + Int.toNat (if IntKind.wrap .i64 (x3 + 1) < IntKind.wrap .i64 ((↑n0 : Int) - 1) then IntKind.wrap .i64 (x3 + 1) else IntKind.wrap .i64 ((↑n0 : Int) - 1)) * 1) 1 [(vI n3)]) ∧
 (((∃ n4 : Int,
 ((At (l4) (0 + Int.toNat (if IntKind.wrap .i64 (x3 + 1) < IntKind.wrap .i64 ((↑n0 : Int) - 1) then IntKind.wrap .i64 (x3 + 1) else IntKind.wrap .i64 ((↑n0 : Int) - 1)) * 1) 1 [(vI n4)]) ∧
 ((vI n4) = (vI n3)))) ∧
 ((bcase (decide (0 ≤ if IntKind.wrap .i64 (x3 + 1) < IntKind.wrap .i64 ((↑n0 : Int) - 1) then IntKind.wrap .i64 (x3 + 1) else IntKind.wrap .i64 ((↑n0 : Int) - 1)))
 (bcase (decide ((if IntKind.wrap .i64 (x3 + 1) < IntKind.wrap .i64 ((↑n0 : Int) - 1) then IntKind.wrap .i64 (x3 + 1) else IntKind.wrap .i64 ((↑n0 : Int) - 1)) < (↑n0 : Int)))
 (Qv (Pt 501 (0 + Int.toNat (if IntKind.wrap .i64 (x3 + 1) < IntKind.wrap .i64 ((↑n0 : Int) - 1) then IntKind.wrap .i64 (x3 + 1) else IntKind.wrap .i64 ((↑n0 : Int) - 1)) * 1)))
 False)
 False) ∧
 ((Qv (vI (if IntKind.wrap .i64 (x3 + 1) < IntKind.wrap .i64 ((↑n0 : Int) - 1) then IntKind.wrap .i64 (x3 + 1) else IntKind.wrap .i64 ((↑n0 : Int) - 1)))) ∧
 ((Qv (vI (IntKind.wrap .i64 (x3 + 1)))) ∧
 ((Qv (vI x3)) ∧
 ((Qv (vI (IntKind.wrap .i64 ((↑n0 : Int) - 1)))) ∧
 ((Qv (vI ((↑n0 : Int)))) ∧
 ((Qv (Sl 501 (n0) (c1))) ∧
 ((Qv (Sl 501 (n0) (c1))) ∧
 ((∃ n4 : Int,
 ((At (l4) (0 + Int.toNat (if IntKind.wrap .i64 (x3 - 1) > 0 then IntKind.wrap .i64 (x3 - 1) else 0) * 1) 1 [(vI n4)]) ∧
 ((vI n4) = (vI n1)))) ∧
 ((bcase (decide (0 ≤ if IntKind.wrap .i64 (x3 - 1) > 0 then IntKind.wrap .i64 (x3 - 1) else 0))
 (bcase (decide ((if IntKind.wrap .i64 (x3 - 1) > 0 then IntKind.wrap .i64 (x3 - 1) else 0) < (↑n0 : Int)))
 (Qv (Pt 501 (0 + Int.toNat (if IntKind.wrap .i64 (x3 - 1) > 0 then IntKind.wrap .i64 (x3 - 1) else 0) * 1)))
 False)
 False) ∧
 ((Qv (vI (if IntKind.wrap .i64 (x3 - 1) > 0 then IntKind.wrap .i64 (x3 - 1) else 0))) ∧
 ((Qv (vI (IntKind.wrap .i64 (x3 - 1)))) ∧
 ((Qv (vI x3)) ∧
 ((Qv (Sl 501 (n0) (c1))) ∧
 True))))))))))))))) ∧
 (((∃ n4 : Int,
 ((At (l4) (0 + Int.toNat (if IntKind.wrap .i64 (x3 + 1) < IntKind.wrap .i64 ((↑n0 : Int) - 1) then IntKind.wrap .i64 (x3 + 1) else IntKind.wrap .i64 ((↑n0 : Int) - 1)) * 1) 1 [(vI n4)]) ∧
 ((vI n4) = (vI n3)))) ∧
 ((bcase (decide (0 ≤ if IntKind.wrap .i64 (x3 + 1) < IntKind.wrap .i64 ((↑n0 : Int) - 1) then IntKind.wrap .i64 (x3 + 1) else IntKind.wrap .i64 ((↑n0 : Int) - 1)))
 (bcase (decide ((if IntKind.wrap .i64 (x3 + 1) < IntKind.wrap .i64 ((↑n0 : Int) - 1) then IntKind.wrap .i64 (x3 + 1) else IntKind.wrap .i64 ((↑n0 : Int) - 1)) < (↑n0 : Int)))
 (Qv (Pt 501 (0 + Int.toNat (if IntKind.wrap .i64 (x3 + 1) < IntKind.wrap .i64 ((↑n0 : Int) - 1) then IntKind.wrap .i64 (x3 + 1) else IntKind.wrap .i64 ((↑n0 : Int) - 1)) * 1)))
 False)
 False) ∧
 ((Qv (vI (if IntKind.wrap .i64 (x3 + 1) < IntKind.wrap .i64 ((↑n0 : Int) - 1) then IntKind.wrap .i64 (x3 + 1) else IntKind.wrap .i64 ((↑n0 : Int) - 1)))) ∧
 ((Qv (vI (IntKind.wrap .i64 (x3 + 1)))) ∧
 ((Qv (vI x3)) ∧
 ((Qv (vI (IntKind.wrap .i64 ((↑n0 : Int) - 1)))) ∧
 ((Qv (vI ((↑n0 : Int)))) ∧
 ((Qv (Sl 501 (n0) (c1))) ∧
 ((Qv (Sl 501 (n0) (c1))) ∧
 True))))))))) ∧
 (True ∧
 (bcase (decide (0 ≤ x3))
 (bcase (decide (x3 < (↑n0 : Int)))
 (∃ n4 : Int,
 ((At (l4) (0 + Int.toNat x3 * 1) 1 [(vI n4)]) ∧
 (((Qv (vI (IntKind.wrap .i64 (IntKind.wrap .i64 (IntKind.wrap .i64 (x7 * n1) + IntKind.wrap .i64 (x7 * n3)) + IntKind.wrap .i64 (IntKind.wrap .i64 (100 - IntKind.wrap .i64 (2 * x7)) * n4))))) ∧
 ((Qv (vI (IntKind.wrap .i64 (IntKind.wrap .i64 (100 - IntKind.wrap .i64 (2 * x7)) * n4)))) ∧
 ((∃ n6 : Int,
 ((At (l4) (0 + Int.toNat x3 * 1) 1 [(vI n6)]) ∧
 ((vI n6) = (vI n4)))) ∧
 ((bcase (decide (0 ≤ x3))
 (bcase (decide (x3 < (↑n0 : Int)))
 (Qv (Pt 501 (0 + Int.toNat x3 * 1)))
 False)
 False) ∧
 ((Qv (vI x3)) ∧
 ((Qv (Sl 501 (n0) (c1))) ∧
 ((Qv (vI (IntKind.wrap .i64 (100 - IntKind.wrap .i64 (2 * x7))))) ∧
 ((Qv (vI (IntKind.wrap .i64 (2 * x7)))) ∧
 ((Qv (vI x7)) ∧
 ((Qv (Pt 1000 1)) ∧
 ((Qv (vI (IntKind.wrap .i64 (IntKind.wrap .i64 (x7 * n1) + IntKind.wrap .i64 (x7 * n3))))) ∧
 ((Qv (vI (IntKind.wrap .i64 (x7 * n3)))) ∧
 ((Qv (vI n3)) ∧
 ((Qv (vI x7)) ∧
 ((Qv (Pt 1000 1)) ∧
 ((Qv (vI (IntKind.wrap .i64 (x7 * n1)))) ∧
 ((Qv (vI n1)) ∧
 ((Qv (vI x7)) ∧
 ((Qv (Pt 1000 1)) ∧
 ((Qv (Sl 1001 (n2) (n2))) ∧
 True)))))))))))))))))))) ∧
 (∃ n6 : Int,
 ((Says C 83 [(D.val (vI (IntKind.wrap .i64 (IntKind.wrap .i64 (IntKind.wrap .i64 (x7 * n1) + IntKind.wrap .i64 (x7 * n3)) + IntKind.wrap .i64 (IntKind.wrap .i64 (100 - IntKind.wrap .i64 (2 * x7)) * n4))))), (D.val (vI 100))] [(D.val (vI n6))]) ∧
 ((((Qv (Sl 1002 1 1)) ∧
 (Qv (some (AObj.cells [(vI n6)] 3 false 1)))) ∧
 ((Qv (vI (IntKind.wrap .i64 (IntKind.wrap .i64 (100 - IntKind.wrap .i64 (2 * x7)) * n4)))) ∧
 ((∃ n7 : Int,
 ((At (l4) (0 + Int.toNat x3 * 1) 1 [(vI n7)]) ∧
 ((vI n7) = (vI n4)))) ∧
 ((bcase (decide (0 ≤ x3))
 (bcase (decide (x3 < (↑n0 : Int)))
 (Qv (Pt 501 (0 + Int.toNat x3 * 1)))
 False)
 False) ∧
 ((Qv (vI x3)) ∧
 ((Qv (Sl 501 (n0) (c1))) ∧
 ((Qv (vI (IntKind.wrap .i64 (100 - IntKind.wrap .i64 (2 * x7))))) ∧
 ((Qv (vI (IntKind.wrap .i64 (2 * x7)))) ∧
 ((Qv (vI x7)) ∧
 ((Qv (Pt 1000 1)) ∧
 ((Qv (vI (IntKind.wrap .i64 (IntKind.wrap .i64 (x7 * n1) + IntKind.wrap .i64 (x7 * n3))))) ∧
 ((Qv (vI (IntKind.wrap .i64 (x7 * n3)))) ∧
 ((Qv (vI n3)) ∧
 ((Qv (vI x7)) ∧
 ((Qv (Pt 1000 1)) ∧
 ((Qv (vI (IntKind.wrap .i64 (x7 * n1)))) ∧
 ((Qv (vI n1)) ∧
 ((Qv (vI x7)) ∧
 ((Qv (Pt 1000 1)) ∧
 ((Qv (Sl 1001 (n2) (n2))) ∧
 True)))))))))))))))))))) ∧
 (bcase (decide (n2 < n2 + 1))
 (bcase (decide ((2 * (n2 + 1) + 768) * 8 ≤ 281474976710656))
 (bcase (decide (n2 + 1 ≤ 1099511627776))
 (bcase (decide (0 + n2 * 1 ≤ List.length l10))
 (bcase (decide (0 + n2 * 1 = List.length l10))
 (((Qv (vI (IntKind.wrap .i64 (IntKind.wrap .i64 (100 - IntKind.wrap .i64 (2 * x7)) * n4)))) ∧
 ((∃ n7 : Int,
 ((At (l4) (0 + Int.toNat x3 * 1) 1 [(vI n7)]) ∧
 ((vI n7) = (vI n4)))) ∧
 ((bcase (decide (0 ≤ x3))
 (bcase (decide (x3 < (↑n0 : Int)))
 (Qv (Pt 501 (0 + Int.toNat x3 * 1)))
 False)
 False) ∧
 ((Qv (vI x3)) ∧
 ((Qv (Sl 501 (n0) (c1))) ∧
 ((Qv (vI (IntKind.wrap .i64 (100 - IntKind.wrap .i64 (2 * x7))))) ∧
 ((Qv (vI (IntKind.wrap .i64 (2 * x7)))) ∧
 ((Qv (vI x7)) ∧
 ((Qv (Pt 1000 1)) ∧
 ((Qv (vI (IntKind.wrap .i64 (IntKind.wrap .i64 (x7 * n1) + IntKind.wrap .i64 (x7 * n3))))) ∧
 ((Qv (vI (IntKind.wrap .i64 (x7 * n3)))) ∧
 ((Qv (vI n3)) ∧
 ((Qv (vI x7)) ∧
 ((Qv (Pt 1000 1)) ∧
 ((Qv (vI (IntKind.wrap .i64 (x7 * n1)))) ∧
 ((Qv (vI n1)) ∧
 ((Qv (vI x7)) ∧
 ((Qv (Pt 1000 1)) ∧
 True)))))))))))))))))) ∧
 (True ∧
 (B [(Prod.mk 1 (Sl 501 (n0) (c1))), (Prod.mk 2 (Pt 1000 0)), (Prod.mk 5 (Sl 1001 (n2 + 1) (n2 + 1))), (Prod.mk 6 (vI (IntKind.wrap .i64 (x3 + 1))))] [(Prod.mk 501 (AObj.sym (l4) false 1)), (Prod.mk 1000 (AObj.cells [(Sl 500 (n5) (c6)), (vI x7), (vI x8), (vI x9)] 28 false 1)), (Prod.mk 1001 (AObj.sym ((List.take (n2 * 1) (List.drop 0 l10)) ++ [(vI n6)]) true 1)), (Prod.mk 500 (AObj.sym (l11) false 2))])))
 False)
 False)
 False)
 False)
 False)))))))
 False)
 False))))))
 False)
 False)))
 False)
 False)
 (X 0 [(Prod.mk 5 (Sl 1000 (n2) (n2)))] [(Prod.mk 1000 (AObj.sym (l10) true 1))])) := by kernel_rfl
def nMi4 (C : Ct) (L : AtLoop) (n0 : Nat) (l1 : List Value) (k : List D → Prop) : Prop := wpNext Try.prog (hH C) L 78 0 .normal [(5, (Value.slice (some ⟨1000, 0, none⟩) n0 n0))] [(1000, (AObj.sym l1 true 1))] (dataK k)
theorem nMi4_text (C : Ct) (L : AtLoop) (n0 : Nat) (l1 : List Go.Value) (k : List D → Prop) : nMi4 C L n0 l1 k =
 (((Qv (n0)) ∧
 ((List.length l1) = (n0 * 1))) ∧
 (k [(D.sl (n0) 1 (l1))])) := by kernel_rfl
def gbE (C : Ct) (L : AtLoop) (n0 : Nat) (c0 : Nat) (l0 : List Value) (x1 : Int) (x2 : Int) (x3 : Int) (n4 : Nat) (c4 : Nat) (l4 : List Value) (x5 : Int) (k : List D → Prop) : Prop := wpFn Try.prog (hH C) L 0 7 #[.agg #[.slice (some ⟨500, 0, none⟩) n0 c0, .int .i64 x1, .int .i64 x2, .int .i64 x3], .agg #[.slice (some ⟨501, 0, none⟩) n4 c4, .int .i64 x5]] (heapOf [(500, .sym l0 false 2), (501, .sym l4 false 1)]) (dataK k)
theorem gbE_text (C : Ct) (L : AtLoop) (n0 : Nat) (c0 : Nat) (l0 : List Go.Value) (x1 : Int) (x2 : Int) (x3 : Int) (n4 : Nat) (c4 : Nat) (l4 : List Go.Value) (x5 : Int) (k : List D → Prop) : gbE C L n0 c0 l0 x1 x2 x3 n4 c4 l4 x5 k =
 (bcase (decide (0 + n0 * 2 ≤ List.length l0))
 (∃ n1 : Int,
 ((Says C 30 [(D.agg [(D.sl (n0) 2 (List.take (n0 * 2) (List.drop 0 l0))), (D.val (vI x1)), (D.val (vI x2)), (D.val (vI x3))])] [(D.val (vI n1))]) ∧
 (bcase (n1 != 0)
 (k [(D.val (vI n1))])
 (bcase (decide (0 + n4 * 1 ≤ List.length l4))
 (∃ n2 : Int,
 ((Says C 13 [(D.agg [(D.sl (n4) 1 (List.take (n4 * 1) (List.drop 0 l4))), (D.val (vI x5))])] [(D.val (vI n2))]) ∧
 (k [(D.val (vI n2))])))
 False))))
 False) := by kernel_rfl
def gbE1 (C : Ct) (L : AtLoop) (n0 : Nat) (c0 : Nat) (l0 : List Value) (x1 : Int) (x2 : Int) (x3 : Int) (x5 : Int) (k : List D → Prop) : Prop := wpFn Try.prog (hH C) L 0 7 #[.agg #[.slice (some ⟨500, 0, none⟩) n0 c0, .int .i64 x1, .int .i64 x2, .int .i64 x3], .agg #[.slice none 0 0, .int .i64 x5]] (heapOf [(500, .sym l0 false 2)]) (dataK k)
theorem gbE1_text (C : Ct) (L : AtLoop) (n0 : Nat) (c0 : Nat) (l0 : List Go.Value) (x1 : Int) (x2 : Int) (x3 : Int) (x5 : Int) (k : List D → Prop) : gbE1 C L n0 c0 l0 x1 x2 x3 x5 k =
 (bcase (decide (0 + n0 * 2 ≤ List.length l0))
 (∃ n1 : Int,
 ((Says C 30 [(D.agg [(D.sl (n0) 2 (List.take (n0 * 2) (List.drop 0 l0))), (D.val (vI x1)), (D.val (vI x2)), (D.val (vI x3))])] [(D.val (vI n1))]) ∧
 (bcase (n1 != 0)
 (k [(D.val (vI n1))])
 (∃ n2 : Int,
 ((Says C 13 [(D.agg [D.nil, (D.val (vI x5))])] [(D.val (vI n2))]) ∧
 (k [(D.val (vI n2))]))))))
 False) := by kernel_rfl
def gbE2 (C : Ct) (L : AtLoop) (x1 : Int) (x2 : Int) (x3 : Int) (n4 : Nat) (c4 : Nat) (l4 : List Value) (x5 : Int) (k : List D → Prop) : Prop := wpFn Try.prog (hH C) L 0 7 #[.agg #[.slice none 0 0, .int .i64 x1, .int .i64 x2, .int .i64 x3], .agg #[.slice (some ⟨500, 0, none⟩) n4 c4, .int .i64 x5]] (heapOf [(500, .sym l4 false 1)]) (dataK k)
theorem gbE2_text (C : Ct) (L : AtLoop) (x1 : Int) (x2 : Int) (x3 : Int) (n4 : Nat) (c4 : Nat) (l4 : List Go.Value) (x5 : Int) (k : List D → Prop) : gbE2 C L x1 x2 x3 n4 c4 l4 x5 k =
 (∃ n1 : Int,
 ((Says C 30 [(D.agg [D.nil, (D.val (vI x1)), (D.val (vI x2)), (D.val (vI x3))])] [(D.val (vI n1))]) ∧
 (bcase (n1 != 0)
 (k [(D.val (vI n1))])
 (bcase (decide (0 + n4 * 1 ≤ List.length l4))
 (∃ n2 : Int,
 ((Says C 13 [(D.agg [(D.sl (n4) 1 (List.take (n4 * 1) (List.drop 0 l4))), (D.val (vI x5))])] [(D.val (vI n2))]) ∧
 (k [(D.val (vI n2))])))
 False)))) := by kernel_rfl
def gbE3 (C : Ct) (L : AtLoop) (x1 : Int) (x2 : Int) (x3 : Int) (x5 : Int) (k : List D → Prop) : Prop := wpFn Try.prog (hH C) L 0 7 #[.agg #[.slice none 0 0, .int .i64 x1, .int .i64 x2, .int .i64 x3], .agg #[.slice none 0 0, .int .i64 x5]] (heapOf []) (dataK k)
theorem gbE3_text (C : Ct) (L : AtLoop) (x1 : Int) (x2 : Int) (x3 : Int) (x5 : Int) (k : List D → Prop) : gbE3 C L x1 x2 x3 x5 k =
 (∃ n1 : Int,
 ((Says C 30 [(D.agg [D.nil, (D.val (vI x1)), (D.val (vI x2)), (D.val (vI x3))])] [(D.val (vI n1))]) ∧
 (bcase (n1 != 0)
 (k [(D.val (vI n1))])
 (∃ n2 : Int,
 ((Says C 13 [(D.agg [D.nil, (D.val (vI x5))])] [(D.val (vI n2))]) ∧
 (k [(D.val (vI n2))])))))) := by kernel_rfl
end Go.Proofs.G5j

/- The evaluator with a table: calls whose outcome on some data is known are not entered. -/
namespace Go.Abs
open Go.RowKit
variable {P : Program} {ρ : Ren} {w0 : Start P} {w : World} {H : Heap}

/-! ### Data of values, computed -/
def readCO (H : Heap) : List Value → Option (List D)
  | [] => some []
  | v :: r =>
    match v with
    | .slice none 0 0 => (readCO H r).map (.nil :: ·)
    | .slice (some ⟨i, o, none⟩) len _ =>
      match H.get i with
      | some (.sym cs _ es) => if o + len * es ≤ cs.length then (readCO H r).map (.sl len es ((cs.drop o).take (len * es)) :: ·) else none
      | some (.cells cs _ _ es) => if o + len * es ≤ cs.length then (if ((cs.drop o).take (len * es)).all cellP then (readCO H r).map (.sl len es ((cs.drop o).take (len * es)) :: ·) else none) else none
      | _ => none
    | v => if plain 8 v then (readCO H r).map (.val v :: ·) else none
def readVO (H : Heap) : List Value → Option (List D)
  | [] => some []
  | .agg cs :: r => (readCO H cs.toList).bind fun ds => (readVO H r).map (.agg ds :: ·)
  | v :: r => (readCO H [v]).bind fun ds => (readVO H r).map (ds ++ ·)
theorem readCO_ok : ∀ {l : List Value} {ds : List D}, readCO H l = some ds → ∀ k : List D → Prop, k ds → readCells H l k
  | [], ds, h, k, hk => by
    simp only [readCO, Option.some.injEq] at h; subst h; exact hk
  | v :: r, ds, h, k, hk => by
    unfold readCO at h
    unfold readCells
    split at h
    · obtain ⟨x, hx, rfl⟩ := Option.map_eq_some_iff.1 h
      exact readCO_ok hx _ hk
    · simp only
      split at h
      · rename_i hg
        simp only [hg]
        split at h
        · rename_i hle
          obtain ⟨x, hx, rfl⟩ := Option.map_eq_some_iff.1 h
          exact bcase_intro (fun _ => readCO_ok hx _ hk) (fun hf => absurd hle (of_decide_eq_false hf))
        · cases h
      · rename_i hg
        simp only [hg]
        split at h
        · rename_i hle
          split at h
          · rename_i hall
            obtain ⟨x, hx, rfl⟩ := Option.map_eq_some_iff.1 h
            exact bcase_intro (fun _ => bcase_intro (fun _ => readCO_ok hx _ hk) (fun hf => by rw [hall] at hf; cases hf)) (fun hf => absurd hle (of_decide_eq_false hf))
          · cases h
        · cases h
      · cases h
    · rename_i h1 h2
      split
      · exact absurd rfl h1
      · exact absurd rfl (h2 _ _ _ _)
      · split at h
        · rename_i hp
          obtain ⟨x, hx, rfl⟩ := Option.map_eq_some_iff.1 h
          rw [if_pos hp]
          exact readCO_ok hx _ hk
        · cases h
theorem readVO_ok : ∀ {l : List Value} {ds : List D}, readVO H l = some ds → ∀ k : List D → Prop, k ds → readVals H l k
  | [], ds, h, k, hk => by
    simp only [readVO, Option.some.injEq] at h; subst h; exact hk
  | v :: r, ds, h, k, hk => by
    unfold readVO at h
    unfold readVals
    split at h
    · rename_i e; cases e
    · rename_i e; cases e
      obtain ⟨x, hx, h⟩ := Option.bind_eq_some_iff.1 h
      obtain ⟨y, hy, rfl⟩ := Option.map_eq_some_iff.1 h
      exact readCO_ok hx _ (readVO_ok hy _ hk)
    · rename_i h1 e; cases e
      obtain ⟨x, hx, h⟩ := Option.bind_eq_some_iff.1 h
      obtain ⟨y, hy, rfl⟩ := Option.map_eq_some_iff.1 h
      split
      · rename_i e; cases e
      · rename_i e; cases e; exact absurd rfl (h1 _)
      · rename_i e; cases e
        exact readCO_ok hx _ (readVO_ok hy _ hk)

/-! ### Data laid, computed -/
def layCO : List D → Heap → Option (List Value × Heap)
  | [], H => some ([], H)
  | .nil :: r, H => (layCO r H).map fun x => (.slice none 0 0 :: x.1, x.2)
  | .sl n es cs :: r, H => (layCO r (H.new (.sym cs true es))).map fun x => (.slice (some ⟨H.next, 0, none⟩) n n :: x.1, x.2)
  | .val v :: r, H => match v with
    | .agg _ => none
    | v => (layCO r H).map fun x => (v :: x.1, x.2)
  | .agg _ :: _, _ => none
def layVO : List D → Heap → Option (List Value × Heap)
  | [], H => some ([], H)
  | .agg ds :: r, H => (layCO ds H).bind fun x => (layVO r x.2).map fun y => (.agg x.1.toArray :: y.1, y.2)
  | d :: r, H => (layCO [d] H).bind fun x => match x.1 with
    | [v] => (layVO r x.2).map fun y => (v :: y.1, y.2)
    | _ => none
theorem layCO_ok : ∀ {ds : List D} {H : Heap} {x : List Value × Heap}, layCO ds H = some x → ∀ k : List Value → Heap → Prop, k x.1 x.2 → layC ds H k
  | [], H, x, h, k, hk => by
    simp only [layCO, Option.some.injEq] at h; subst h; exact hk
  | .nil :: r, H, x, h, k, hk => by
    obtain ⟨y, hy, rfl⟩ := Option.map_eq_some_iff.1 h
    exact layCO_ok hy _ hk
  | .sl n es cs :: r, H, x, h, k, hk => by
    obtain ⟨y, hy, rfl⟩ := Option.map_eq_some_iff.1 h
    exact layCO_ok hy _ hk
  | .val v :: r, H, x, h, k, hk => by
    unfold layCO at h
    unfold layC
    split at h
    · cases h
    · rename_i hv
      obtain ⟨y, hy, rfl⟩ := Option.map_eq_some_iff.1 h
      first
        | exact layCO_ok hy _ hk
        | (split
           · exact absurd rfl (hv _)
           · exact layCO_ok hy _ hk)
  | .agg _ :: _, H, x, h, k, hk => by cases h
theorem layVO_ok : ∀ {ds : List D} {H : Heap} {x : List Value × Heap}, layVO ds H = some x → ∀ k : List Value → Heap → Prop, k x.1 x.2 → layV ds H k
  | [], H, x, h, k, hk => by
    simp only [layVO, Option.some.injEq] at h; subst h; exact hk
  | d :: r, H, x, h, k, hk => by
    unfold layVO at h
    unfold layV
    split at h
    · rename_i e; cases e
    · rename_i e; cases e
      obtain ⟨y, hy, h⟩ := Option.bind_eq_some_iff.1 h
      obtain ⟨z, hz, rfl⟩ := Option.map_eq_some_iff.1 h
      exact layCO_ok hy _ (layVO_ok hz _ hk)
    · rename_i h1 e; cases e
      obtain ⟨y, hy, h⟩ := Option.bind_eq_some_iff.1 h
      split at h
      · rename_i he
        obtain ⟨z, hz, rfl⟩ := Option.map_eq_some_iff.1 h
        split
        · rename_i e; cases e
        · rename_i e; cases e; exact absurd rfl (h1 _)
        · rename_i e; cases e
          refine layCO_ok hy _ ?_
          simp only [he]
          exact layVO_ok hz _ hk
      · cases h

/-! ### Data given, computed -/
def giveCO (H : Heap) : List Nat → List Value → Option (List Nat × List D)
  | used, [] => some (used, [])
  | used, v :: r =>
    match v with
    | .slice none 0 0 => (giveCO H used r).map fun x => (x.1, .nil :: x.2)
    | .slice (some ⟨i, 0, none⟩) len cap =>
      if gbase ≤ i ∧ used.contains i = false then
        match H.get i with
        | some (.sym cs true es) => if len = cap ∧ cs.length = len * es then (giveCO H (i :: used) r).map fun x => (x.1, .sl len es cs :: x.2) else none
        | some (.cells cs _ _ es) => if len = cap ∧ cs.length = len * es then (if cs.all cellP then (giveCO H (i :: used) r).map fun x => (x.1, .sl len es cs :: x.2) else none) else none
        | _ => none
      else none
    | v => if plain 8 v then (giveCO H used r).map fun x => (x.1, .val v :: x.2) else none
def giveVO (H : Heap) : List Nat → List Value → Option (List D)
  | _, [] => some []
  | used, .agg cs :: r => (giveCO H used cs.toList).bind fun x => (giveVO H x.1 r).map (.agg x.2 :: ·)
  | used, v :: r => (giveCO H used [v]).bind fun x => (giveVO H x.1 r).map (x.2 ++ ·)
def giveO (v : Value) (H : Heap) : Option (List D) :=
  match v with
  | .tuple vs => if vs.size = 1 then none else giveVO H [] vs.toList
  | v => giveVO H [] [v]
theorem giveCO_ok : ∀ {l : List Value} {used : List Nat} {x : List Nat × List D}, giveCO H used l = some x → ∀ k : List Nat → List D → Prop, k x.1 x.2 → giveCells H used l k
  | [], used, x, h, k, hk => by
    simp only [giveCO, Option.some.injEq] at h; subst h; exact hk
  | v :: r, used, x, h, k, hk => by
    unfold giveCO at h
    unfold giveCells
    split at h
    · obtain ⟨y, hy, rfl⟩ := Option.map_eq_some_iff.1 h
      exact giveCO_ok hy _ hk
    · simp only
      split at h
      · rename_i hc
        rw [if_pos hc]
        split at h
        · rename_i hg
          simp only [hg]
          split at h
          · rename_i hl
            obtain ⟨y, hy, rfl⟩ := Option.map_eq_some_iff.1 h
            exact ⟨hl, giveCO_ok hy _ hk⟩
          · cases h
        · rename_i hg
          simp only [hg]
          split at h
          · rename_i hl
            split at h
            · rename_i hall
              obtain ⟨y, hy, rfl⟩ := Option.map_eq_some_iff.1 h
              exact ⟨hl, bcase_intro (fun _ => giveCO_ok hy _ hk) (fun hf => by rw [hall] at hf; cases hf)⟩
            · cases h
          · cases h
        · cases h
      · cases h
    · rename_i h1 h2
      split
      · exact absurd rfl h1
      · exact absurd rfl (h2 _ _ _)
      · split at h
        · rename_i hp
          obtain ⟨y, hy, rfl⟩ := Option.map_eq_some_iff.1 h
          rw [if_pos hp]
          exact giveCO_ok hy _ hk
        · cases h
theorem giveVO_ok : ∀ {l : List Value} {used : List Nat} {ds : List D}, giveVO H used l = some ds → ∀ k : List D → Prop, k ds → giveVals H used l k
  | [], used, ds, h, k, hk => by
    simp only [giveVO, Option.some.injEq] at h; subst h; exact hk
  | v :: r, used, ds, h, k, hk => by
    unfold giveVO at h
    unfold giveVals
    split at h
    · rename_i e; cases e
    · rename_i e; cases e
      obtain ⟨x, hx, h⟩ := Option.bind_eq_some_iff.1 h
      obtain ⟨y, hy, rfl⟩ := Option.map_eq_some_iff.1 h
      exact giveCO_ok hx _ (giveVO_ok hy _ hk)
    · rename_i h1 e; cases e
      obtain ⟨x, hx, h⟩ := Option.bind_eq_some_iff.1 h
      obtain ⟨y, hy, rfl⟩ := Option.map_eq_some_iff.1 h
      split
      · rename_i e; cases e
      · rename_i e; cases e; exact absurd rfl (h1 _)
      · rename_i e; cases e
        exact giveCO_ok hx _ (giveVO_ok hy _ hk)
theorem giveO_ok {v : Value} {ds : List D} (h : giveO v H = some ds) : dataK (· = ds) v H := by
  unfold giveO at h
  unfold dataK
  split at h
  · split at h
    · cases h
    · rename_i hs
      simp only [if_neg hs]
      exact giveVO_ok h _ rfl
  · rename_i hn
    split
    · exact absurd rfl (hn _)
    · exact giveVO_ok h _ rfl

/-! ### Data compared -/
def cEq : Value → Value → Bool
  | .int j a, .int k b => j == k && a == b
  | .bool a, .bool b => a == b
  | .string a, .string b => a.data.toList == b.data.toList
  | _, _ => false
def csEq : List Value → List Value → Bool
  | [], [] => true
  | a :: xs, b :: bs => cEq a b && csEq xs bs
  | _, _ => false
def d1Eq : D → D → Bool
  | .nil, .nil => true
  | .val a, .val b => cEq a b
  | .sl n es cs, .sl m fs bs => n == m && es == fs && csEq cs bs
  | _, _ => false
def d2Eq : List D → List D → Bool
  | [], [] => true
  | a :: xs, b :: bs => d1Eq a b && d2Eq xs bs
  | _, _ => false
def dEq : D → D → Bool
  | .agg a, .agg b => d2Eq a b
  | a, b => d1Eq a b
def dsEq : List D → List D → Bool
  | [], [] => true
  | a :: xs, b :: bs => dEq a b && dsEq xs bs
  | _, _ => false
theorem cEq_ok : ∀ {a b : Value}, cEq a b = true → a = b := by
  intro a b h
  unfold cEq at h
  split at h
  · simp only [Bool.and_eq_true, beq_iff_eq] at h; rw [h.1, h.2]
  · rw [eq_of_beq h]
  · rename_i x y
    have e := eq_of_beq h
    obtain ⟨x⟩ := x
    obtain ⟨y⟩ := y
    have : x = y := Array.ext' e
    rw [this]
  · cases h
theorem csEq_ok : ∀ {a b : List Value}, csEq a b = true → a = b
  | [], [], _ => rfl
  | a :: xs, b :: bs, h => by
    simp only [csEq, Bool.and_eq_true] at h
    rw [cEq_ok h.1, csEq_ok h.2]
  | [], _ :: _, h => by cases h
  | _ :: _, [], h => by cases h
theorem d1Eq_ok {a b : D} (h : d1Eq a b = true) : a = b := by
  unfold d1Eq at h
  split at h
  · rfl
  · rw [cEq_ok h]
  · simp only [Bool.and_eq_true, beq_iff_eq] at h
    rw [h.1.1, h.1.2, csEq_ok h.2]
  · cases h
theorem d2Eq_ok : ∀ {a b : List D}, d2Eq a b = true → a = b
  | [], [], _ => rfl
  | a :: xs, b :: bs, h => by
    simp only [d2Eq, Bool.and_eq_true] at h
    rw [d1Eq_ok h.1, d2Eq_ok h.2]
  | [], _ :: _, h => by cases h
  | _ :: _, [], h => by cases h
theorem dEq_ok {a b : D} (h : dEq a b = true) : a = b := by
  unfold dEq at h
  split at h
  · rw [d2Eq_ok h]
  · exact d1Eq_ok h
theorem dsEq_ok : ∀ {a b : List D}, dsEq a b = true → a = b
  | [], [], _ => rfl
  | a :: xs, b :: bs, h => by
    simp only [dsEq, Bool.and_eq_true] at h
    rw [dEq_ok h.1, dsEq_ok h.2]
  | [], _ :: _, h => by cases h
  | _ :: _, [], h => by cases h

/-! ### The evaluator with a table -/
abbrev Tab := FuncId → Option (List D → Option (List D))
def tabCall (t : List D → Option (List D)) (args : Array Value) (H : Heap) : Option (Value × Heap) :=
  (readVO H args.toList).bind fun ds => (t ds).bind fun rs => (layVO rs H).map fun x => (tupleOf x.1, x.2)
def evalT (P : Program) (tab : Tab) : Nat → Self
  | 0 => ⟨fun _ _ _ => none, fun _ _ _ _ => none⟩
  | n + 1 => ⟨fun f args H => match tab f with | none => callBody P (evalT P tab n) f args H | some t => tabCall t args H, fun round c A H => codeA P (evalT P tab n) round c A H⟩
def TabOK (P : Program) (tab : Tab) : Prop := ∀ f t, tab f = some t → ∀ ds rs, t ds = some rs → Con P f ds rs
theorem tabCall_sound {f : FuncId} {t : List D → Option (List D)} (ht : ∀ ds rs, t ds = some rs → Con P f ds rs) {args : Array Value} {v : Value} {H' : Heap} (h : tabCall t args H = some (v, H')) : CallH P f args H (fun u K => u = v ∧ K = H') := by
  obtain ⟨ds, h1, h⟩ := Option.bind_eq_some_iff.1 h
  obtain ⟨rs, h2, h⟩ := Option.bind_eq_some_iff.1 h
  obtain ⟨x, h3, h⟩ := Option.map_eq_some_iff.1 h
  simp only [Prod.mk.injEq] at h
  obtain ⟨rfl, rfl⟩ := h
  refine wpFix_call (C := fun g ds rs => g = f ∧ t ds = some rs ∨ Con P g ds rs) (fun g ds rs hc => ?_) (fix := t) ?_
  · rcases hc with ⟨rfl, hm⟩ | hc
    · exact ht _ _ hm
    · exact hc
  · unfold wpFix
    refine readVO_ok h1 _ ?_
    simp only [h2]
    exact ⟨⟨.inl ⟨rfl, h2⟩⟩, layVO_ok h3 _ ⟨rfl, rfl⟩⟩
theorem evalT_sound {tab : Tab} (htab : TabOK P tab) (hmix : P.follows .mixedOrders = true) : ∀ n, SelfS P w0 (evalT P tab n)
  | 0 => ⟨fun n _ _ h => by simp [evalT] at h, fun n _ _ _ h => by simp [evalT] at h, fun n _ _ _ h => by simp [evalT] at h⟩
  | k + 1 => ⟨fun {ρ H w f args args' v H'} n g ha h => by
      simp only [evalT] at h
      split at h
      · exact callBody_sound (evalT_sound htab hmix k) g n ha h
      · rename_i t ht
        refine (tabCall_sound (htab f t ht) h w0 ρ w args' n g ha).mono ?_
        rintro e w' ⟨u, K, ρ', v', ⟨rfl, rfl⟩, h1, h2, h3, h4⟩
        exact ⟨ρ', v', h1, h2, h3, h4⟩, fun n g rr ra h => codeA_sound (evalT_sound htab hmix k) hmix n _ g rr ra h,
      fun n g rr ra h => loopIn_once (loop_body (evalT_sound htab hmix k) n _ (fun g rr ra h => codeA_sound (evalT_sound htab hmix k) hmix n _ g rr ra h) g rr ra h)⟩
/-- A call of known data is run. -/
def runOK (P : Program) (tab : Tab) (n : Nat) (f : FuncId) (ds rs : List D) (caps : Nat → Nat) : Bool :=
  match (evalT P tab n).call f (layVals caps 500 ds).1.toArray (heapOf (layVals caps 500 ds).2) with
  | some (v, H) => (match giveO v H with | some rs' => dsEq rs' rs | none => false)
  | none => false
theorem con_run {tab : Tab} (htab : TabOK P tab) (hmix : P.follows .mixedOrders = true) {n : Nat} {f : FuncId} {ds rs : List D} (hcount : countV ds ≤ 400) (h : ∀ caps, runOK P tab n f ds rs caps = true) : Con P f ds rs := by
  intro w args hgood hr
  obtain ⟨caps, ρ, hst, g, ha⟩ := lay_gam hgood hr hcount
  have h := h caps
  unfold runOK at h
  split at h
  · rename_i v H hc
    split at h
    · rename_i rs' hg
      have e := dsEq_ok h
      subst e
      refine callsIn_wide.1 (((evalT_sound htab hmix n).call 0 g (by simpa using ha) hc).mono ?_)
      rintro e w' ⟨ρ', v', rfl, hv, g', ext'⟩
      obtain ⟨vs, ds', u, rfl, h1, rfl⟩ := dataK_out g' hst hv (giveO_ok hg)
      exact ⟨⟨vs, u, rfl, h1⟩, g'.below.below hst⟩
    · cases h
  · cases h
end Go.Abs

/- Numbers: greatest divisors, quotients rounded down, fractions in lowest terms. -/
namespace Go.Abs
/-- rounded down, as it is written -/
theorem floor_eq {n b : Int} (hb : 0 < b) : (if n.tmod b < 0 then n.tdiv b - 1 else n.tdiv b) = n / b := by
  rw [Int.tdiv_eq_ediv, Int.tmod_eq_emod]
  have h0 := Int.emod_nonneg n (show b ≠ 0 by omega)
  have h1 := Int.emod_lt_of_pos n hb
  have hs : b.sign = 1 := Int.sign_eq_one_of_pos hb
  have hn : (b.natAbs : Int) = b := by omega
  split
  · rename_i h
    rw [if_neg (by omega)]; omega
  · rename_i h
    have hne : n % b ≠ 0 := fun e => h (.inr (Int.dvd_of_emod_eq_zero e))
    rw [if_pos (by omega), hs]; omega
theorem tdiv_nn {a b : Int} (h : 0 ≤ a) : a.tdiv b = a / b := Int.tdiv_eq_ediv_of_nonneg h
end Go.Abs

/- Fractions in lowest terms: their parts, and how they compare. -/
namespace Go.Abs
/-- a fraction in lowest terms -/
def low (n d : Int) : Int × Int := if d < 0 then ((0 - n).tdiv (Int.gcd n d), (0 - d).tdiv (Int.gcd n d)) else (n.tdiv (Int.gcd n d), d.tdiv (Int.gcd n d))
end Go.Abs

/- Heating: a table's radiance, a step of a slab (no program in it). -/
namespace Go.Proofs.G2
abbrev Pt := Int × Int
/-- between two points -/
def lin (p q : Pt) (x : Int) : Int := p.2 + (x - p.1) * (q.2 - p.2) / (q.1 - p.1)
def radG (x : Int) : Pt → List Pt → Int
  | p, [] => p.2
  | p, q :: r => if x ≤ q.1 then lin p q x else radG x q r
/-- the radiance at a temperature -/
def rad (x : Int) : List Pt → Int
  | [] => 0
  | p :: r => if x ≤ p.1 then p.2 else radG x p r
/-- a point may follow another one -/
def Fol (p q : Pt) : Prop := p.1 < q.1 ∧ p.2 ≤ q.2 ∧ q.2 - p.2 ≤ q.1 - p.1
def In20 (p : Pt) : Prop := (0 ≤ p.1 ∧ p.1 ≤ 20000) ∧ (0 ≤ p.2 ∧ p.2 ≤ 20000)
/-- points that follow one another -/
def Chain : Pt → List Pt → Prop
  | _, [] => True
  | p, q :: r => Fol p q ∧ Chain q r
/-- a table that is valid -/
def OkT : List Pt → Prop
  | [] => False
  | p :: r => (∀ q ∈ p :: r, In20 q) ∧ Chain p r
theorem lin_lo {p q : Pt} (h : Fol p q) : lin p q p.1 = p.2 := by
  obtain ⟨h1, h2, h3⟩ := h
  rw [lin, Int.sub_self, Int.zero_mul, Int.zero_ediv]; omega
theorem lin_hi {p q : Pt} (h : Fol p q) : lin p q q.1 = q.2 := by
  obtain ⟨h1, h2, h3⟩ := h
  rw [lin, Int.mul_ediv_cancel_left _ (by omega)]; omega
theorem lin_step {p q : Pt} (h : Fol p q) {x y : Int} (hx : x ≤ y) : lin p q x ≤ lin p q y ∧ lin p q y ≤ lin p q x + (y - x) := by
  obtain ⟨h1, h2, h3⟩ := h
  unfold lin
  have hn : 0 < q.1 - p.1 := by omega
  generalize q.1 - p.1 = n at *
  have hd : 0 ≤ q.2 - p.2 := by omega
  generalize q.2 - p.2 = d at *
  have e : (y - p.1) * d = (x - p.1) * d + (y - x) * d := by rw [← Int.add_mul]; congr 1; omega
  constructor
  · have := Int.ediv_le_ediv hn (show (x - p.1) * d ≤ (y - p.1) * d from Int.mul_le_mul_of_nonneg_right (by omega) hd)
    omega
  · have h4 : (y - p.1) * d ≤ (x - p.1) * d + (y - x) * n := by
      rw [e]
      have := Int.mul_le_mul_of_nonneg_left (show d ≤ n by omega) (show 0 ≤ y - x by omega)
      omega
    have := Int.ediv_le_ediv hn h4
    rw [Int.add_mul_ediv_right _ _ (by omega)] at this
    omega
theorem radG_lo : ∀ {p : Pt} {r : List Pt}, Chain p r → radG p.1 p r = p.2
  | p, [], _ => rfl
  | p, q :: r, h => by
    have := h.1.1
    rw [radG, if_pos (by omega), lin_lo h.1]
theorem radG_step : ∀ {p : Pt} {r : List Pt}, Chain p r → ∀ {x y : Int}, p.1 ≤ x → x ≤ y → radG x p r ≤ radG y p r ∧ radG y p r ≤ radG x p r + (y - x)
  | p, [], _, x, y, _, h => by simp only [radG]; omega
  | p, q :: r, hc, x, y, hx, hxy => by
    simp only [radG]
    by_cases h1 : y ≤ q.1
    · rw [if_pos h1, if_pos (by omega)]; exact lin_step hc.1 hxy
    · rw [if_neg h1]
      by_cases h2 : x ≤ q.1
      · rw [if_pos h2]
        have a := lin_step hc.1 h2
        rw [lin_hi hc.1] at a
        have b := radG_step hc.2 (Int.le_refl q.1) (show q.1 ≤ y by omega)
        rw [radG_lo hc.2] at b
        omega
      · rw [if_neg h2]; exact radG_step hc.2 (by omega) hxy
theorem rad_step {l : List Pt} (h : OkT l) {x y : Int} (hxy : x ≤ y) : rad x l ≤ rad y l ∧ rad y l ≤ rad x l + (y - x) := by
  cases l with
  | nil => exact h.elim
  | cons p r =>
    have hc := h.2
    simp only [rad]
    by_cases h1 : y ≤ p.1
    · rw [if_pos h1, if_pos (by omega)]; omega
    · rw [if_neg h1]
      by_cases h2 : x ≤ p.1
      · rw [if_pos h2]
        have b := radG_step hc (Int.le_refl p.1) (show p.1 ≤ y by omega)
        rw [radG_lo hc] at b
        omega
      · rw [if_neg h2]; exact radG_step hc (by omega) hxy
theorem lin_in {p q : Pt} (h : Fol p q) {x : Int} (h1 : p.1 ≤ x) (h2 : x ≤ q.1) : p.2 ≤ lin p q x ∧ lin p q x ≤ q.2 := by
  have a := lin_step h h1
  have b := lin_step h h2
  rw [lin_lo h] at a
  rw [lin_hi h] at b
  omega
theorem radG_in : ∀ {p : Pt} {r : List Pt}, (∀ q ∈ p :: r, In20 q) → Chain p r → ∀ {x : Int}, p.1 ≤ x → 0 ≤ radG x p r ∧ radG x p r ≤ 20000
  | p, [], h, _, x, _ => (h p (List.mem_cons_self ..)).2
  | p, q :: r, h, hc, x, hx => by
    simp only [radG]
    have hp := (h p (List.mem_cons_self ..)).2
    have hq := (h q (List.mem_cons_of_mem _ (List.mem_cons_self ..))).2
    by_cases h1 : x ≤ q.1
    · rw [if_pos h1]
      have := lin_in hc.1 hx h1
      omega
    · rw [if_neg h1]; exact radG_in (fun z hz => h z (List.mem_cons_of_mem _ hz)) hc.2 (by omega)
theorem rad_in {l : List Pt} (h : OkT l) (x : Int) : 0 ≤ rad x l ∧ rad x l ≤ 20000 := by
  cases l with
  | nil => exact h.elim
  | cons p r =>
    simp only [rad]
    by_cases h1 : x ≤ p.1
    · rw [if_pos h1]; exact (h.1 p (List.mem_cons_self ..)).2
    · rw [if_neg h1]; exact radG_in h.1 h.2 (by omega)
/-- a node after the first half of a step -/
def half (T : List Pt) (em set share node : Int) : Int := node + em * (rad set T - rad node T) * share / 1000000
theorem half_up (T : List Pt) (em set node : Int) : half T em set 1000 node = node + em * (rad set T - rad node T) / 1000 := by
  rw [half, show (1000000 : Int) = 1000 * 1000 by decide, Int.mul_ediv_mul_of_pos_left _ _ (by decide)]
theorem k_bd {em share : Int} (he : 0 ≤ em ∧ em ≤ 1000) (hs : 0 ≤ share ∧ share ≤ 1000) : 0 ≤ em * share ∧ em * share ≤ 1000000 := by
  have h1 := Int.mul_nonneg he.1 hs.1
  have h2 := Int.mul_le_mul he.2 hs.2 hs.1 (by decide : (0 : Int) ≤ 1000)
  omega
theorem half_k (T : List Pt) (em set share node : Int) : half T em set share node = node + em * share * (rad set T - rad node T) / 1000000 := by
  rw [half, Int.mul_assoc, Int.mul_comm (rad set T - rad node T), ← Int.mul_assoc]
theorem div_shift {a b k : Int} (h : a ≤ b + k * 1000000) : a / 1000000 ≤ b / 1000000 + k := by
  have := Int.ediv_le_ediv (show (0 : Int) < 1000000 by decide) h
  rw [Int.add_mul_ediv_right _ _ (by decide)] at this
  exact this
variable {T : List Pt} {em share : Int}
/-- a warmer node stays warmer -/
theorem half_mono (hT : OkT T) (he : 0 ≤ em ∧ em ≤ 1000) (hs : 0 ≤ share ∧ share ≤ 1000) (set : Int) {a b : Int} (h : a ≤ b) : half T em set share a ≤ half T em set share b := by
  rw [half_k, half_k]
  have hk := k_bd he hs
  have hr := rad_step hT h
  generalize em * share = k at *
  have h1 : k * (rad set T - rad a T) ≤ k * (rad set T - rad b T) + (b - a) * 1000000 := by
    have h2 : k * (rad b T - rad a T) ≤ (b - a) * 1000000 := by
      have h3 := Int.mul_le_mul hk.2 (show rad b T - rad a T ≤ b - a by omega) (by omega) (by decide : (0 : Int) ≤ 1000000)
      rw [Int.mul_comm (b - a)]; exact h3
    have e : k * (rad set T - rad a T) = k * (rad set T - rad b T) + k * (rad b T - rad a T) := by rw [← Int.mul_add]; congr 1; omega
    omega
  have := div_shift h1
  omega
/-- a warmer furnace heats more -/
theorem half_set (hT : OkT T) (he : 0 ≤ em ∧ em ≤ 1000) (hs : 0 ≤ share ∧ share ≤ 1000) {s t : Int} (h : s ≤ t) (a : Int) : half T em s share a ≤ half T em t share a := by
  rw [half_k, half_k]
  have hk := k_bd he hs
  have hr := rad_step hT h
  have := Int.ediv_le_ediv (show (0 : Int) < 1000000 by decide) (Int.mul_le_mul_of_nonneg_left (show rad s T - rad a T ≤ rad t T - rad a T by omega) hk.1)
  omega
theorem half_self (s : Int) : half T em s share s = s := by
  rw [half, Int.sub_self, Int.mul_zero, Int.zero_mul, Int.zero_ediv]; omega
theorem half_in (hT : OkT T) (he : 0 ≤ em ∧ em ≤ 1000) (hs : 0 ≤ share ∧ share ≤ 1000) {lo hi set a : Int} (h1 : lo ≤ a ∧ a ≤ hi) (h2 : lo ≤ set ∧ set ≤ hi) : lo ≤ half T em set share a ∧ half T em set share a ≤ hi := by
  rcases Int.le_total a set with h | h
  · have h3 := half_mono hT he hs set h
    rw [half_self] at h3
    have h4 := half_set hT he hs h a
    rw [half_self] at h4
    omega
  · have h3 := half_mono hT he hs set h
    rw [half_self] at h3
    have h4 := half_set hT he hs h a
    rw [half_self] at h4
    omega
end Go.Proofs.G2

/- A step of a slab (no program in it). -/
namespace Go.Proofs.G2
open Go.Abs
abbrev gd (l : List Int) (i : Nat) : Int := l.getD i 0
theorem gd_at {l : List Int} {i : Nat} (h : i < l.length) : l[i] = gd l i := by rw [gd, List.getD_eq_getElem?_getD, List.getElem?_eq_getElem h]; rfl
theorem gd_mem {l : List Int} {i : Nat} (h : i < l.length) : gd l i ∈ l := by rw [← gd_at h]; exact List.getElem_mem h
theorem gd_set {l : List Int} {k i : Nat} {v : Int} (h : i < l.length) : gd (l.set k v) i = if k = i then v else gd l i := by
  rw [← gd_at (show i < (l.set k v).length by simpa using h), List.getElem_set, ← gd_at h]
theorem gd_map {f : Nat → Int} {n i : Nat} (h : i < n) : gd ((List.range n).map f) i = f i := by
  rw [← gd_at (show i < ((List.range n).map f).length by simpa using h)]; simp
theorem gd_ext {l m : List Int} (hl : l.length = m.length) (h : ∀ i, i < l.length → gd l i = gd m i) : l = m :=
  List.ext_getElem hl fun i h1 h2 => by rw [gd_at h1, gd_at h2]; exact h i h1
@[simp] theorem mixL_length (mix : Int) (l : List Int) : (mixL mix l).length = l.length := by simp [mixL]
theorem gd_mix {mix : Int} {l : List Int} {i : Nat} (h : i < l.length) : gd (mixL mix l) i = mixAt mix l i := gd_map h
theorem mixAt_gd (mix : Int) (l : List Int) (i : Nat) : mixAt mix l i = (mix * (gd l (i - 1) + gd l (min (i + 1) (l.length - 1))) + (100 - 2 * mix) * gd l i) / 100 := rfl
theorem mixAt_mono {mix : Int} (hm : 0 ≤ mix ∧ mix ≤ 50) {l m : List Int} (hl : l.length = m.length) (h : ∀ i, i < l.length → gd l i ≤ gd m i) {i : Nat} (hi : i < l.length) : mixAt mix l i ≤ mixAt mix m i := by
  rw [mixAt_gd, mixAt_gd, ← hl]
  refine Int.ediv_le_ediv (by decide) ?_
  have h1 := h (i - 1) (by omega)
  have h2 := h (min (i + 1) (l.length - 1)) (by omega)
  have h3 := h i hi
  have a := Int.mul_le_mul_of_nonneg_left (show gd l (i - 1) + gd l (min (i + 1) (l.length - 1)) ≤ gd m (i - 1) + gd m (min (i + 1) (l.length - 1)) by omega) hm.1
  have b := Int.mul_le_mul_of_nonneg_left h3 (show 0 ≤ 100 - 2 * mix by omega)
  omega
theorem mixAt_same {mix c : Int} {l : List Int} (h : ∀ i, i < l.length → gd l i = c) {i : Nat} (hi : i < l.length) : mixAt mix l i = c := by
  rw [mixAt_gd, h (i - 1) (by omega), h (min (i + 1) (l.length - 1)) (by omega), h i hi]
  have e : mix * (c + c) + (100 - 2 * mix) * c = c * 100 := by rw [Int.mul_add, Int.sub_mul, Int.mul_assoc 2 mix c]; omega
  rw [e, Int.mul_ediv_cancel _ (by decide)]
theorem mixAt_in {mix lo hi : Int} (hm : 0 ≤ mix ∧ mix ≤ 50) {l : List Int} (h : ∀ i, i < l.length → lo ≤ gd l i ∧ gd l i ≤ hi) {i : Nat} (hi' : i < l.length) : lo ≤ mixAt mix l i ∧ mixAt mix l i ≤ hi := by
  have e1 := mixAt_mono hm (l := List.replicate l.length lo) (m := l) (by simp) (i := i) (by
    intro j hj
    rw [List.length_replicate] at hj
    rw [← gd_at (show j < (List.replicate l.length lo).length by simpa using hj), List.getElem_replicate]
    exact (h j hj).1) (by simpa using hi')
  have e2 := mixAt_mono hm (l := l) (m := List.replicate l.length hi) (by simp) (i := i) (by
    intro j hj
    rw [← gd_at (show j < (List.replicate l.length hi).length by simpa using hj), List.getElem_replicate]
    exact (h j hj).2) hi'
  rw [mixAt_same (l := List.replicate l.length lo) (c := lo) (fun j hj => by rw [← gd_at hj, List.getElem_replicate]) (by simpa using hi')] at e1
  rw [mixAt_same (l := List.replicate l.length hi) (c := hi) (fun j hj => by rw [← gd_at hj, List.getElem_replicate]) (by simpa using hi')] at e2
  omega
/-- nodes after the first half of a step -/
def firstL (T : List Pt) (em set bo : Int) (l : List Int) : List Int := (l.set 0 (half T em set bo (gd l 0))).set (l.length - 1) (half T em set 1000 (gd l (l.length - 1)))
@[simp] theorem firstL_length (T : List Pt) (em set bo : Int) (l : List Int) : (firstL T em set bo l).length = l.length := by simp [firstL]
theorem gd_first {T : List Pt} {em set bo : Int} {l : List Int} {i : Nat} (hi : i < l.length) : gd (firstL T em set bo l) i = if l.length - 1 = i then half T em set 1000 (gd l i) else if 0 = i then half T em set bo (gd l i) else gd l i := by
  rw [firstL, gd_set (by simpa using hi), gd_set hi]
  by_cases h1 : l.length - 1 = i
  · rw [if_pos h1, if_pos h1, h1]
  · rw [if_neg h1, if_neg h1]
    by_cases h2 : 0 = i
    · rw [if_pos h2, if_pos h2, h2]
    · rw [if_neg h2, if_neg h2]
/-- nodes after a step -/
def stepL (T : List Pt) (mix em set bo : Int) (l : List Int) : List Int := mixL mix (firstL T em set bo l)
@[simp] theorem stepL_length (T : List Pt) (mix em set bo : Int) (l : List Int) : (stepL T mix em set bo l).length = l.length := by simp [stepL]
variable {T : List Pt} {mix em bo : Int}
structure OkS (T : List Pt) (mix em bo : Int) : Prop where
  tab : OkT T
  mix : 0 ≤ mix ∧ mix ≤ 50
  em : 0 ≤ em ∧ em ≤ 1000
  bo : 0 ≤ bo ∧ bo ≤ 1000
theorem first_in (o : OkS T mix em bo) {lo hi set : Int} (hs : lo ≤ set ∧ set ≤ hi) {l : List Int} (h : ∀ i, i < l.length → lo ≤ gd l i ∧ gd l i ≤ hi) {i : Nat} (hi' : i < l.length) : lo ≤ gd (firstL T em set bo l) i ∧ gd (firstL T em set bo l) i ≤ hi := by
  rw [gd_first hi']
  split
  · exact half_in o.tab o.em (by decide) (h i hi') hs
  · split
    · exact half_in o.tab o.em o.bo (h i hi') hs
    · exact h i hi'
end Go.Proofs.G2

/- Chapter 2, heating: what small functions do, in data. -/
namespace Go.Proofs.G5j
open Go Go.Abs Go.Proofs Go.Proofs.G2
set_option maxRecDepth 100000
theorem mixed : Try.prog.follows .mixedOrders = true := by kernel_rfl
abbrev C5 : FuncId → List D → List D → Prop := Con Try.prog
theorem hokE : HandlerOK Try.prog (hE C5) := handlerX_ok mixed (fun g h he => by cases he) (by decide) 6
theorem ite_so {c : Prop} [Decidable c] {α : Type} {x h : α} {r : Option α} (e : (if c then some x else r) = some h) : (c ∧ x = h) ∨ r = some h := by
  by_cases hc : c
  · rw [if_pos hc] at e; exact .inl ⟨hc, Option.some.inj e⟩
  · rw [if_neg hc] at e; exact .inr e
theorem limE1 (lo hi a : Int) : limE lo hi [.int .i64 a] = if lo ≤ a ∧ a ≤ hi then 0 else 2 := by
  simp only [limE]; split <;> split <;> first | rfl | omega
theorem limE2 (lo hi a b : Int) : limE lo hi [.int .i64 a, .int .i64 b] = if (lo ≤ a ∧ a ≤ hi) ∧ lo ≤ b ∧ b ≤ hi then 0 else 2 := by
  simp only [limE]; repeat' split
  all_goals first | rfl | omega
theorem limE4 (lo hi a b c d : Int) : limE lo hi [.int .i64 a, .int .i64 b, .int .i64 c, .int .i64 d] = if (lo ≤ a ∧ a ≤ hi) ∧ (lo ≤ b ∧ b ≤ hi) ∧ (lo ≤ c ∧ c ≤ hi) ∧ lo ≤ d ∧ d ≤ hi then 0 else 2 := by
  simp only [limE]; repeat' split
  all_goals first | rfl | omega
theorem limGood : LimGood Try.prog 71 3 := by
  refine ⟨mixed, ⟨_, _, Try.func71, rfl⟩, fun cap lo hi x => ?_, fun cap lo hi x y => ?_, fun cap lo hi x y z => ?_, fun cap lo hi x y z u => ?_⟩
  · show lm1 cap lo hi x _
    rw [lm1_text, limE1]
    repeat' first | refine bc_dec (fun _ => ?_) (fun _ => ?_) | exact ⟨by rw [if_neg (by omega)], rfl⟩ | exact ⟨by rw [if_pos (by omega)], rfl⟩
  · show lm2 cap lo hi x y _
    rw [lm2_text, limE2]
    repeat' first | refine bc_dec (fun _ => ?_) (fun _ => ?_) | exact ⟨by rw [if_neg (by omega)], rfl⟩ | exact ⟨by rw [if_pos (by omega)], rfl⟩
  · show lm3 cap lo hi x y z _
    rw [lm3_text]
    have e : limE lo hi [.int .i64 x, .int .i64 y, .int .i64 z] = if (lo ≤ x ∧ x ≤ hi) ∧ (lo ≤ y ∧ y ≤ hi) ∧ lo ≤ z ∧ z ≤ hi then 0 else 2 := by
      simp only [limE]; repeat' split
      all_goals first | rfl | omega
    rw [e]
    repeat' first | refine bc_dec (fun _ => ?_) (fun _ => ?_) | exact ⟨by rw [if_neg (by omega)], rfl⟩ | exact ⟨by rw [if_pos (by omega)], rfl⟩
  · show lm4 cap lo hi x y z u _
    rw [lm4_text, limE4]
    repeat' first | refine bc_dec (fun _ => ?_) (fun _ => ?_) | exact ⟨by rw [if_neg (by omega)], rfl⟩ | exact ⟨by rw [if_pos (by omega)], rfl⟩

theorem limE_drop {lo hi : Int} (l : List Int) (i : Nat) (h : i < l.length) : limE lo hi (vi (l.drop i)) = if l[i] < lo ∨ l[i] > hi then 2 else limE lo hi (vi (l.drop (i + 1))) := by
  rw [List.drop_eq_getElem_cons h]; rfl
abbrev lW (lo hi : Int) : Blocks := [(900, .cells [.int .i64 lo] 3 false 1), (901, .cells [.int .i64 hi] 3 false 1)]
theorem limH (cap : Nat) (lo hi : Int) (l : List Int) (hlen : l.length < 1000000000) : CallS Try.prog 71 [.slice (some ⟨500, 0, none⟩) l.length cap, P1 900 0, P1 901 0] ((500, .sym (vi l) false 1) :: lW lo hi) (fun v b => v = .int .i64 (limE lo hi (vi l)) ∧ b = lW lo hi) := by
  let inv : Nat → Prop := fun i => i ≤ l.length ∧ limE lo hi (vi l) = limE lo hi (vi (l.drop i))
  let st : Nat → Slots × Blocks := fun i => zLo1 l.length cap l.length i lo hi (vi l)
  refine callS_ofG (L := fun _ s b => ∃ x, inv x ∧ st x = (s, b)) hokE mixed Try.func71 rfl rfl (ids := [0]) (by kernel_rfl) rfl ?_ (fun id hid => ?_)
  · show gLo _ _ lo hi l.length cap (vi l) _
    rw [gLo_text]
    exact ⟨0, ⟨Nat.zero_le _, rfl⟩, rfl⟩
  · obtain rfl := List.mem_singleton.1 hid
    refine ⟨_, st, inv, fun i => l.length - i, ⟨fun s b h => h, by kernel_rfl, ?_⟩⟩
    rintro i ⟨hi', hm⟩
    show rLo1 _ _ l.length cap l.length (i : Int) lo hi (vi l) _ _ _
    rw [rLo1_text]
    refine bc_dec (fun h => ?_) (fun h => ?_)
    · have hi2 : i < l.length := by omega
      rw [limE_drop l i hi2] at hm
      simp only [bc_t h, bc_t (show (0 : Int) ≤ (i : Int) by omega), Int.toNat_natCast, at1 (vi_at l i hi2)]
      refine bc_dec (fun h1 => ?_) (fun h1 => bc_dec (fun h2 => ?_) (fun h2 => ?_))
      · rw [if_pos (.inl h1)] at hm; exact ⟨by rw [hm], by first | trivial | rfl⟩
      · rw [if_pos (.inr h2)] at hm; exact ⟨by rw [hm], by first | trivial | rfl⟩
      · rw [if_neg (by omega)] at hm
        refine ⟨i + 1, ⟨hi2, hm⟩, by omega, ?_⟩
        rw [w64 (by omega) (by omega)]; rfl
    · show (if 0 = 0 then _ else _)
      rw [if_pos rfl]
      show nLo2 _ _ lo hi _
      rw [nLo2_text]
      have : i = l.length := by omega
      rw [this, List.drop_length] at hm
      exact ⟨by rw [hm]; rfl, rfl⟩
theorem limL_ok {args : List Value} {bs : Blocks} {K : Value → Blocks → Prop} (hk : limL 3 args bs K) : CallS Try.prog 71 args bs K := by
  unfold limL at hk
  split at hk
  · split at hk
    · rename_i hc
      simp only [Bool.and_eq_true, beq_iff_eq] at hc
      obtain ⟨⟨⟨⟨⟨⟨⟨⟨⟨⟨⟨⟨⟨rfl, rfl⟩, rfl⟩, rfl⟩, rfl⟩, rfl⟩, rfl⟩, rfl⟩, rfl⟩, rfl⟩, rfl⟩, rfl⟩, rfl⟩, rfl⟩ := hc
      obtain ⟨l, rfl, rfl, hl, e, he, hK⟩ := hk
      refine callS_mono (limH _ _ _ l hl) ?_
      rintro v b ⟨rfl, rfl⟩
      have e1 : e = limE _ _ (vi l) := limC_out he
      rw [← e1]; exact hK
    · exact hk.elim
  · exact lim_ok limGood hk
/-- nodes of which some have changed -/
def part (mix : Int) (l : List Int) (i : Nat) : List Int := (List.range l.length).map fun k => if k < i then mixAt mix l k else gd l k
@[simp] theorem part_length (mix : Int) (l : List Int) (i : Nat) : (part mix l i).length = l.length := by simp [part]
theorem gd_part {mix : Int} {l : List Int} {i k : Nat} (h : k < l.length) : gd (part mix l i) k = if k < i then mixAt mix l k else gd l k := gd_map h
theorem part_zero (mix : Int) (l : List Int) : part mix l 0 = l := gd_ext (by simp) fun i hi => by rw [gd_part (by simpa using hi), if_neg (by omega)]
theorem part_all (mix : Int) (l : List Int) : part mix l l.length = mixL mix l := gd_ext (by simp) fun i hi => by
  rw [part_length] at hi; rw [gd_part hi, if_pos hi, gd_mix hi]
theorem part_set {mix : Int} {l : List Int} {i : Nat} (_h : i < l.length) : (part mix l i).set i (mixAt mix l i) = part mix l (i + 1) := gd_ext (by simp) fun k hk => by
  have hk : k < l.length := by simpa using hk
  rw [gd_set (by simpa using hk), gd_part hk, gd_part hk]
  by_cases h1 : i = k
  · subst h1; rw [if_pos rfl, if_pos (by omega)]
  · rw [if_neg h1]
    by_cases h2 : k < i
    · rw [if_pos h2, if_pos (by omega)]
    · rw [if_neg h2, if_neg (by omega)]
theorem listSet_vi (l : List Int) (i : Nat) (v : Int) (h : i < l.length) : listSet (vi l) (0 + i * 1) [vI v] = vi (l.set i v) := by
  rw [Nat.zero_add, Nat.mul_one]
  show listSet (l.map _) i [vI v] = (l.set i v).map _
  induction l generalizing i with
  | nil => simp at h
  | cons x r ih =>
    cases i with
    | zero => simp [listSet]
    | succ j =>
      have := ih j (by simpa using h)
      simp only [listSet, List.map_cons, List.set_cons_succ] at this ⊢
      simpa using this
theorem at_gd {l : List Int} {i : Nat} (h : i < l.length) : At (vi l) (0 + i * 1) 1 [vI (gd l i)] := by
  rw [← gd_at h]; exact vi_at l i h
theorem condC (mi a b bo : Int) (n0 c0 : Nat) (l0 : List Value) (c1 : Nat) (l : List Int) (h2 : 2 ≤ l.length) (h3 : l.length ≤ 1000) (hm : 0 ≤ mi ∧ mi ≤ 50) (hg : GoodNums l) :
    CallS Try.prog 56 [.agg #[.slice (some ⟨500, 0, none⟩) n0 c0, .int .i64 mi, .int .i64 a, .int .i64 b, .slice (some ⟨900, 0, none⟩) l.length c1, .int .i64 bo]] [(500, .sym l0 false 2), (900, .sym (vi l) true 1)] (fun v bs => v = .tuple #[] ∧ bs = [(900, .sym (vi (mixL mi l)) true 1)]) := by
  let inv : Nat → Prop := fun i => i ≤ l.length
  let st : Nat → Slots × Blocks := fun i => zCo1 (gd l (i - 1)) l.length c1 l.length i n0 c0 mi a b l.length c1 bo (vi (part mi l i)) l0
  have hG : ∀ i, i < l.length → 0 ≤ gd l i ∧ gd l i ≤ 100000 := fun i hi => hg.all _ (gd_mem hi)
  refine callS_ofG (L := fun _ s b => ∃ x, inv x ∧ st x = (s, b)) hokE mixed Try.func56 rfl rfl (ids := [0]) (by kernel_rfl) rfl ?_ (fun id hid => ?_)
  · show gCo _ _ mi a b bo n0 c0 l0 l.length c1 (vi l) _
    rw [gCo_text]
    refine bc_yes (by omega) ⟨_, at_gd (i := 0) (by omega), 0, Nat.zero_le _, ?_⟩
    show zCo1 _ _ _ _ _ _ _ _ _ _ _ _ _ (vi (part mi l 0)) _ = _
    rw [part_zero]; rfl
  · obtain rfl := List.mem_singleton.1 hid
    refine ⟨_, st, inv, fun i => l.length - i, ⟨fun s b h => h, by kernel_rfl, ?_⟩⟩
    intro i hi
    have hi : i ≤ l.length := hi
    show rCo1 _ _ (gd l (i - 1)) l.length c1 l.length (i : Int) n0 c0 mi a b l.length c1 bo (vi (part mi l i)) l0 _ _ _
    rw [rCo1_text]
    refine bc_dec (fun h => ?_) (fun h => ?_)
    · have hi2 : i < l.length := by omega
      have hz0 : (0 : Int) ≤ (i : Int) := by omega
      have ew : (if IntKind.wrap .i64 ((l.length : Int) - 1) < IntKind.wrap .i64 ((i : Int) + 1) then IntKind.wrap .i64 ((l.length : Int) - 1) else IntKind.wrap .i64 ((i : Int) + 1)) = ((min (i + 1) (l.length - 1) : Nat) : Int) := by
        rw [w64 (z := (l.length : Int) - 1) (by omega) (by omega), w64 (z := (i : Int) + 1) (by omega) (by omega)]
        split <;> omega
      have hj : min (i + 1) (l.length - 1) < l.length := by omega
      have hj0 : (0 : Int) ≤ ((min (i + 1) (l.length - 1) : Nat) : Int) := by omega
      have hj1 : ((min (i + 1) (l.length - 1) : Nat) : Int) < (l.length : Int) := by omega
      have a1 : At (vi (part mi l i)) (0 + i * 1) 1 [vI (gd l i)] := by
        have := at_gd (l := part mi l i) (i := i) (by simpa using hi2)
        rwa [gd_part hi2, if_neg (by omega)] at this
      have a2 : At (vi (part mi l i)) (0 + min (i + 1) (l.length - 1) * 1) 1 [vI (gd l (min (i + 1) (l.length - 1)))] := by
        have := at_gd (l := part mi l i) (i := min (i + 1) (l.length - 1)) (by simpa using hj)
        rwa [gd_part hj, if_neg (by omega)] at this
      simp only [ew, bc_t h, bc_t hz0, bc_t hj0, bc_t hj1, Int.toNat_natCast, at1 a1, at1 a2]
      refine bc_yes (by simp; omega) ?_
      have b1 := hG i hi2
      have b2 := hG (i - 1) (by omega)
      have b3 := hG _ hj
      have p1 := Int.mul_le_mul_of_nonneg_left (show gd l (i - 1) + gd l (min (i + 1) (l.length - 1)) ≤ 200000 by omega) hm.1
      have p2 := Int.mul_nonneg hm.1 (show 0 ≤ gd l (i - 1) + gd l (min (i + 1) (l.length - 1)) by omega)
      have p3 := Int.mul_nonneg (show 0 ≤ 100 - 2 * mi by omega) b1.1
      have p4 := Int.mul_le_mul_of_nonneg_left b1.2 (show 0 ≤ 100 - 2 * mi by omega)
      have ev : IntKind.wrap .i64 (Int.tdiv (IntKind.wrap .i64 (IntKind.wrap .i64 (mi * IntKind.wrap .i64 (gd l (i - 1) + gd l (min (i + 1) (l.length - 1)))) + IntKind.wrap .i64 (IntKind.wrap .i64 (100 - IntKind.wrap .i64 (2 * mi)) * gd l i))) 100) = mixAt mi l i := by
        rw [w64 (z := gd l (i - 1) + gd l (min (i + 1) (l.length - 1))) (by omega) (by omega), w64 (z := 2 * mi) (by omega) (by omega), w64 (z := 100 - 2 * mi) (by omega) (by omega), w64 (z := mi * _) (by omega) (by omega), w64 (z := (100 - 2 * mi) * gd l i) (by omega) (by omega), w64 (z := mi * (gd l (i - 1) + gd l (min (i + 1) (l.length - 1))) + (100 - 2 * mi) * gd l i) (by omega) (by omega), tdiv_nn (by omega)]
        have q1 := Int.ediv_nonneg (show 0 ≤ mi * (gd l (i - 1) + gd l (min (i + 1) (l.length - 1))) + (100 - 2 * mi) * gd l i by omega) (by decide : (0 : Int) ≤ 100)
        have q2 := Int.ediv_le_self 100 (show 0 ≤ mi * (gd l (i - 1) + gd l (min (i + 1) (l.length - 1))) + (100 - 2 * mi) * gd l i by omega)
        rw [w64 (by omega) (by omega)]; rfl
      refine ⟨i + 1, hi2, by omega, ?_⟩
      rw [ev, listSet_vi _ _ _ (by simpa using hi2), part_set hi2, w64 (z := (i : Int) + 1) (by omega) (by omega)]
      rfl
    · show (if 0 = 0 then _ else _)
      rw [if_pos rfl]
      show nCo2 _ _ (vi (part mi l i)) _
      rw [nCo2_text]
      have : i = l.length := by omega
      rw [this, part_all]
      exact ⟨rfl, rfl⟩
theorem condP_ok {args : List Value} {bs : Blocks} {K : Value → Blocks → Prop} (hk : condP args bs K) : CallS Try.prog 56 args bs K := by
  unfold condP at hk
  split at hk
  · rename_i cells _ _ _ _ _ _ _ _
    split at hk
    · rename_i hcells
      split at hk
      · rename_i hc
        simp only [Bool.and_eq_true, beq_iff_eq] at hc
        obtain ⟨⟨⟨⟨⟨⟨⟨rfl, rfl⟩, rfl⟩, rfl⟩, rfl⟩, rfl⟩, rfl⟩, rfl⟩ := hc
        obtain ⟨l, rfl, rfl, h2, h3, h4, h5, h6, hK⟩ := hk
        obtain rfl := Array.toList_inj.1 (show cells.toList = (#[_, _, _, _, _, _] : Array Value).toList from hcells)
        refine callS_mono (condC _ _ _ _ _ _ _ _ l h2 h3 ⟨h4, h5⟩ h6) ?_
        rintro v b ⟨rfl, rfl⟩
        exact hK
      · exact hk.elim
    · exact hk.elim
  · exact hk.elim
theorem preHOK : PreOK Try.prog (preH C5) := by
  intro g h he args ats H k hk
  unfold preH at he
  rcases ite_so he with ⟨e, rfl⟩ | he
  · rw [beq_iff_eq] at e; subst e
    exact wpState_call (fun args bs K hk => limL_ok hk) hk
  rcases ite_so he with ⟨e, rfl⟩ | he
  · rw [beq_iff_eq] at e; subst e
    exact wpState_call (fun args bs K hk => condP_ok hk) hk
  rcases ite_so he with ⟨e, rfl⟩ | he
  · exact fixH_ok (fun _ _ _ h => h) _ _ _ _ _ hk
  rcases ite_so he with ⟨e, rfl⟩ | he
  · exact fixH_ok (fun _ _ _ h => h) _ _ _ _ _ hk
  rcases ite_so he with ⟨e, rfl⟩ | he
  · exact fixH_ok (fun _ _ _ h => h) _ _ _ _ _ hk
  rcases ite_so he with ⟨e, rfl⟩ | he
  · exact fixH_ok (fun _ _ _ h => h) _ _ _ _ _ hk
  rcases ite_so he with ⟨e, rfl⟩ | he
  · exact saidH_ok (fun _ _ _ h => h) _ _ _ _ _ hk
  · cases he
theorem hokH : HandlerOK Try.prog (hH C5) := handlerX_ok mixed preHOK (by decide) 6
end Go.Proofs.G5j

/- What a good world's variables hold, as the library's contracts ask it. -/
namespace Go.Abs
variable {P : Program} {w : World}
end Go.Abs

/- Chapter 2, heating: what the frames of the laws share. -/
namespace Go.Proofs.Ytipfpmiljmlekaa.K
open Go Go.Abs Go.RowKit Go.ChangeShapes Go.WideShapes Go.ChangeAt Go.Proofs Go.Flat
set_option maxRecDepth 100000
theorem own : ownKnob Try.prog.godebug = none := by kernel_rfl
theorem laidP : laidOutB Try.prog = true := by kernel_rfl
theorem mapsP : mapsRowed Try.prog = true := by kernel_rfl
theorem slicesP : ∀ t e, t < Try.prog.types.size → Try.prog.underlying t = some (.slice e) → 0 < Try.prog.cellsOf e := slices_full_of Try.prog (by kernel_rfl)
theorem tsP {l : List TypeId} (h : l.all (fun t => decide (t < Try.prog.types.size)) = true) : ∀ t ∈ l, t < Try.prog.types.size := fun t ht => of_decide_eq_true (List.all_eq_true.1 h t ht)
theorem flat_vi : ∀ l : List Int, (l.flatMap fun a => [Value.int .i64 a]) = vi l
  | [] => rfl
  | a :: r => by rw [List.flatMap_cons, flat_vi r]; rfl
/-- lists of whole numbers -/
theorem leaf_ints {t e : TypeId} {d : D} (ht : Try.prog.underlying t = some (.slice e)) (he : leaves Try.prog 10 e = some [.int .i64]) (h : LeafD Try.prog t d) : d = .nil ∨ ∃ l : List Int, d = .sl l.length 1 (vi l) := by
  unfold LeafD at h
  rw [ht] at h
  simp only at h
  rcases h with h | ⟨n, cs, L, rfl, hL, hn, hl, hc⟩
  · exact .inl h
  · rw [he] at hL
    obtain rfl := Option.some.inj hL
    simp only [List.length_cons, List.length_nil, Nat.zero_add] at hl hc ⊢
    obtain ⟨ps, hp, rfl⟩ := chunks_of (f := fun a : Int => [Value.int .i64 a]) (k := 1) (fun _ => rfl) n cs hl (fun i hi => by
      have := hc i hi
      generalize (cs.drop (i * 1)).take 1 = x at this ⊢
      cases this with
      | cons h t => cases t; obtain ⟨a, rfl, _⟩ := h; exact ⟨a, rfl⟩)
    refine .inr ⟨ps, ?_⟩
    rw [hp]
    rw [flat_vi]
theorem leaf_int {t : TypeId} {d : D} (ht : Try.prog.underlying t = some (.int .i64)) (h : LeafD Try.prog t d) : ∃ n : Int, d = dI n ∧ (-9223372036854775808 ≤ n ∧ n ≤ 9223372036854775807) := by
  unfold LeafD at h
  rw [ht] at h
  obtain ⟨n, rfl, hw⟩ := h
  exact ⟨n, rfl, wf64 hw⟩
end Go.Proofs.Ytipfpmiljmlekaa.K
namespace Go.Proofs.Ytipfpmiljmlekaa.K
open Go Go.Abs Go.RowKit Go.ChangeShapes Go.WideShapes Go.ChangeAt Go.Proofs Go.Flat
set_option maxRecDepth 100000
theorem flat_vp : ∀ l : List (Int × Int), (l.flatMap fun p => [Value.int .i64 p.1, Value.int .i64 p.2]) = vp l
  | [] => rfl
  | a :: r => by rw [List.flatMap_cons, flat_vp r]; rfl
/-- lists of pairs of whole numbers, each of them of 64 bits -/
theorem leaf_prs {t e : TypeId} {d : D} (ht : Try.prog.underlying t = some (.slice e)) (he : leaves Try.prog 10 e = some [.int .i64, .int .i64]) (h : LeafD Try.prog t d) : d = .nil ∨ ∃ l : List (Int × Int), d = .sl l.length 2 (vp l) ∧ ∀ f ∈ l, (-9223372036854775808 ≤ f.1 ∧ f.1 ≤ 9223372036854775807) ∧ (-9223372036854775808 ≤ f.2 ∧ f.2 ≤ 9223372036854775807) := by
  unfold LeafD at h
  rw [ht] at h
  simp only at h
  rcases h with h | ⟨n, cs, L, rfl, hL, hn, hl, hc⟩
  · exact .inl h
  · rw [he] at hL
    obtain rfl := Option.some.inj hL
    simp only [List.length_cons, List.length_nil, Nat.zero_add] at hl hc ⊢
    have hc2 : ∀ i, i < n → ∃ p : Int × Int, (cs.drop (i * 2)).take 2 = [Value.int .i64 p.1, Value.int .i64 p.2] ∧ (-9223372036854775808 ≤ p.1 ∧ p.1 ≤ 9223372036854775807) ∧ (-9223372036854775808 ≤ p.2 ∧ p.2 ≤ 9223372036854775807) := by
      intro i hi
      have := hc i hi
      generalize (cs.drop (i * 2)).take 2 = x at this ⊢
      cases this with
      | cons h1 t =>
        cases t with
        | cons h2 t =>
          cases t
          obtain ⟨a, rfl, ha⟩ := h1
          obtain ⟨b, rfl, hb⟩ := h2
          exact ⟨(a, b), rfl, wf64 ha, wf64 hb⟩
    obtain ⟨ps, hp, rfl⟩ := chunks_of (f := fun p : Int × Int => [Value.int .i64 p.1, Value.int .i64 p.2]) (k := 2) (fun _ => rfl) n cs hl (fun i hi => by
      obtain ⟨p, hp, _⟩ := hc2 i hi
      exact ⟨p, hp⟩)
    refine .inr ⟨ps, by rw [hp, flat_vp], ?_⟩
    intro f hf
    obtain ⟨i, hi, rfl⟩ := List.mem_iff_getElem.1 hf
    obtain ⟨p, hp2, hw⟩ := hc2 i (by omega)
    rw [flat_vp] at hp2
    have := vp_two ps i hi
    rw [Nat.zero_add] at this
    have e := this.eq.symm.trans hp2
    simp only [List.cons.injEq, Value.int.injEq, true_and, and_true] at e
    rw [e.1, e.2]; exact hw
theorem good0 (W : World) : GoodW Try.prog W := fun p hp => by
  rw [show varsOf Try.prog = [] by kernel_rfl] at hp
  cases hp
end Go.Proofs.Ytipfpmiljmlekaa.K
